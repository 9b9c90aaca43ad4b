/- Plain mathematics of numbers in figures of four decimal digits, the lowest first. Rows of ints in memory, and numbers as the reference has them: words for the contracts. Contracts of the reference's less and clean. Contracts of the reference's both: the figures of two numbers together, and of one less the other. Contracts of the reference's Add, by its ways. Contracts of the reference's Add, Neg, Less, Same. Contract of the reference's Same. Contract of the reference's Of. Contract of the reference's Int. -/
import Derived.WalkKit
import Derived.Test.YtfiahpeajccinaaGreatDoorPC
import Derived.WalkSpells
import Derived.Deep.QuietTactic
import Derived.BigQuiet
import Derived.Below
import Derived.OwnWalk
import Derived.Laws.AppendOwn
import Derived.Laws.MakeOwn
import Derived.OneCell
import Derived.Deep.RegionHeld3
import Derived.Deep.DrawnRows
import Derived.WalkLawsBesides
namespace Go.Proofs.YtfiahpeajccinaaGreatDoor
namespace Fg

def val : List Int → Int
  | [] => 0
  | d :: l => d + 10000 * val l
def dig (l : List Int) : Prop := ∀ x ∈ l, 0 ≤ x ∧ x < 10000
def figs (n : Nat) : List Int := if n = 0 then [] else ((n % 10000 : Nat) : Int) :: figs (n / 10000)
termination_by n
decreasing_by omega

theorem figs_zero : figs 0 = [] := by unfold figs; simp
theorem figs_pos {n : Nat} (h : 0 < n) : figs n = ((n % 10000 : Nat) : Int) :: figs (n / 10000) := by
  rw [figs]; rw [if_neg (by omega)]
theorem val_figs (n : Nat) : val (figs n) = n := by
  induction n using Nat.strongRecOn with
  | _ n ih =>
    rcases Nat.eq_zero_or_pos n with rfl | h
    · rw [figs_zero]; rfl
    · rw [figs_pos h, val, ih _ (by omega)]; omega
theorem dig_figs (n : Nat) : dig (figs n) := by
  induction n using Nat.strongRecOn with
  | _ n ih =>
    rcases Nat.eq_zero_or_pos n with rfl | h
    · rw [figs_zero]; intro x hx; cases hx
    · rw [figs_pos h]
      intro x hx
      rcases List.mem_cons.1 hx with rfl | hx
      · omega
      · exact ih _ (by omega) x hx
theorem figs_mono {a b : Nat} (h : a ≤ b) : (figs a).length ≤ (figs b).length := by
  induction b using Nat.strongRecOn generalizing a with
  | _ b ih =>
    rcases Nat.eq_zero_or_pos a with rfl | ha
    · rw [figs_zero]; simp
    · rw [figs_pos ha, figs_pos (by omega : 0 < b), List.length_cons, List.length_cons]
      have := ih (b / 10000) (by omega) (a := a / 10000) (by omega)
      omega
theorem figs_lt {a b : Nat} (h : (figs a).length < (figs b).length) : a < b := by
  rcases Nat.lt_or_ge a b with h1 | h1
  · exact h1
  · have := figs_mono h1; omega
theorem figs_len {n k : Nat} (h : n < 10000 ^ k) : (figs n).length ≤ k := by
  induction k generalizing n with
  | zero => obtain rfl : n = 0 := by simpa using h
            rw [figs_zero]; simp
  | succ k ih =>
    rcases Nat.eq_zero_or_pos n with rfl | hn
    · rw [figs_zero]; simp
    · rw [figs_pos hn, List.length_cons]
      have := ih (n := n / 10000) (by rw [Nat.pow_succ] at h; omega)
      omega

theorem dig_cons {d : Int} {l : List Int} (h : dig (d :: l)) : (0 ≤ d ∧ d < 10000) ∧ dig l :=
  ⟨h d (by simp), fun x hx => h x (by simp [hx])⟩
theorem dig_append {l m : List Int} (h : dig l) (k : dig m) : dig (l ++ m) := by
  intro x hx
  rcases List.mem_append.1 hx with hx | hx
  · exact h x hx
  · exact k x hx
theorem dig_take {l : List Int} (h : dig l) (k : Nat) : dig (l.take k) := fun x hx => h x (List.mem_of_mem_take hx)
theorem dig_one {d : Int} (h0 : 0 ≤ d) (h1 : d < 10000) : dig [d] := by
  intro x hx
  obtain rfl : x = d := by simpa using hx
  exact ⟨h0, h1⟩
theorem dig_zeros (k : Nat) : dig (List.replicate k 0) := by
  intro x hx
  obtain rfl := (List.mem_replicate.1 hx).2
  omega
theorem dig_getD {l : List Int} (h : dig l) (k : Nat) : 0 ≤ l.getD k 0 ∧ l.getD k 0 < 10000 := by
  rw [List.getD_eq_getElem?_getD]
  rcases Nat.lt_or_ge k l.length with hk | hk
  · rw [List.getElem?_eq_getElem hk]; exact h _ (List.getElem_mem hk)
  · rw [List.getElem?_eq_none hk]; exact ⟨Int.le_refl _, by decide⟩
theorem val_append (l m : List Int) : val (l ++ m) = val l + 10000 ^ l.length * val m := by
  induction l with
  | nil => simp [val]
  | cons d l ih =>
    rw [List.cons_append, val, ih, val, List.length_cons, Int.pow_succ, Int.mul_add, Int.mul_comm (10000 ^ l.length) 10000, Int.mul_assoc]
    omega
theorem val_zeros (k : Nat) : val (List.replicate k 0) = 0 := by
  induction k with
  | zero => rfl
  | succ k ih => rw [List.replicate_succ, val, ih]; rfl
theorem val_bd {l : List Int} (h : dig l) : 0 ≤ val l ∧ val l < 10000 ^ l.length := by
  induction l with
  | nil => simp [val]
  | cons d l ih =>
    obtain ⟨h1, h2⟩ := dig_cons h
    have := ih h2
    rw [val, List.length_cons, Int.pow_succ]
    omega
theorem getD_take_succ (l : List Int) (k : Nat) (h : k < l.length) : l.take (k + 1) = l.take k ++ [l.getD k 0] := by
  rw [List.take_succ_eq_append_getElem h]; simp [List.getElem?_eq_getElem h]
theorem val_take_succ (l : List Int) (k : Nat) (h : k < l.length) : val (l.take (k + 1)) = val (l.take k) + 10000 ^ k * l.getD k 0 := by
  rw [getD_take_succ l k h, val_append, List.length_take, Nat.min_eq_left (by omega)]
  simp [val]
theorem val_split (l : List Int) (k : Nat) (h : k < l.length) : val l = val (l.take k) + 10000 ^ k * (l.getD k 0 + 10000 * val (l.drop (k + 1))) := by
  have e : l = l.take k ++ (l.getD k 0 :: l.drop (k + 1)) := by
    have h1 : l.getD k 0 = l[k] := by simp [List.getElem?_eq_getElem h]
    rw [h1, ← List.drop_eq_getElem_cons h, List.take_append_drop]
  have h2 := val_append (l.take k) (l.getD k 0 :: l.drop (k + 1))
  rw [← e, List.length_take, Nat.min_eq_left (by omega)] at h2
  rw [h2, val]

/-- figures without a nought at the high end are those of their number -/
theorem figs_of {l : List Int} (h : dig l) (hz : l = [] ∨ l.getD (l.length - 1) 0 ≠ 0) : l = figs (val l).toNat := by
  induction l with
  | nil => simp [val, figs_zero]
  | cons d l ih =>
    obtain ⟨⟨h0, h1⟩, h2⟩ := dig_cons h
    have hv := (val_bd h2).1
    have hl : l = [] ∨ l.getD (l.length - 1) 0 ≠ 0 := by
      cases l with
      | nil => exact .inl rfl
      | cons e l =>
        right
        rcases hz with hz | hz
        · cases hz
        · simpa using hz
    have hi := ih h2 hl
    have hp : 0 < (val (d :: l)).toNat := by
      rw [val]
      cases l with
      | nil =>
        rcases hz with hz | hz
        · cases hz
        · simp at hz
          simp [val]; omega
      | cons e l =>
        have : 0 < val (e :: l) := by
          rcases (by omega : val (e :: l) = 0 ∨ 0 < val (e :: l)) with h3 | h3
          · rw [h3] at hi
            simp [figs_zero] at hi
          · exact h3
        omega
    rw [figs_pos hp, val]
    have e1 : (d + 10000 * val l).toNat % 10000 = d.toNat := by omega
    have e2 : (d + 10000 * val l).toNat / 10000 = (val l).toNat := by omega
    rw [e1, e2, ← hi]
    congr 1
    omega

/-- clean: behind the loop -/
theorem strip_step {l : List Int} {k : Nat} (hk : k ≤ l.length) (hp : 0 < k) (hz : l.getD (k - 1) 0 = 0) (hv : val (l.take k) = val l) : val (l.take (k - 1)) = val l := by
  have h := val_take_succ l (k - 1) (by omega)
  rw [show k - 1 + 1 = k by omega, hz] at h
  omega
theorem strip_end {l : List Int} {k : Nat} (hd : dig l) (hk : k ≤ l.length) (hz : k = 0 ∨ l.getD (k - 1) 0 ≠ 0) (hv : val (l.take k) = val l) : l.take k = figs (val l).toNat := by
  rw [← hv]
  refine figs_of (dig_take hd k) ?_
  rcases hz with hz | hz
  · left; simp [hz]
  · rcases Nat.eq_zero_or_pos k with h0 | h0
    · left; simp [h0]
    · right
      rw [List.length_take, Nat.min_eq_left hk, List.getD_eq_getElem?_getD, List.getElem?_take, if_pos (by omega), ← List.getD_eq_getElem?_getD]
      exact hz

/-- less: where two lists of one length differ first, from the high end -/
theorem less_at {l m : List Int} {k : Nat} (hl : dig l) (hm : dig m) (h1 : k < l.length) (h2 : k < m.length) (he : l.drop (k + 1) = m.drop (k + 1)) (hlt : l.getD k 0 < m.getD k 0) : val l < val m := by
  rw [val_split l k h1, val_split m k h2, he]
  have a := (val_bd (dig_take hl k)).2
  rw [List.length_take, Nat.min_eq_left (by omega)] at a
  have b := (val_bd (dig_take hm k)).1
  have c : (10000 : Int) ^ k * (l.getD k 0 + 10000 * val (m.drop (k + 1)) + 1) ≤ 10000 ^ k * (m.getD k 0 + 10000 * val (m.drop (k + 1))) :=
    Int.mul_le_mul_of_nonneg_left (by omega) (Int.le_of_lt (Int.pow_pos (by decide)))
  rw [Int.mul_add _ _ 1, Int.mul_one] at c
  omega
theorem drop_eq {l m : List Int} {k : Nat} (h1 : k < l.length) (h2 : k < m.length) (he : l.drop (k + 1) = m.drop (k + 1)) (hx : l.getD k 0 = m.getD k 0) : l.drop k = m.drop k := by
  rw [List.drop_eq_getElem_cons h1, List.drop_eq_getElem_cons h2, he]
  rw [List.getD_eq_getElem?_getD, List.getD_eq_getElem?_getD, List.getElem?_eq_getElem h1, List.getElem?_eq_getElem h2] at hx
  simp at hx
  rw [hx]
end Fg
end Go.Proofs.YtfiahpeajccinaaGreatDoor
namespace Go.Proofs.YtfiahpeajccinaaGreatDoor.W2
open Go.RowKit
open Fg

theorem infoInt : (Tryz.prog.info? 3).map (fun i => (i.zero, i.size, i.bytes)) = some (some (.int .i64 0), 1, 8) := by kernel_rfl

/-- a block below B that is a row of ints -/
def InRow (w : World) (B b : Nat) : Prop := b < B ∧ ∃ cs fz, w.heap[b]? = some (Obj.cells cs 3 fz)
/-- a slice value whose elements are the ints l, in rows below B -/
def Reads (w : World) (B : Nat) (A : Option Addr) (l : List Int) : Prop :=
  l ≠ [] → ∃ b o, A = some ⟨b, o, none⟩ ∧ InRow w B b ∧ ∀ i, i < l.length → w.cell? ⟨b, o + i, none⟩ = some (.int .i64 (l.getD i 0))
theorem below_drewN {B : Nat} {a w : World} (h : Below B a w) (n : Nat) : Below B a (w.drewN n) := h.trans ⟨rfl, rfl, rfl, Nat.le_refl _, fun _ _ => rfl⟩
theorem Reads.below {w w' : World} {B B' : Nat} {A : Option Addr} {l : List Int} (h : Reads w B A l) (hb : Below B' w w') (hB : B ≤ B') : Reads w' B A l := by
  intro hn
  obtain ⟨b, o, e, ⟨hlt, cs, fz, hh⟩, hc⟩ := h hn
  exact ⟨b, o, e, ⟨hlt, cs, fz, (hb.block b (by omega)).trans hh⟩, fun i hi => (hb.cell (p := ⟨b, o + i, none⟩) (by show b < B'; omega)).trans (hc i hi)⟩
theorem Reads.more {w : World} {B B' : Nat} {A : Option Addr} {l : List Int} (h : Reads w B A l) (hB : B ≤ B') : Reads w B' A l := by
  intro hn
  obtain ⟨b, o, e, ⟨hlt, hh⟩, hc⟩ := h hn
  exact ⟨b, o, e, ⟨by omega, hh⟩, hc⟩
theorem Reads.onto {w W : World} {A : Option Addr} {l : List Int} (h : Reads w w.heap.size A l) (hb : Below w.heap.size w W) : Reads W W.heap.size A l :=
  (h.below hb (Nat.le_refl _)).more hb.size
theorem Reads.take {w : World} {B : Nat} {A : Option Addr} {l : List Int} (h : Reads w B A l) (k : Nat) : Reads w B A (l.take k) := by
  intro hn
  have hl : l ≠ [] := by rintro rfl; simp at hn
  obtain ⟨b, o, e, hlt, hc⟩ := h hl
  refine ⟨b, o, e, hlt, fun i hi => ?_⟩
  rw [List.length_take] at hi
  rw [hc i (by omega), List.getD_eq_getElem?_getD, List.getD_eq_getElem?_getD, List.getElem?_take, if_pos (by omega)]
/-- a store into a block that is no row of ints -/
theorem Reads.set {w : World} {B : Nat} {A : Option Addr} {l : List Int} (h : Reads w B A l) {g : Nat} {cs : Array Value} {t : TypeId} {fz : Nat × Nat} (hg : w.heap[g]? = some (Obj.cells cs t fz)) (ht : 3 ≠ t) (i : Nat) (v : Value) :
    Reads (w.setCell ⟨g, i, none⟩ v) B A l := by
  intro hn
  obtain ⟨b, o, e, ⟨hlt, cs', fz', hh⟩, hc⟩ := h hn
  have hne : b ≠ g := by
    rintro rfl
    rw [hh] at hg
    injection hg with hg
    injection hg with _ h2 _
    exact ht h2
  refine ⟨b, o, e, ⟨hlt, cs', fz', (Below.heap_setCell _ _ _ _ hne).trans hh⟩, fun i hi => ?_⟩
  rw [World.cell?_setCell_other _ _ _ _ (by intro h; injection h with h1; exact hne h1.symm)]
  exact hc i hi
theorem own_reads {w : World} {base : Nat} {v : Value} {l : List Int} (h : w.ownsRow base 3 1 v l.length (l.map (Value.int .i64))) : ∃ A c, v = .slice A l.length c ∧ l.length ≤ c ∧ Reads w w.heap.size A l := by
  rcases h.2 with ⟨rfl, h0⟩ | ⟨g, cap, cur, rfl, hb, hh, hle, _⟩
  · obtain rfl : l = [] := List.eq_nil_of_length_eq_zero h0
    exact ⟨none, 0, rfl, Nat.le_refl _, fun hn => absurd rfl hn⟩
  · refine ⟨_, _, rfl, hle, fun _ => ⟨g, 0, rfl, ⟨(Array.getElem?_eq_some_iff.1 hh).1, _, _, hh⟩, fun i hi => ?_⟩⟩
    have := h.cells (g := g) rfl i (.int .i64 (l.getD i 0)) (by simp [List.getElem?_eq_getElem hi])
    have hadd : (⟨g, 0, none⟩ : Addr).add i = ⟨g, 0 + i, none⟩ := by unfold Addr.add; split <;> simp_all
    rwa [hadd] at this
theorem own_kept {w w' : World} {base : Nat} {e : TypeId} {size n : Nat} {v : Value} {xs : List Value} (h : w.ownsRow base e size v n xs) (hb : Below w.heap.size w w') : w'.ownsRow base e size v n xs :=
  World.ownsRow.kept h (row := none) ⟨hb.os, hb.tape, hb.output, hb.size, fun a ha _ => hb.block a ha⟩ (by
    rcases h.2 with ⟨rfl, _⟩ | ⟨g', cap, cur, rfl, _⟩ <;> simp [Value.ownBlock])

/-- a row that the call owns, and a block of another element type, are two -/
theorem own_ne {w : World} {base : Nat} {e t : TypeId} {size n : Nat} {v : Value} {xs : List Value} {g : Nat} {cs : Array Value} {fz : Nat × Nat}
    (h : w.ownsRow base e size v n xs) (hg : w.heap[g]? = some (.cells cs t fz)) (hne : e ≠ t) : some g ≠ v.ownBlock := by
  rcases h.2 with ⟨rfl, _⟩ | ⟨g', cap, cur, rfl, _, hh, _⟩
  · simp [Value.ownBlock]
  · intro he
    have e1 : g = g' := by simpa [Value.ownBlock] using he
    rw [e1, hh] at hg
    injection hg with hg
    injection hg with _ h2 _
    exact hne h2

theorem own_set {w : World} {base : Nat} {e : TypeId} {size n : Nat} {v : Value} {xs : List Value} (h : w.ownsRow base e size v n xs) {g : Nat} {cs : Array Value} {t : TypeId} {fz : Nat × Nat} (hg : w.heap[g]? = some (Obj.cells cs t fz)) (ht : e ≠ t) (i : Nat) (u : Value) :
    (w.setCell ⟨g, i, none⟩ u).ownsRow base e size v n xs :=
  World.ownsRow.kept h (row := some g) ⟨rfl, rfl, rfl, by simp [World.setCell], fun a _ ha => Below.heap_setCell _ _ _ _ (fun e => ha (by rw [e]))⟩ (.inr (Ne.symm (own_ne h hg ht)))
/-- 'append(out, y)' onto a row of ints of the call's own: y lies in a block of its own by then -/
theorem app_int {ops : Array Oper} {rest : List Oper} {o : Oper} {a : Act} {Q : Exit → Act → World → Prop} {w : World} (hgd : o.guard = none) (s x : Operand)
    (ho : o.op = .call { callee := .builtin .append, args := #[s, x], argTypes := #[83, 83] })
    (base : Nat) (v : Value) (n : Nat) (l : List Int) (y : Int) (hs : a.eval s = v) (hx : a.eval x = .slice (some ⟨w.heap.size, 0, none⟩) 1 1)
    (hown : w.ownsRow base 3 1 v n (l.map (Value.int .i64))) (hn : n ≤ 1000000) (hbase : base ≤ w.heap.size)
    (h : ∀ (v' : Value) (w' : World), w'.ownsRow base 3 1 v' (n + 1) ((l ++ [y]).map (Value.int .i64)) → (∀ W, Below base W w → Below base W w') →
      (∀ (g : Nat) (cs : Array Value) (t : TypeId) (fz : Nat × Nat), w.heap[g]? = some (Obj.cells cs t fz) → 3 ≠ t → w'.heap[g]? = some (Obj.cells cs t fz)) → wpList Tryz.prog ops Q rest (a.put o.dst v') w') :
    wpList Tryz.prog ops Q (o :: rest) a (w.alloc (.cells #[.int .i64 y] 3)) := by
  obtain ⟨i0, hi, hz0, hz1, hz2⟩ := info_parts infoInt
  refine wpList_append_own _ hgd s x 83 ho base 3 i0 (.int .i64 0) 1 8 Tryz.underlying83 hi hz0 hz1 hz2 rfl (by decide) v n _ hs (hown.alloc _) ⟨w.heap.size, 0, none⟩ 1 1 [.int .i64 y] hx rfl ?_ ?_ ?_ ?_ ?_ ?_
  · intro j u hu
    match j, hu with
    | 0, hu => simp at hu; subst hu; simp [Addr.add]
  · intro u hu; simp at hu; subst hu; rfl
  · unfold maxLen; omega
  · omega
  · simp; omega
  · intro v' w' h1 h2 _
    refine h v' w' (by rw [List.map_append]; exact h1) (fun W hW => ?_) (fun g cs t fz hg hne => ?_)
    · exact (hW.alloc hbase _).grown h2 (by simp; omega) (fun k hk => (hown.lt k hk).1)
    · have hlt : g < w.heap.size := (Array.getElem?_eq_some_iff.1 hg).1
      rw [h2.block g (by simp; omega) (own_ne hown hg hne)]
      exact (Below.heap_alloc _ _ _ hlt).trans hg

/-- the value of the reference's number z, its figures in blocks below B -/
def Nz (w : World) (B : Nat) (v : Value) (z : Int) : Prop :=
  ∃ A c, v = .agg #[.bool (decide (z < 0)), .slice A (figs z.natAbs).length c] ∧ (figs z.natAbs).length ≤ c ∧ Reads w B A (figs z.natAbs)
theorem Nz.below {w w' : World} {B B' : Nat} {v : Value} {z : Int} (h : Nz w B v z) (hb : Below B' w w') (hB : B ≤ B') : Nz w' B v z := by
  obtain ⟨A, c, e, hc, hr⟩ := h
  exact ⟨A, c, e, hc, hr.below hb hB⟩
theorem Nz.more {w : World} {B B' : Nat} {v : Value} {z : Int} (h : Nz w B v z) (hB : B ≤ B') : Nz w B' v z := by
  obtain ⟨A, c, e, hc, hr⟩ := h
  exact ⟨A, c, e, hc, hr.more hB⟩
theorem Nz.set {w : World} {B : Nat} {v : Value} {z : Int} (h : Nz w B v z) {g : Nat} {cs : Array Value} {t : TypeId} {fz : Nat × Nat} (hg : w.heap[g]? = some (Obj.cells cs t fz)) (ht : 3 ≠ t) (i : Nat) (u : Value) : Nz (w.setCell ⟨g, i, none⟩ u) B v z := by
  obtain ⟨A, c, e, hc, hr⟩ := h
  exact ⟨A, c, e, hc, hr.set hg ht i u⟩
/-- from call to call -/
theorem Nz.on {w w' : World} {v : Value} {z : Int} (h : Nz w w.heap.size v z) (hb : Below w.heap.size w w') : Nz w' w'.heap.size v z :=
  (h.below hb (Nat.le_refl _)).more hb.size

/-- how a call ends that gives the reference's number z -/
def GivesN (z : Int) (w : World) (e : Ending) (w' : World) : Prop := ∃ v, e = .returned v ∧ Nz w' w'.heap.size v z ∧ Below w.heap.size w w'
theorem gives_of {z : Int} {v : Value} {w W : World} (h : Nz w w.heap.size v z) (hb : Below w.heap.size w W) : GivesN z w (.returned v) W := ⟨v, rfl, h.on hb, hb⟩
/-- how a call ends that gives the ints l -/
def GivesRow (P : List Int → Prop) (w : World) (e : Ending) (w' : World) : Prop := ∃ A l c, e = .returned (.slice A l.length c) ∧ l.length ≤ c ∧ Reads w' w'.heap.size A l ∧ P l ∧ Below w.heap.size w w'

/-- a block known whole -/
def Blk (w : World) (g : Nat) (t : TypeId) (cs : Array Value) : Prop := w.heap[g]? = some (Obj.cells cs t (0, 0))
theorem Blk.lt {w : World} {g : Nat} {t : TypeId} {cs : Array Value} (h : Blk w g t cs) : g < w.heap.size := (Array.getElem?_eq_some_iff.1 h).1
theorem Blk.cell {w : World} {g : Nat} {t : TypeId} {cs : Array Value} (h : Blk w g t cs) (i : Nat) : w.cell? ⟨g, i, none⟩ = cs[i]? := cell_of_row w g i cs t (0, 0) h
theorem Blk.free {w : World} {g : Nat} {t : TypeId} {cs : Array Value} (h : Blk w g t cs) (i : Nat) : w.frozen? ⟨g, i, none⟩ = false := by
  unfold Blk at h
  simp [World.frozen?, h]
theorem Blk.new (w : World) (t : TypeId) (cs : Array Value) : Blk (w.alloc (.cells cs t)) w.heap.size t cs := heap_alloc_new w _
theorem Blk.alloc {w : World} {g : Nat} {t : TypeId} {cs : Array Value} (h : Blk w g t cs) (o : Obj) : Blk (w.alloc o) g t cs := (Below.heap_alloc w o g h.lt).trans h
theorem Blk.drew {w : World} {g : Nat} {t : TypeId} {cs : Array Value} (h : Blk w g t cs) : Blk w.drew g t cs := h
theorem Blk.on {w w' : World} {g B : Nat} {t : TypeId} {cs : Array Value} (h : Blk w g t cs) (hb : Below B w w') (hB : g < B) : Blk w' g t cs := (hb.block g hB).trans h
theorem Blk.set_ {w : World} {g : Nat} {t : TypeId} {cs : Array Value} (h : Blk w g t cs) (i : Nat) (u : Value) : Blk (w.setCell ⟨g, i, none⟩ u) g t (cs.setIfInBounds i u) := by
  unfold Blk at h ⊢
  simp [World.setCell, Array.getElem?_modify, h]
theorem Blk.far {w : World} {g : Nat} {t : TypeId} {cs : Array Value} (h : Blk w g t cs) {p : Addr} (hp : g ≠ p.block) (u : Value) : Blk (w.setCell p u) g t cs := (Below.heap_setCell w p u g hp).trans h
end Go.Proofs.YtfiahpeajccinaaGreatDoor.W2
namespace Go.Proofs.YtfiahpeajccinaaGreatDoor.W2
open Go.RowKit
open Fg
attribute [local go_sem ↓] Go.wp_at_zero Go.wp_at_succ

def lessB (l m : List Int) : Bool := if l.length = m.length then decide (val l < val m) else decide (l.length < m.length)
theorem lessB_ne {l m : List Int} (h : l.length ≠ m.length) : lessB l m = decide (l.length < m.length) := if_neg h
theorem lessB_eq {l m : List Int} (h : l.length = m.length) : lessB l m = decide (val l < val m) := if_pos h

set_option maxRecDepth 100000 in
set_option maxHeartbeats 2000000 in
theorem less_any (l m : List Int) (A C : Option Addr) (c d : Nat) (w : World) (hl : dig l) (hm : dig m) (ll : l.length ≤ 3000) (lm : m.length ≤ 3000) (rl : Reads w w.heap.size A l) (rm : Reads w w.heap.size C m) :
    Calls Tryz.prog 155 #[.slice A l.length c, .slice C m.length d] w fun e w' => e = .returned (.bool (lessB l m)) ∧ Below w.heap.size w w' := by
  by_cases he : l.length = m.length
  · have t0 : ((l.length : Int) != (m.length : Int)) = false := by simp [he]
    rw [lessB_eq he]
    have He := Lib.hid he
    have Hl := Lib.hid hl
    have Hm := Lib.hid hm
    have Rl := Lib.hid rl
    have Rm := Lib.hid rm
    clear he hl hm rl rm
    go_enter Tryz.func155, Tryz.ntmps155
    go_wp2_with fail
    go_loopw [5] (fun i wr => ∃ (t : Int) (q : Nat), -1 ≤ t ∧ t < l.length ∧ i = .int .i64 t ∧ l.drop (t + 1).toNat = m.drop (t + 1).toNat ∧ wr = w.drewN q) (fun i _ => (intOf i + 1).toNat)
    case atStart =>
      refine ⟨_, 0, by omega, by omega, rfl, ?_, rfl⟩
      rw [List.drop_eq_nil_of_le (by omega), List.drop_eq_nil_of_le (by have := He.out; omega)]
    case round =>
      obtain ⟨t, q, ht1, ht2, rfl, hd, rfl⟩ := hrel
      have Hd := Lib.hid hd
      clear hd
      by_cases hn : t < 0
      · obtain rfl : t = -1 := by omega
        have hv : decide (val l < val m) = false := decide_eq_false (by have := Hd.out; simp at this; rw [this]; omega)
        have Hv := Lib.hid hv
        clear hv
        go_wp2_with fail
        go_ret
        exact ⟨ret_bool Hv.out.symm, below_drewN (Below.refl _ _) _⟩
      · obtain ⟨j, rfl⟩ : ∃ j : Nat, t = (j : Int) := ⟨t.toNat, by omega⟩
        have hj : j < l.length := by omega
        have hjm : j < m.length := by have := He.out; omega
        obtain ⟨b1, o1, rfl, _, c1⟩ := Rl.out (by rintro rfl; simp at hj)
        obtain ⟨b2, o2, rfl, _, c2⟩ := Rm.out (by rintro rfl; simp at hjm)
        have e1 := c1 j hj
        have e2 := c2 j hjm
        clear c1 c2
        have hjm' : (j : Int) < m.length := by omega
        have h1 := drop_eq (l := l) (m := m) (k := j) hj hjm (by have := Hd.out; simpa using this)
        have h2 := less_at (l := l) (m := m) (k := j) Hl.out Hm.out hj hjm (by have := Hd.out; simpa using this)
        have h3 := less_at (l := m) (m := l) (k := j) Hm.out Hl.out hjm hj (by have := Hd.out; simpa using this.symm)
        generalize l.getD j 0 = x at *
        generalize m.getD j 0 = y at *
        have H1 := Lib.hid h1
        have H2 := Lib.hid h2
        have H3 := Lib.hid h3
        clear h1 h2 h3
        by_cases hxy : x = y
        · have t1 : (x != y) = false := by simp; exact hxy
          have E1 := Lib.hid (H1.out hxy)
          clear hxy
          go_wp2_with fail
          go_quiet (fail)
          go_wp2_with fail
          go_roundw
          case rel => exact ⟨(j : Int) - 1, _, by omega, by omega, rfl, by simpa using E1.out, rfl⟩
          case measure => simp [intOf]
        · have t1 : (x != y) = true := by simp; exact hxy
          by_cases hlt : x < y
          · have hv := Lib.hid (show decide (val l < val m) = true from decide_eq_true (H2.out hlt))
            have t2 : decide (x < y) = true := decide_eq_true hlt
            clear hxy
            go_wp2_with fail
            go_quiet (fail)
            go_wp2_with fail
            go_quiet (fail)
            go_wp2_with fail
            go_ret
            exact ⟨ret_bool hv.out.symm, by repeat (first | exact Below.refl _ _ | apply below_drewN)⟩
          · have hv := Lib.hid (show decide (val l < val m) = false from decide_eq_false (by have := H3.out (by omega); omega))
            have t2 : decide (x < y) = false := decide_eq_false hlt
            clear hxy
            go_wp2_with fail
            go_quiet (fail)
            go_wp2_with fail
            go_quiet (fail)
            go_wp2_with fail
            go_ret
            exact ⟨ret_bool hv.out.symm, by repeat (first | exact Below.refl _ _ | apply below_drewN)⟩
  · have t0 : ((l.length : Int) != (m.length : Int)) = true := by simp; omega
    rw [lessB_ne he]
    clear hl hm rl rm he
    go_enter Tryz.func155, Tryz.ntmps155
    go_wp2_with fail
    all_goals go_ret
    all_goals exact ⟨ret_bool (by simp <;> omega), Below.refl _ _⟩

/-- a size with its sign -/
def sgn (b : Bool) (n : Int) : Int := if b = true then -n else n
theorem sgn_true (n : Int) : sgn true n = -n := rfl
theorem sgn_false (n : Int) : sgn false n = n := rfl
theorem nz_mk {w : World} {B : Nat} {A : Option Addr} {l : List Int} {b : Bool} {k c : Nat} (hd : dig l) (hk : k ≤ l.length) (hz : k = 0 ∨ l.getD (k - 1) 0 ≠ 0) (hv : val (l.take k) = val l) (hc : l.length ≤ c) (hr : Reads w B A l) :
    Nz w B (.agg #[.bool (b && decide (0 < k)), .slice A k c]) (sgn b (val l)) := by
  have h1 := strip_end hd hk hz hv
  have h0 := (val_bd hd).1
  have e : (sgn b (val l)).natAbs = (val l).toNat := by cases b <;> simp only [sgn_true, sgn_false] <;> omega
  have h2 : (figs (sgn b (val l)).natAbs).length = k := by rw [e, ← h1, List.length_take]; omega
  refine ⟨A, c, ?_, by omega, by rw [e, ← h1]; exact hr.take k⟩
  rw [h2]
  have h3 : 0 < k ↔ 0 < val l := by
    constructor
    · intro hp
      rcases (by omega : val l = 0 ∨ 0 < val l) with h4 | h4
      · rw [h4, Int.toNat_zero, figs_zero] at h1
        have := congrArg List.length h1
        rw [List.length_take, List.length_nil] at this
        omega
      · exact h4
    · intro hp
      rcases Nat.eq_zero_or_pos k with rfl | h4
      · rw [List.take_zero, val] at hv; omega
      · exact h4
  have h5 : (b && decide (0 < k)) = decide (sgn b (val l) < 0) := by
    cases b
    · simp only [Bool.false_and, sgn_false]; exact (decide_eq_false (by omega)).symm
    · simp only [Bool.true_and, sgn_true]; exact decide_eq_decide.2 (by rw [h3]; omega)
  rw [h5]

set_option maxRecDepth 100000 in
set_option maxHeartbeats 2000000 in
theorem clean_any (b : Bool) (l : List Int) (A : Option Addr) (c : Nat) (w : World) (hd : dig l) (ll : l.length ≤ 3000) (hc : l.length ≤ c) (hr : Reads w w.heap.size A l) :
    Calls Tryz.prog 129 #[.agg #[.bool b, .slice A l.length c]] w (GivesN (sgn b (val l)) w) := by
  have Hd := Lib.hid hd
  have Hr := Lib.hid hr
  clear hd hr
  cases b
  case false =>
    go_enter Tryz.func129, Tryz.ntmps129
    go_wp2_with fail
    go_loop [3] (fun i => ∃ k : Nat, k ≤ l.length ∧ i = .int .i64 k ∧ val (l.take k) = val l) (fun i => (intOf i).toNat)
    case atStart => exact ⟨_, Nat.le_refl _, rfl, by rw [List.take_length]⟩
    case round =>
      obtain ⟨k, hk, rfl, hv⟩ := hrel
      have Hv := Lib.hid hv
      clear hv
      by_cases hp : 0 < k
      · obtain ⟨j, rfl⟩ : ∃ j, k = j + 1 := ⟨k - 1, by omega⟩
        obtain ⟨b1, o1, rfl, ⟨hb1, _⟩, c1⟩ := Hr.out (by rintro rfl; simp at hk)
        have e1 := c1 j (by omega)
        clear c1
        have hs := strip_step hk (by omega) (hv := Hv.out)
        have he := fun bb hz => nz_mk (b := bb) (c := c) Hd.out hk (.inr hz) (hv := Hv.out) (hc := hc) (hr := Hr.out)
        rw [Nat.add_sub_cancel] at hs
        have e2 : j + 1 - 1 = j := by omega
        simp only [e2] at he
        clear e2
        generalize l.getD j 0 = x at *
        have Hs := Lib.hid hs
        have He := Lib.hid he
        clear hs he
        by_cases hx : x = 0
        · have t1 : (x == 0) = true := by simp; exact hx
          have Hx := Lib.hid hx
          have hj : (j : Int) < l.length := by omega
          clear hx
          go_wp2_with fail
          go_round
          case rel => exact ⟨j, by omega, by go_num, Hs.out Hx.out⟩
          case measure => simp [intOf]
        · have t1 : (x == 0) = false := by simp; exact hx
          have Hx := Lib.hid hx
          have hj : (j : Int) < l.length := by omega
          clear hx
          have j0 : (0 : Int) ≤ (j : Int) + 1 := by omega
          have j1 : (j : Int) + 1 ≤ (c : Int) := by omega
          go_wp2_with fail
          go_region
          go_wp2_with fail
          refine bodyPost_ret (v := .agg #[.bool false, .slice (some ⟨b1, o1, none⟩) (j + 1) c]) (by simp [results, Tryz.results129, go_sem]) rfl (gives_of ?_ ?_)
          · simpa using He.out false Hx.out
          · exact (((Below.refl _ _).alloc (Nat.le_refl _) _).alloc (by simp) _).drew
      · obtain rfl : k = 0 := by omega
        have he := fun bb => nz_mk (b := bb) (c := c) Hd.out (Nat.zero_le _) (.inl rfl) (hv := Hv.out) (hc := hc) (hr := Hr.out)
        have He := Lib.hid he
        clear he hp
        go_wp2_with fail
        go_region
        go_wp2_with fail
        refine bodyPost_ret (v := .agg #[.bool false, .slice A 0 c]) (by simp [results, Tryz.results129, go_sem]) rfl (gives_of ?_ ?_)
        · simpa using He.out false
        · exact (((Below.refl _ _).alloc (Nat.le_refl _) _).alloc (by simp) _).drew
  case true =>
    go_enter Tryz.func129, Tryz.ntmps129
    go_wp2_with fail
    go_loop [3] (fun i => ∃ k : Nat, k ≤ l.length ∧ i = .int .i64 k ∧ val (l.take k) = val l) (fun i => (intOf i).toNat)
    case atStart => exact ⟨_, Nat.le_refl _, rfl, by rw [List.take_length]⟩
    case round =>
      obtain ⟨k, hk, rfl, hv⟩ := hrel
      have Hv := Lib.hid hv
      clear hv
      by_cases hp : 0 < k
      · obtain ⟨j, rfl⟩ : ∃ j, k = j + 1 := ⟨k - 1, by omega⟩
        obtain ⟨b1, o1, rfl, ⟨hb1, _⟩, c1⟩ := Hr.out (by rintro rfl; simp at hk)
        have e1 := c1 j (by omega)
        clear c1
        have hs := strip_step hk (by omega) (hv := Hv.out)
        have he := fun bb hz => nz_mk (b := bb) (c := c) Hd.out hk (.inr hz) (hv := Hv.out) (hc := hc) (hr := Hr.out)
        rw [Nat.add_sub_cancel] at hs
        have e2 : j + 1 - 1 = j := by omega
        simp only [e2] at he
        clear e2
        generalize l.getD j 0 = x at *
        have Hs := Lib.hid hs
        have He := Lib.hid he
        clear hs he
        by_cases hx : x = 0
        · have t1 : (x == 0) = true := by simp; exact hx
          have Hx := Lib.hid hx
          have hj : (j : Int) < l.length := by omega
          clear hx
          go_wp2_with fail
          go_round
          case rel => exact ⟨j, by omega, by go_num, Hs.out Hx.out⟩
          case measure => simp [intOf]
        · have t1 : (x == 0) = false := by simp; exact hx
          have Hx := Lib.hid hx
          have hj : (j : Int) < l.length := by omega
          clear hx
          have j0 : (0 : Int) ≤ (j : Int) + 1 := by omega
          have j1 : (j : Int) + 1 ≤ (c : Int) := by omega
          go_wp2_with fail
          go_region
          go_wp2_with fail
          refine bodyPost_ret (v := .agg #[.bool true, .slice (some ⟨b1, o1, none⟩) (j + 1) c]) (by simp [results, Tryz.results129, go_sem]) rfl (gives_of ?_ ?_)
          · simpa using He.out true Hx.out
          · exact (((Below.refl _ _).alloc (Nat.le_refl _) _).alloc (by simp) _).drew
      · obtain rfl : k = 0 := by omega
        have he := fun bb => nz_mk (b := bb) (c := c) Hd.out (Nat.zero_le _) (.inl rfl) (hv := Hv.out) (hc := hc) (hr := Hr.out)
        have He := Lib.hid he
        clear he hp
        go_wp2_with fail
        go_region
        go_wp2_with fail
        refine bodyPost_ret (v := .agg #[.bool false, .slice A 0 c]) (by simp [results, Tryz.results129, go_sem]) rfl (gives_of ?_ ?_)
        · simpa using He.out true
        · exact (((Below.refl _ _).alloc (Nat.le_refl _) _).alloc (by simp) _).drew
end Go.Proofs.YtfiahpeajccinaaGreatDoor.W2
namespace Go.Proofs.YtfiahpeajccinaaGreatDoor.W2
open Go.RowKit
open Fg

theorem take_step (l : List Int) (k : Nat) : val (l.take (k + 1)) = val (l.take k) + 10000 ^ k * l.getD k 0 := by
  rcases Nat.lt_or_ge k l.length with h | h
  · exact val_take_succ l k h
  · rw [List.take_of_length_le (by omega), List.take_of_length_le h, List.getD_eq_getElem?_getD, List.getElem?_eq_none h]
    simp
theorem getD_out {l : List Int} {k : Nat} (h : ¬ k < l.length) : l.getD k 0 = 0 := by
  rw [List.getD_eq_getElem?_getD, List.getElem?_eq_none (by omega)]; rfl
/-- what has been added, one figure more: f is what comes in, f' what stays, o' what goes over -/
theorem both_step {s o o' f' : Int} {l m O : List Int} {k : Nat} (hO : O.length = k) (h : val O + 10000 ^ k * o = val (l.take k) + s * val (m.take k)) (hf : f' + 10000 * o' = o + (l.getD k 0 + s * m.getD k 0)) :
    val (O ++ [f']) + 10000 ^ (k + 1) * o' = val (l.take (k + 1)) + s * val (m.take (k + 1)) := by
  rw [take_step, take_step, val_append, hO, val, val, Int.pow_succ, Int.mul_assoc (10000 ^ k) 10000 o', Int.mul_add s, Int.mul_left_comm s]
  have h2 : (10000 : Int) ^ k * (f' + 10000 * o') = 10000 ^ k * (o + (l.getD k 0 + s * m.getD k 0)) := by rw [hf]
  rw [Int.mul_add, Int.mul_add, Int.mul_add] at h2
  rw [Int.mul_zero, Int.add_zero]
  omega

/-- what stands behind k rounds -/
def BothAt (s : Int) (l m O : List Int) (k : Nat) (o : Int) : Prop := O.length = k ∧ dig O ∧ val O + 10000 ^ k * o = val (l.take k) + s * val (m.take k)
theorem BothAt.zero (s : Int) (l m : List Int) : BothAt s l m [] 0 0 := ⟨rfl, fun x hx => (by cases hx), by simp [val]⟩
theorem BothAt.succ {s o o' f' : Int} {l m O : List Int} {k : Nat} (h : BothAt s l m O k o) (h0 : 0 ≤ f') (h1 : f' < 10000) (hf : f' + 10000 * o' = o + (l.getD k 0 + s * m.getD k 0)) : BothAt s l m (O ++ [f']) (k + 1) o' :=
  ⟨by rw [List.length_append, h.1]; rfl, dig_append h.2.1 (dig_one h0 h1), both_step h.1 h.2.2 hf⟩
theorem BothAt.all {s o : Int} {l m O : List Int} {k : Nat} (h : BothAt s l m O k o) (h1 : ¬ k < l.length) (h2 : ¬ k < m.length) : val O + 10000 ^ k * o = val l + s * val m := by
  have := h.2.2
  rwa [List.take_of_length_le (by omega), List.take_of_length_le (by omega)] at this
theorem BothAt.minus {o : Int} {l m O : List Int} {k : Nat} (h : BothAt (-1) l m O k o) (h1 : ¬ k < l.length) (h2 : ¬ k < m.length) (hle : val m ≤ val l) (ho : o = -1 ∨ o = 0) : o = 0 := by
  have e := h.all h1 h2
  have b := (val_bd h.2.1).2
  rw [h.1] at b
  rcases ho with rfl | rfl
  · omega
  · rfl

set_option maxRecDepth 100000 in
set_option maxHeartbeats 8000000 in
theorem both_plus (l m : List Int) (A C : Option Addr) (c d : Nat) (w : World) (hl : dig l) (hm : dig m) (ll : l.length ≤ 1500) (lm : m.length ≤ 1500) (rl : Reads w w.heap.size A l) (rm : Reads w w.heap.size C m) :
    Calls Tryz.prog 154 #[.slice A l.length c, .slice C m.length d, .int .i64 1] w (GivesRow (fun r => dig r ∧ val r = val l + val m ∧ r.length ≤ l.length + m.length + 1) w) := by
  have Hl := Lib.hid hl
  have Hm := Lib.hid hm
  have Rl := Lib.hid rl
  have Rm := Lib.hid rm
  clear hl hm rl rm
  go_enter Tryz.func154, Tryz.ntmps154
  go_wp2_with fail
  go_loopw [7, 8, 9, 10] (fun v ov i _ wr => ∃ (k : Nat) (o : Int) (O : List Int), k ≤ l.length + m.length ∧ i = .int .i64 k ∧ ov = .int .i64 o ∧ (o = 0 ∨ o = 1) ∧ BothAt 1 l m O k o ∧ wr.ownsRow w.heap.size 3 1 v k (O.map (Value.int .i64)) ∧ Below w.heap.size w wr) (fun _ _ i _ _ => l.length + m.length - (intOf i).toNat)
  case atStart => exact ⟨0, 0, [], Nat.zero_le _, rfl, rfl, by omega, BothAt.zero _ _ _, World.ownsRow_nil _ _ _ _, Below.refl _ _⟩
  case round =>
    obtain ⟨k, o, O, hk, rfl, rfl, ho, hat, hown, hbel⟩ := hrel
    have Hat := Lib.hid hat
    have Hown := Lib.hid hown
    have Hbel := Lib.hid hbel
    clear hat hown hbel
    have dx := dig_getD Hl.out k
    have dy := dig_getD Hm.out k
    have Ho := Lib.hid ho
    have ob : -1 ≤ o ∧ o ≤ 1 := by omega
    obtain ⟨ob1, ob2⟩ := ob
    by_cases h1 : k < l.length
    · by_cases h2 : k < m.length
      · have u1 : decide (k < l.length) = true := decide_eq_true h1
        have u2 : decide (k < m.length) = true := decide_eq_true h2
        have Hs := Lib.hid (fun (f' o' : Int) (h0 : 0 ≤ f') (h1 : f' < 10000) hf => BothAt.succ (f' := f') (o' := o') Hat.out h0 h1 hf)
        obtain ⟨b1, o1, rfl, hbb1, cb1⟩ := Rl.out (by rintro rfl; simp at h1)
        have e1 := (Hbel.out.cell (p := ⟨b1, o1 + k, none⟩) hbb1.1).trans (cb1 k h1)
        clear cb1 hbb1
        obtain ⟨b2, o2, rfl, hbb2, cb2⟩ := Rm.out (by rintro rfl; simp at h2)
        have e2 := (Hbel.out.cell (p := ⟨b2, o2 + k, none⟩) hbb2.1).trans (cb2 k h2)
        clear cb2 hbb2
        generalize l.getD k 0 = x at *
        generalize m.getD k 0 = y at *
        obtain ⟨x0, x1⟩ := dx
        obtain ⟨y0, y1⟩ := dy
        have ho0 : 0 ≤ o := by omega
        clear ho
        by_cases hf : 10000 ≤ o + x + y
        · have t1 : decide (10000 ≤ o + x + y) = true := decide_eq_true hf
          go_wp2_with (at_builtin; refine app_int rfl (.tmp 54) (.tmp 56) rfl w.heap.size _ _ O (o + x + y - 10000) rfl rfl Hown.out (by omega) Hbel.out.size ?_; intro v' w3 hown3 hb3 _)
          have Hown3 := Lib.hid hown3
          have Hbel3 := Lib.hid (hb3 _ Hbel.out)
          clear hown3 hb3
          go_wp2_with fail
          go_roundw
          case rel => exact ⟨k + 1, 1, _, by omega, by go_num, rfl, by omega, Hs.out _ 1 (by omega) (by omega) (by omega), Hown3.out, Hbel3.out⟩
          case measure => simp [intOf]; omega
        · have t1 : decide (10000 ≤ o + x + y) = false := decide_eq_false hf
          go_wp2_with (at_builtin; refine app_int rfl (.tmp 54) (.tmp 56) rfl w.heap.size _ _ O (o + x + y) rfl rfl Hown.out (by omega) Hbel.out.size ?_; intro v' w3 hown3 hb3 _)
          have Hown3 := Lib.hid hown3
          have Hbel3 := Lib.hid (hb3 _ Hbel.out)
          clear hown3 hb3
          go_wp2_with fail
          go_roundw
          case rel => exact ⟨k + 1, 0, _, by omega, by go_num, rfl, by omega, Hs.out _ 0 (by omega) (by omega) (by omega), Hown3.out, Hbel3.out⟩
          case measure => simp [intOf]; omega
      · have u1 : decide (k < l.length) = true := decide_eq_true h1
        have u2 : decide (k < m.length) = false := decide_eq_false h2
        have Hs := Lib.hid (fun (f' o' : Int) (h0 : 0 ≤ f') (h1 : f' < 10000) hf => BothAt.succ (f' := f') (o' := o') Hat.out h0 h1 hf)
        obtain ⟨b1, o1, rfl, hbb1, cb1⟩ := Rl.out (by rintro rfl; simp at h1)
        have e1 := (Hbel.out.cell (p := ⟨b1, o1 + k, none⟩) hbb1.1).trans (cb1 k h1)
        clear cb1 hbb1
        rw [getD_out h2] at Hs
        generalize l.getD k 0 = x at *
        obtain ⟨x0, x1⟩ := dx
        clear dy
        have ho0 : 0 ≤ o := by omega
        clear ho
        by_cases hf : 10000 ≤ o + x
        · have t1 : decide (10000 ≤ o + x) = true := decide_eq_true hf
          go_wp2_with (at_builtin; refine app_int rfl (.tmp 54) (.tmp 56) rfl w.heap.size _ _ O (o + x - 10000) rfl rfl Hown.out (by omega) Hbel.out.size ?_; intro v' w3 hown3 hb3 _)
          have Hown3 := Lib.hid hown3
          have Hbel3 := Lib.hid (hb3 _ Hbel.out)
          clear hown3 hb3
          go_wp2_with fail
          go_roundw
          case rel => exact ⟨k + 1, 1, _, by omega, by go_num, rfl, by omega, Hs.out _ 1 (by omega) (by omega) (by omega), Hown3.out, Hbel3.out⟩
          case measure => simp [intOf]; omega
        · have t1 : decide (10000 ≤ o + x) = false := decide_eq_false hf
          go_wp2_with (at_builtin; refine app_int rfl (.tmp 54) (.tmp 56) rfl w.heap.size _ _ O (o + x) rfl rfl Hown.out (by omega) Hbel.out.size ?_; intro v' w3 hown3 hb3 _)
          have Hown3 := Lib.hid hown3
          have Hbel3 := Lib.hid (hb3 _ Hbel.out)
          clear hown3 hb3
          go_wp2_with fail
          go_roundw
          case rel => exact ⟨k + 1, 0, _, by omega, by go_num, rfl, by omega, Hs.out _ 0 (by omega) (by omega) (by omega), Hown3.out, Hbel3.out⟩
          case measure => simp [intOf]; omega
    · by_cases h2 : k < m.length
      · have u1 : decide (k < l.length) = false := decide_eq_false h1
        have u2 : decide (k < m.length) = true := decide_eq_true h2
        have Hs := Lib.hid (fun (f' o' : Int) (h0 : 0 ≤ f') (h1 : f' < 10000) hf => BothAt.succ (f' := f') (o' := o') Hat.out h0 h1 hf)
        rw [getD_out h1] at Hs
        obtain ⟨b2, o2, rfl, hbb2, cb2⟩ := Rm.out (by rintro rfl; simp at h2)
        have e2 := (Hbel.out.cell (p := ⟨b2, o2 + k, none⟩) hbb2.1).trans (cb2 k h2)
        clear cb2 hbb2
        generalize m.getD k 0 = y at *
        clear dx
        obtain ⟨y0, y1⟩ := dy
        have ho0 : 0 ≤ o := by omega
        clear ho
        by_cases hf : 10000 ≤ o + y
        · have t1 : decide (10000 ≤ o + y) = true := decide_eq_true hf
          go_wp2_with (at_builtin; refine app_int rfl (.tmp 54) (.tmp 56) rfl w.heap.size _ _ O (o + y - 10000) rfl rfl Hown.out (by omega) Hbel.out.size ?_; intro v' w3 hown3 hb3 _)
          have Hown3 := Lib.hid hown3
          have Hbel3 := Lib.hid (hb3 _ Hbel.out)
          clear hown3 hb3
          go_wp2_with fail
          go_roundw
          case rel => exact ⟨k + 1, 1, _, by omega, by go_num, rfl, by omega, Hs.out _ 1 (by omega) (by omega) (by omega), Hown3.out, Hbel3.out⟩
          case measure => simp [intOf]; omega
        · have t1 : decide (10000 ≤ o + y) = false := decide_eq_false hf
          go_wp2_with (at_builtin; refine app_int rfl (.tmp 54) (.tmp 56) rfl w.heap.size _ _ O (o + y) rfl rfl Hown.out (by omega) Hbel.out.size ?_; intro v' w3 hown3 hb3 _)
          have Hown3 := Lib.hid hown3
          have Hbel3 := Lib.hid (hb3 _ Hbel.out)
          clear hown3 hb3
          go_wp2_with fail
          go_roundw
          case rel => exact ⟨k + 1, 0, _, by omega, by go_num, rfl, by omega, Hs.out _ 0 (by omega) (by omega) (by omega), Hown3.out, Hbel3.out⟩
          case measure => simp [intOf]; omega
      · have u1 : decide (k < l.length) = false := decide_eq_false h1
        have u2 : decide (k < m.length) = false := decide_eq_false h2
        clear dx dy
        have Hall := Lib.hid (Hat.out.all h1 h2)
        have Hbd := Lib.hid (val_bd Hat.out.2.1)
        have Hat1 := Lib.hid Hat.out.1
        clear h1 h2
        rcases Ho.out with h0 | h0
        · subst h0
          clear ho
          have Own := Lib.hid (Hat1.out.symm ▸ Hown.out)
          have hres : GivesRow (fun r => dig r ∧ val r = val l + val m ∧ r.length ≤ l.length + m.length + 1) w (.returned u7) wr := by
            obtain ⟨A', c', hv, hc', hr'⟩ := own_reads (l := O) Own.out
            have e := Hall.out
            exact ⟨A', O, c', by rw [hv], hc', hr', ⟨Hat.out.2.1, by omega, by have := Hat1.out; omega⟩, Hbel.out⟩
          have Hres := Lib.hid hres
          clear hres
          go_wp2_with fail
          go_ret
          exact Hres.out
        · subst h0
          clear ho
          go_wp2_with (at_builtin; refine app_int rfl (.tmp 60) (.tmp 62) rfl w.heap.size _ _ O 1 rfl rfl Hown.out (by omega) Hbel.out.size ?_; intro v' w3 hown3 hb3 _)
          have hbel3 := hb3 _ Hbel.out
          have hres : GivesRow (fun r => dig r ∧ val r = val l + val m ∧ r.length ≤ l.length + m.length + 1) w (.returned v') w3 := by
            obtain ⟨A', c', hv, hc', hr'⟩ := own_reads (l := O ++ [1]) (by rw [List.length_append, Hat1.out]; exact hown3)
            refine ⟨A', O ++ [1], c', by rw [hv], hc', hr', ⟨dig_append Hat.out.2.1 (dig_one (by decide) (by decide)), ?_, by rw [List.length_append, Hat1.out]; simp; omega⟩, hbel3⟩
            have e := Hall.out
            rw [val_append, Hat1.out]
            simp only [val]
            omega
          have Hres := Lib.hid hres
          clear hres hown3 hb3 hbel3
          go_wp2_with fail
          go_ret
          exact Hres.out

set_option maxRecDepth 100000 in
set_option maxHeartbeats 8000000 in
theorem both_minus (l m : List Int) (A C : Option Addr) (c d : Nat) (w : World) (hl : dig l) (hm : dig m) (ll : l.length ≤ 1500) (lm : m.length ≤ 1500) (hle : val m ≤ val l) (rl : Reads w w.heap.size A l) (rm : Reads w w.heap.size C m) :
    Calls Tryz.prog 154 #[.slice A l.length c, .slice C m.length d, .int .i64 (-1)] w (GivesRow (fun r => dig r ∧ val r = val l - val m ∧ r.length ≤ l.length + m.length + 1) w) := by
  have Hl := Lib.hid hl
  have Hm := Lib.hid hm
  have Rl := Lib.hid rl
  have Rm := Lib.hid rm
  have Hle := Lib.hid hle
  clear hle
  clear hl hm rl rm
  go_enter Tryz.func154, Tryz.ntmps154
  go_wp2_with fail
  go_loopw [7, 8, 9, 10] (fun v ov i _ wr => ∃ (k : Nat) (o : Int) (O : List Int), k ≤ l.length + m.length ∧ i = .int .i64 k ∧ ov = .int .i64 o ∧ (o = -1 ∨ o = 0) ∧ BothAt (-1) l m O k o ∧ wr.ownsRow w.heap.size 3 1 v k (O.map (Value.int .i64)) ∧ Below w.heap.size w wr) (fun _ _ i _ _ => l.length + m.length - (intOf i).toNat)
  case atStart => exact ⟨0, 0, [], Nat.zero_le _, rfl, rfl, by omega, BothAt.zero _ _ _, World.ownsRow_nil _ _ _ _, Below.refl _ _⟩
  case round =>
    obtain ⟨k, o, O, hk, rfl, rfl, ho, hat, hown, hbel⟩ := hrel
    have Hat := Lib.hid hat
    have Hown := Lib.hid hown
    have Hbel := Lib.hid hbel
    clear hat hown hbel
    have dx := dig_getD Hl.out k
    have dy := dig_getD Hm.out k
    have Ho := Lib.hid ho
    have ob : -1 ≤ o ∧ o ≤ 1 := by omega
    obtain ⟨ob1, ob2⟩ := ob
    by_cases h1 : k < l.length
    · by_cases h2 : k < m.length
      · have u1 : decide (k < l.length) = true := decide_eq_true h1
        have u2 : decide (k < m.length) = true := decide_eq_true h2
        have Hs := Lib.hid (fun (f' o' : Int) (h0 : 0 ≤ f') (h1 : f' < 10000) hf => BothAt.succ (f' := f') (o' := o') Hat.out h0 h1 hf)
        obtain ⟨b1, o1, rfl, hbb1, cb1⟩ := Rl.out (by rintro rfl; simp at h1)
        have e1 := (Hbel.out.cell (p := ⟨b1, o1 + k, none⟩) hbb1.1).trans (cb1 k h1)
        clear cb1 hbb1
        obtain ⟨b2, o2, rfl, hbb2, cb2⟩ := Rm.out (by rintro rfl; simp at h2)
        have e2 := (Hbel.out.cell (p := ⟨b2, o2 + k, none⟩) hbb2.1).trans (cb2 k h2)
        clear cb2 hbb2
        generalize l.getD k 0 = x at *
        generalize m.getD k 0 = y at *
        obtain ⟨x0, x1⟩ := dx
        obtain ⟨y0, y1⟩ := dy
        have ho0 : o ≤ 0 := by omega
        clear ho
        by_cases hf : o + x + -y < 0
        · have t1 : decide (o + x + -y < 0) = true := decide_eq_true hf
          go_wp2_with (at_builtin; refine app_int rfl (.tmp 54) (.tmp 56) rfl w.heap.size _ _ O (o + x + -y + 10000) rfl rfl Hown.out (by omega) Hbel.out.size ?_; intro v' w3 hown3 hb3 _)
          have Hown3 := Lib.hid hown3
          have Hbel3 := Lib.hid (hb3 _ Hbel.out)
          clear hown3 hb3
          go_wp2_with fail
          go_roundw
          case rel => exact ⟨k + 1, (-1), _, by omega, by go_num, rfl, by omega, Hs.out _ (-1) (by omega) (by omega) (by omega), Hown3.out, Hbel3.out⟩
          case measure => simp [intOf]; omega
        · have t1 : decide (o + x + -y < 0) = false := decide_eq_false hf
          go_wp2_with (at_builtin; refine app_int rfl (.tmp 54) (.tmp 56) rfl w.heap.size _ _ O (o + x + -y) rfl rfl Hown.out (by omega) Hbel.out.size ?_; intro v' w3 hown3 hb3 _)
          have Hown3 := Lib.hid hown3
          have Hbel3 := Lib.hid (hb3 _ Hbel.out)
          clear hown3 hb3
          go_wp2_with fail
          go_roundw
          case rel => exact ⟨k + 1, 0, _, by omega, by go_num, rfl, by omega, Hs.out _ 0 (by omega) (by omega) (by omega), Hown3.out, Hbel3.out⟩
          case measure => simp [intOf]; omega
      · have u1 : decide (k < l.length) = true := decide_eq_true h1
        have u2 : decide (k < m.length) = false := decide_eq_false h2
        have Hs := Lib.hid (fun (f' o' : Int) (h0 : 0 ≤ f') (h1 : f' < 10000) hf => BothAt.succ (f' := f') (o' := o') Hat.out h0 h1 hf)
        obtain ⟨b1, o1, rfl, hbb1, cb1⟩ := Rl.out (by rintro rfl; simp at h1)
        have e1 := (Hbel.out.cell (p := ⟨b1, o1 + k, none⟩) hbb1.1).trans (cb1 k h1)
        clear cb1 hbb1
        rw [getD_out h2] at Hs
        generalize l.getD k 0 = x at *
        obtain ⟨x0, x1⟩ := dx
        clear dy
        have ho0 : o ≤ 0 := by omega
        clear ho
        by_cases hf : o + x < 0
        · have t1 : decide (o + x < 0) = true := decide_eq_true hf
          go_wp2_with (at_builtin; refine app_int rfl (.tmp 54) (.tmp 56) rfl w.heap.size _ _ O (o + x + 10000) rfl rfl Hown.out (by omega) Hbel.out.size ?_; intro v' w3 hown3 hb3 _)
          have Hown3 := Lib.hid hown3
          have Hbel3 := Lib.hid (hb3 _ Hbel.out)
          clear hown3 hb3
          go_wp2_with fail
          go_roundw
          case rel => exact ⟨k + 1, (-1), _, by omega, by go_num, rfl, by omega, Hs.out _ (-1) (by omega) (by omega) (by omega), Hown3.out, Hbel3.out⟩
          case measure => simp [intOf]; omega
        · have t1 : decide (o + x < 0) = false := decide_eq_false hf
          go_wp2_with (at_builtin; refine app_int rfl (.tmp 54) (.tmp 56) rfl w.heap.size _ _ O (o + x) rfl rfl Hown.out (by omega) Hbel.out.size ?_; intro v' w3 hown3 hb3 _)
          have Hown3 := Lib.hid hown3
          have Hbel3 := Lib.hid (hb3 _ Hbel.out)
          clear hown3 hb3
          go_wp2_with fail
          go_roundw
          case rel => exact ⟨k + 1, 0, _, by omega, by go_num, rfl, by omega, Hs.out _ 0 (by omega) (by omega) (by omega), Hown3.out, Hbel3.out⟩
          case measure => simp [intOf]; omega
    · by_cases h2 : k < m.length
      · have u1 : decide (k < l.length) = false := decide_eq_false h1
        have u2 : decide (k < m.length) = true := decide_eq_true h2
        have Hs := Lib.hid (fun (f' o' : Int) (h0 : 0 ≤ f') (h1 : f' < 10000) hf => BothAt.succ (f' := f') (o' := o') Hat.out h0 h1 hf)
        rw [getD_out h1] at Hs
        obtain ⟨b2, o2, rfl, hbb2, cb2⟩ := Rm.out (by rintro rfl; simp at h2)
        have e2 := (Hbel.out.cell (p := ⟨b2, o2 + k, none⟩) hbb2.1).trans (cb2 k h2)
        clear cb2 hbb2
        generalize m.getD k 0 = y at *
        clear dx
        obtain ⟨y0, y1⟩ := dy
        have ho0 : o ≤ 0 := by omega
        clear ho
        by_cases hf : o + -y < 0
        · have t1 : decide (o + -y < 0) = true := decide_eq_true hf
          go_wp2_with (at_builtin; refine app_int rfl (.tmp 54) (.tmp 56) rfl w.heap.size _ _ O (o + -y + 10000) rfl rfl Hown.out (by omega) Hbel.out.size ?_; intro v' w3 hown3 hb3 _)
          have Hown3 := Lib.hid hown3
          have Hbel3 := Lib.hid (hb3 _ Hbel.out)
          clear hown3 hb3
          go_wp2_with fail
          go_roundw
          case rel => exact ⟨k + 1, (-1), _, by omega, by go_num, rfl, by omega, Hs.out _ (-1) (by omega) (by omega) (by omega), Hown3.out, Hbel3.out⟩
          case measure => simp [intOf]; omega
        · have t1 : decide (o + -y < 0) = false := decide_eq_false hf
          go_wp2_with (at_builtin; refine app_int rfl (.tmp 54) (.tmp 56) rfl w.heap.size _ _ O (o + -y) rfl rfl Hown.out (by omega) Hbel.out.size ?_; intro v' w3 hown3 hb3 _)
          have Hown3 := Lib.hid hown3
          have Hbel3 := Lib.hid (hb3 _ Hbel.out)
          clear hown3 hb3
          go_wp2_with fail
          go_roundw
          case rel => exact ⟨k + 1, 0, _, by omega, by go_num, rfl, by omega, Hs.out _ 0 (by omega) (by omega) (by omega), Hown3.out, Hbel3.out⟩
          case measure => simp [intOf]; omega
      · have u1 : decide (k < l.length) = false := decide_eq_false h1
        have u2 : decide (k < m.length) = false := decide_eq_false h2
        clear dx dy
        obtain rfl := Hat.out.minus h1 h2 Hle.out Ho.out
        have Hall := Lib.hid (Hat.out.all h1 h2)
        have Hat1 := Lib.hid Hat.out.1
        clear h1 h2 ho
        have Own := Lib.hid (Hat1.out.symm ▸ Hown.out)
        have hres : GivesRow (fun r => dig r ∧ val r = val l - val m ∧ r.length ≤ l.length + m.length + 1) w (.returned u7) wr := by
          obtain ⟨A', c', hv, hc', hr'⟩ := own_reads (l := O) Own.out
          have e := Hall.out
          exact ⟨A', O, c', by rw [hv], hc', hr', ⟨Hat.out.2.1, by omega, by have := Hat1.out; omega⟩, Hbel.out⟩
        have Hres := Lib.hid hres
        clear hres
        go_wp2_with fail
        go_ret
        exact Hres.out
end Go.Proofs.YtfiahpeajccinaaGreatDoor.W2
namespace Go.Proofs.YtfiahpeajccinaaGreatDoor.W2
open Go.RowKit
open Fg
attribute [local go_sem ↓] Go.wp_at_zero Go.wp_at_succ

/-- a number of at most k figures -/
def Sm (k : Nat) (z : Int) : Prop := z.natAbs < 10000 ^ k
theorem Sm.len {k : Nat} {z : Int} (h : Sm k z) : (figs z.natAbs).length ≤ k := figs_len h
theorem Sm.mono {j k : Nat} {z : Int} (h : Sm j z) (hk : j ≤ k) : Sm k z := Nat.lt_of_lt_of_le h (Nat.pow_le_pow_right (by decide) hk)
theorem Sm.add {j k n : Nat} {a b : Int} (h : Sm j a) (g : Sm k b) (hj : j ≤ n) (hk : k ≤ n) : Sm (n + 1) (a + b) := by
  have h1 := h.mono hj
  have g1 := g.mono hk
  unfold Sm at *
  rw [Nat.pow_succ]
  omega
theorem Sm.neg {k : Nat} {z : Int} (h : Sm k z) : Sm k (-z) := by unfold Sm at *; rw [Int.natAbs_neg]; exact h
theorem Sm.mul {j k : Nat} {a b : Int} (h : Sm j a) (g : Sm k b) : Sm (j + k) (a * b) := by
  unfold Sm at *
  rw [Int.natAbs_mul, Nat.pow_add]
  exact Nat.mul_lt_mul'' h g
theorem sm_in {a : Int} (h : In64 a) : Sm 5 a := by
  unfold Sm In64 at *
  omega

/-- what a walk is told of a number's figures -/
theorem nz_open {w : World} {B : Nat} {v : Value} {z : Int} (h : Nz w B v z) (hk : Sm 800 z) : ∃ l A c, v = .agg #[.bool (decide (z < 0)), .slice A l.length c] ∧ l.length ≤ c ∧ l.length ≤ 800 ∧ Reads w B A l ∧ dig l ∧ val l = z.natAbs ∧ l = figs z.natAbs := by
  obtain ⟨A, c, rfl, hc, hr⟩ := h
  exact ⟨_, A, c, rfl, hc, hk.len, hr, dig_figs _, val_figs _, rfl⟩
theorem lessB_figs (a b : Nat) : lessB (figs a) (figs b) = decide (a < b) := by
  by_cases h : (figs a).length = (figs b).length
  · rw [lessB_eq h, val_figs, val_figs]; simp
  · rw [lessB_ne h]
    rcases Nat.lt_or_ge (figs a).length (figs b).length with h1 | h1
    · rw [decide_eq_true h1, decide_eq_true (figs_lt h1)]
    · rw [decide_eq_false (by omega), decide_eq_false (by have := figs_lt (a := b) (b := a) (by omega); omega)]

theorem bcell {W w1 : World} {B : Nat} (hb : Below B W w1) : (∀ b o, b < B → w1.cell? ⟨b, o, none⟩ = W.cell? ⟨b, o, none⟩) ∧ (∀ b o, b < B → w1.frozen? ⟨b, o, none⟩ = W.frozen? ⟨b, o, none⟩) :=
  ⟨fun b o h => hb.cell (p := ⟨b, o, none⟩) h, fun b o h => hb.frozen (p := ⟨b, o, none⟩) h⟩

/-- three new blocks, under names -/
def Three (w W : World) (g1 g2 : Nat) (a b c : Array Value) : Prop :=
  Blk W w.heap.size 85 a ∧ Blk W g1 85 b ∧ Blk W g2 85 c ∧ Below w.heap.size w W ∧ w.heap.size < g1 ∧ g1 < g2 ∧ g2 < W.heap.size
theorem three (w : World) (a b c : Array Value) : Three w (((w.alloc (Obj.cells a 85)).alloc (Obj.cells b 85)).alloc (Obj.cells c 85)) (w.heap.size + 1) (w.heap.size + 1 + 1) a b c := by
  have h1 : (w.alloc (Obj.cells a 85)).heap.size = w.heap.size + 1 := by simp
  have h2 : ((w.alloc (Obj.cells a 85)).alloc (Obj.cells b 85)).heap.size = w.heap.size + 1 + 1 := by simp
  refine ⟨((Blk.new w _ _).alloc _).alloc _, ?_, ?_, (((Below.refl _ _).alloc (Nat.le_refl _) _).alloc (by simp) _).alloc (by simp; omega) _, by omega, by omega, by simp⟩
  · rw [← h1]; exact (Blk.new _ _ _).alloc _
  · rw [← h2]; exact Blk.new _ _ _
/-- the result's block, behind the two stores -/
theorem gives_set {z : Int} {w w3 : World} {g : Nat} {cs : Array Value} {A : Option Addr} {b : Bool} {n c : Nat} (h : Nz w3 w3.heap.size (.agg #[.bool b, .slice A n c]) z) (hb : Below w.heap.size w w3) (hg : Blk w3 g 85 cs) (hw : w.heap.size ≤ g) (u v : Value) :
    GivesN z w (.returned (.agg #[.bool b, .slice A n c])) ((w3.setCell ⟨g, 0, none⟩ u).setCell ⟨g, 1, none⟩ v) := by
  have h1 := (h.set hg (by decide) 0 u).set (hg.set_ 0 u) (by decide) 1 v
  exact ⟨_, rfl, h1.more (by simp [World.setCell]), (hb.setCell hw _).setCell hw _⟩

set_option maxRecDepth 100000 in
set_option maxHeartbeats 4000000 in
theorem add_same (b : Bool) (l m : List Int) (A C : Option Addr) (c d : Nat) (w : World) (hl : dig l) (hm : dig m) (ll : l.length ≤ 800) (lm : m.length ≤ 800) (rl : Reads w w.heap.size A l) (rm : Reads w w.heap.size C m) :
    Calls Tryz.prog 130 #[.agg #[.bool b, .slice A l.length c], .agg #[.bool b, .slice C m.length d]] w (GivesN (sgn b (val l + val m)) w) := by
  have Hl := Lib.hid hl
  have Hm := Lib.hid hm
  have Rl := Lib.hid rl
  have Rm := Lib.hid rm
  clear hl hm rl rm
  go_enter Tryz.func130, Tryz.ntmps130
  go_wp2_with fail
  have h3 := three w #[.bool b, .slice A l.length c] #[.bool b, .slice C m.length d] #[.bool false, .slice none 0 0]
  generalize ((w.alloc (Obj.cells #[.bool b, .slice A l.length c] 85)).alloc (Obj.cells #[.bool b, .slice C m.length d] 85)).alloc (Obj.cells #[.bool false, .slice none 0 0] 85) = W at h3 ⊢
  generalize w.heap.size + 1 + 1 = g2 at h3 ⊢
  generalize w.heap.size + 1 = g1 at h3 ⊢
  obtain ⟨b0, b1, b2, hbw, hz1, hz2, hz3⟩ := h3
  have B0 := Lib.hid b0
  have B1 := Lib.hid b1
  have B2 := Lib.hid b2
  have HBW := Lib.hid hbw
  clear b0 b1 b2 hbw
  have c0 : W.cell? ⟨w.heap.size, 0, none⟩ = some (.bool b) := B0.out.cell 0
  have c1 : W.cell? ⟨w.heap.size, 1, none⟩ = some (.slice A l.length c) := B0.out.cell 1
  have c2 : W.cell? ⟨g1, 1, none⟩ = some (.slice C m.length d) := B1.out.cell 1
  have c3 : W.cell? ⟨g2, 0, none⟩ = some (.bool false) := B2.out.cell 0
  have c4 : W.cell? ⟨g2, 1, none⟩ = some (.slice none 0 0) := B2.out.cell 1
  have f3 : W.frozen? ⟨g2, 0, none⟩ = false := B2.out.free 0
  have f4 : W.frozen? ⟨g2, 1, none⟩ = false := B2.out.free 1
  have l0 : w.heap.size < W.heap.size := by omega
  have l1 : g1 < W.heap.size := by omega
  have n0 : ¬ w.heap.size = g2 := by omega
  have n1 : ¬ g1 = g2 := by omega
  have n2 : ¬ g2 = w.heap.size := by omega
  have n3 : ¬ g2 = g1 := by omega
  go_region_held3 (fun w' => w'.cell? ⟨w.heap.size, 0, none⟩ = some (.bool b) ∧ w'.cell? ⟨w.heap.size, 1, none⟩ = some (.slice A l.length c) ∧ w'.cell? ⟨g1, 1, none⟩ = some (.slice C m.length d))
    (go_keep)
    (first
      | (go_at_call 154; refine (both_plus l m A C c d _ Hl.out Hm.out (by omega) (by omega) (Rl.out.onto HBW.out.drew) (Rm.out.onto HBW.out.drew)).mono ?_
         rintro e w2 ⟨A2, r, cc2, rfl, hc2, hr2, ⟨d1, d2, d3⟩, hb2⟩
         have Hr2 := Lib.hid hr2
         have D1 := Lib.hid d1
         have D2 := Lib.hid d2
         have Hb2 := Lib.hid hb2
         have hs2 := hb2.size
         have l02 : w.heap.size < w2.heap.size := Nat.lt_of_lt_of_le l0 hs2
         have l12 : g1 < w2.heap.size := Nat.lt_of_lt_of_le l1 hs2
         have l22 : g2 < w2.heap.size := Nat.lt_of_lt_of_le hz3 hs2
         obtain ⟨hce, hfr⟩ := bcell hb2
         have k0 := (hce w.heap.size 0 l0).trans c0
         have k1 := (hce w.heap.size 1 l0).trans c1
         have k2 := (hce g1 1 l1).trans c2
         have k3 := (hce g2 0 hz3).trans c3
         have k4 := (hce g2 1 hz3).trans c4
         have k5 := (hfr g2 0 hz3).trans f3
         have k6 := (hfr g2 1 hz3).trans f4
         clear hs2 hce hfr hr2 d1 d2 hb2)
      | (go_at_call 129; refine (clean_any b r A2 cc2 _ D1.out (by omega) hc2 Hr2.out).mono ?_
         rintro e w3 ⟨v, rfl, ⟨A3, cc3, rfl, hc3, hr3⟩, hb3⟩
         obtain ⟨hce3, hfr3⟩ := bcell hb3
         have m0 := (hce3 w.heap.size 0 l02).trans k0
         have m1 := (hce3 w.heap.size 1 l02).trans k1
         have m2 := (hce3 g1 1 l12).trans k2
         have m3 := (hce3 g2 0 l22).trans k3
         have m4 := (hce3 g2 1 l22).trans k4
         have m5 := (hfr3 g2 0 l22).trans k5
         have m6 := (hfr3 g2 1 l22).trans k6
         have Hr3 := Lib.hid hr3
         have Hb3 := Lib.hid hb3
         clear hr3 hb3 hce3 hfr3))
  go_wp2_with fail
  refine bodyPost_ret (v := .agg #[.bool (decide (sgn b (val r) < 0)), .slice A3 (figs (sgn b (val r)).natAbs).length cc3]) (by simp [results, Tryz.results130, go_sem, m3, m4]) rfl ?_
  rw [← D2.out]
  exact gives_set ⟨A3, cc3, rfl, hc3, Hr3.out⟩ ((HBW.out.drew.trans (Hb2.out.mono (Nat.le_of_lt l0))).trans (Hb3.out.mono (Nat.le_of_lt l02))) ((B2.out.drew.on Hb2.out hz3).on Hb3.out l22) (by omega) _ _
set_option maxRecDepth 100000 in
set_option maxHeartbeats 4000000 in
theorem add_diff_lt (b : Bool) (l m : List Int) (A C : Option Addr) (c d : Nat) (w : World) (hl : dig l) (hm : dig m) (ll : l.length ≤ 800) (lm : m.length ≤ 800) (rl : Reads w w.heap.size A l) (rm : Reads w w.heap.size C m) (hs : lessB l m = true) (hle : val l ≤ val m) :
    Calls Tryz.prog 130 #[.agg #[.bool b, .slice A l.length c], .agg #[.bool (!b), .slice C m.length d]] w (GivesN (sgn (!b) (val m - val l)) w) := by
  have Hl := Lib.hid hl
  have Hm := Lib.hid hm
  have Rl := Lib.hid rl
  have Rm := Lib.hid rm
  clear hl hm rl rm
  have HLE := Lib.hid hle
  have HS := Lib.hid hs
  clear hle hs
  have t0 : (b == !b) = false := by cases b <;> rfl
  have t1 : (!(b == !b)) = true := by cases b <;> rfl
  go_enter Tryz.func130, Tryz.ntmps130
  go_wp2_with fail
  have h3 := three w #[.bool b, .slice A l.length c] #[.bool (!b), .slice C m.length d] #[.bool false, .slice none 0 0]
  generalize ((w.alloc (Obj.cells #[.bool b, .slice A l.length c] 85)).alloc (Obj.cells #[.bool (!b), .slice C m.length d] 85)).alloc (Obj.cells #[.bool false, .slice none 0 0] 85) = W at h3 ⊢
  generalize w.heap.size + 1 + 1 = g2 at h3 ⊢
  generalize w.heap.size + 1 = g1 at h3 ⊢
  obtain ⟨b0, b1, b2, hbw, hz1, hz2, hz3⟩ := h3
  have B0 := Lib.hid b0
  have B1 := Lib.hid b1
  have B2 := Lib.hid b2
  have HBW := Lib.hid hbw
  have q0 : W.cell? ⟨w.heap.size, 1, none⟩ = some (.slice A l.length c) := b0.cell 1
  have q1 : W.cell? ⟨g1, 1, none⟩ = some (.slice C m.length d) := b1.cell 1
  have q2 : W.cell? ⟨w.heap.size, 0, none⟩ = some (.bool b) := b0.cell 0
  have q3 : W.cell? ⟨g1, 0, none⟩ = some (.bool (!b)) := b1.cell 0
  clear b0 b1 b2 hbw
  go_wp2_with fail
  refine (less_any l m A C c d _ Hl.out Hm.out (by omega) (by omega) (Rl.out.onto HBW.out) (Rm.out.onto HBW.out)).mono ?_
  rw [HS.out]
  rintro e w1 ⟨rfl, hb1⟩
  have B0 := Lib.hid (B0.out.on hb1 (by omega))
  have B1 := Lib.hid (B1.out.on hb1 (by omega))
  have B2 := Lib.hid (B2.out.on hb1 (by omega))
  have HBW := Lib.hid (HBW.out.trans (hb1.mono HBW.out.size))
  have hz3 : g2 < w1.heap.size := Nat.lt_of_lt_of_le hz3 hb1.size
  clear hb1 q0 q1 q2 q3
  go_wp2_with fail
  have c0 : w1.cell? ⟨g1, 0, none⟩ = some (.bool (!b)) := B1.out.cell 0
  have c1 : w1.cell? ⟨w.heap.size, 1, none⟩ = some (.slice A l.length c) := B0.out.cell 1
  have c2 : w1.cell? ⟨g1, 1, none⟩ = some (.slice C m.length d) := B1.out.cell 1
  have c3 : w1.cell? ⟨g2, 0, none⟩ = some (.bool false) := B2.out.cell 0
  have c4 : w1.cell? ⟨g2, 1, none⟩ = some (.slice none 0 0) := B2.out.cell 1
  have f3 : w1.frozen? ⟨g2, 0, none⟩ = false := B2.out.free 0
  have f4 : w1.frozen? ⟨g2, 1, none⟩ = false := B2.out.free 1
  have l0 : w.heap.size < w1.heap.size := by omega
  have l1 : g1 < w1.heap.size := by omega
  have n0 : ¬ w.heap.size = g2 := by omega
  have n1 : ¬ g1 = g2 := by omega
  have n2 : ¬ g2 = w.heap.size := by omega
  have n3 : ¬ g2 = g1 := by omega
  go_region_held3 (fun w' => w'.cell? ⟨g1, 0, none⟩ = some (.bool (!b)) ∧ w'.cell? ⟨w.heap.size, 1, none⟩ = some (.slice A l.length c) ∧ w'.cell? ⟨g1, 1, none⟩ = some (.slice C m.length d))
    (go_keep)
    (first
      | (go_at_call 154; refine (both_minus m l C A d c _ Hm.out Hl.out (by omega) (by omega) HLE.out (Rm.out.onto HBW.out.drew) (Rl.out.onto HBW.out.drew)).mono ?_
         rintro e w2 ⟨A2, r, cc2, rfl, hc2, hr2, ⟨d1, d2, d3⟩, hb2⟩
         have Hr2 := Lib.hid hr2
         have D1 := Lib.hid d1
         have D2 := Lib.hid d2
         have Hb2 := Lib.hid hb2
         have hs2 := hb2.size
         have l02 : w.heap.size < w2.heap.size := Nat.lt_of_lt_of_le l0 hs2
         have l12 : g1 < w2.heap.size := Nat.lt_of_lt_of_le l1 hs2
         have l22 : g2 < w2.heap.size := Nat.lt_of_lt_of_le hz3 hs2
         obtain ⟨hce, hfr⟩ := bcell hb2
         have k0 := (hce g1 0 l1).trans c0
         have k1 := (hce w.heap.size 1 l0).trans c1
         have k2 := (hce g1 1 l1).trans c2
         have k3 := (hce g2 0 hz3).trans c3
         have k4 := (hce g2 1 hz3).trans c4
         have k5 := (hfr g2 0 hz3).trans f3
         have k6 := (hfr g2 1 hz3).trans f4
         clear hs2 hce hfr hr2 d1 d2 hb2)
      | (go_at_call 129; refine (clean_any (!b) r A2 cc2 _ D1.out (by omega) hc2 Hr2.out).mono ?_
         rintro e w3 ⟨v, rfl, ⟨A3, cc3, rfl, hc3, hr3⟩, hb3⟩
         obtain ⟨hce3, hfr3⟩ := bcell hb3
         have m0 := (hce3 g1 0 l12).trans k0
         have m1 := (hce3 w.heap.size 1 l02).trans k1
         have m2 := (hce3 g1 1 l12).trans k2
         have m3 := (hce3 g2 0 l22).trans k3
         have m4 := (hce3 g2 1 l22).trans k4
         have m5 := (hfr3 g2 0 l22).trans k5
         have m6 := (hfr3 g2 1 l22).trans k6
         have Hr3 := Lib.hid hr3
         have Hb3 := Lib.hid hb3
         clear hr3 hb3 hce3 hfr3))
  go_wp2_with fail
  refine bodyPost_ret (v := .agg #[.bool (decide (sgn (!b) (val r) < 0)), .slice A3 (figs (sgn (!b) (val r)).natAbs).length cc3]) (by simp [results, Tryz.results130, go_sem, m3, m4]) rfl ?_
  rw [← D2.out]
  exact gives_set ⟨A3, cc3, rfl, hc3, Hr3.out⟩ ((HBW.out.drew.trans (Hb2.out.mono (Nat.le_of_lt l0))).trans (Hb3.out.mono (Nat.le_of_lt l02))) ((B2.out.drew.on Hb2.out hz3).on Hb3.out l22) (by omega) _ _
set_option maxRecDepth 100000 in
set_option maxHeartbeats 4000000 in
theorem add_diff_ge (b : Bool) (l m : List Int) (A C : Option Addr) (c d : Nat) (w : World) (hl : dig l) (hm : dig m) (ll : l.length ≤ 800) (lm : m.length ≤ 800) (rl : Reads w w.heap.size A l) (rm : Reads w w.heap.size C m) (hs : lessB l m = false) (hle : val m ≤ val l) :
    Calls Tryz.prog 130 #[.agg #[.bool b, .slice A l.length c], .agg #[.bool (!b), .slice C m.length d]] w (GivesN (sgn b (val l - val m)) w) := by
  have Hl := Lib.hid hl
  have Hm := Lib.hid hm
  have Rl := Lib.hid rl
  have Rm := Lib.hid rm
  clear hl hm rl rm
  have HLE := Lib.hid hle
  have HS := Lib.hid hs
  clear hle hs
  have t0 : (b == !b) = false := by cases b <;> rfl
  have t1 : (!(b == !b)) = true := by cases b <;> rfl
  go_enter Tryz.func130, Tryz.ntmps130
  go_wp2_with fail
  have h3 := three w #[.bool b, .slice A l.length c] #[.bool (!b), .slice C m.length d] #[.bool false, .slice none 0 0]
  generalize ((w.alloc (Obj.cells #[.bool b, .slice A l.length c] 85)).alloc (Obj.cells #[.bool (!b), .slice C m.length d] 85)).alloc (Obj.cells #[.bool false, .slice none 0 0] 85) = W at h3 ⊢
  generalize w.heap.size + 1 + 1 = g2 at h3 ⊢
  generalize w.heap.size + 1 = g1 at h3 ⊢
  obtain ⟨b0, b1, b2, hbw, hz1, hz2, hz3⟩ := h3
  have B0 := Lib.hid b0
  have B1 := Lib.hid b1
  have B2 := Lib.hid b2
  have HBW := Lib.hid hbw
  have q0 : W.cell? ⟨w.heap.size, 1, none⟩ = some (.slice A l.length c) := b0.cell 1
  have q1 : W.cell? ⟨g1, 1, none⟩ = some (.slice C m.length d) := b1.cell 1
  have q2 : W.cell? ⟨w.heap.size, 0, none⟩ = some (.bool b) := b0.cell 0
  have q3 : W.cell? ⟨g1, 0, none⟩ = some (.bool (!b)) := b1.cell 0
  clear b0 b1 b2 hbw
  go_wp2_with fail
  refine (less_any l m A C c d _ Hl.out Hm.out (by omega) (by omega) (Rl.out.onto HBW.out) (Rm.out.onto HBW.out)).mono ?_
  rw [HS.out]
  rintro e w1 ⟨rfl, hb1⟩
  have B0 := Lib.hid (B0.out.on hb1 (by omega))
  have B1 := Lib.hid (B1.out.on hb1 (by omega))
  have B2 := Lib.hid (B2.out.on hb1 (by omega))
  have HBW := Lib.hid (HBW.out.trans (hb1.mono HBW.out.size))
  have hz3 : g2 < w1.heap.size := Nat.lt_of_lt_of_le hz3 hb1.size
  clear hb1 q0 q1 q2 q3
  go_wp2_with fail
  have c0 : w1.cell? ⟨w.heap.size, 0, none⟩ = some (.bool b) := B0.out.cell 0
  have c1 : w1.cell? ⟨w.heap.size, 1, none⟩ = some (.slice A l.length c) := B0.out.cell 1
  have c2 : w1.cell? ⟨g1, 1, none⟩ = some (.slice C m.length d) := B1.out.cell 1
  have c3 : w1.cell? ⟨g2, 0, none⟩ = some (.bool false) := B2.out.cell 0
  have c4 : w1.cell? ⟨g2, 1, none⟩ = some (.slice none 0 0) := B2.out.cell 1
  have f3 : w1.frozen? ⟨g2, 0, none⟩ = false := B2.out.free 0
  have f4 : w1.frozen? ⟨g2, 1, none⟩ = false := B2.out.free 1
  have l0 : w.heap.size < w1.heap.size := by omega
  have l1 : g1 < w1.heap.size := by omega
  have n0 : ¬ w.heap.size = g2 := by omega
  have n1 : ¬ g1 = g2 := by omega
  have n2 : ¬ g2 = w.heap.size := by omega
  have n3 : ¬ g2 = g1 := by omega
  go_region_held3 (fun w' => w'.cell? ⟨w.heap.size, 0, none⟩ = some (.bool b) ∧ w'.cell? ⟨w.heap.size, 1, none⟩ = some (.slice A l.length c) ∧ w'.cell? ⟨g1, 1, none⟩ = some (.slice C m.length d))
    (go_keep)
    (first
      | (go_at_call 154; refine (both_minus l m A C c d _ Hl.out Hm.out (by omega) (by omega) HLE.out (Rl.out.onto HBW.out.drew) (Rm.out.onto HBW.out.drew)).mono ?_
         rintro e w2 ⟨A2, r, cc2, rfl, hc2, hr2, ⟨d1, d2, d3⟩, hb2⟩
         have Hr2 := Lib.hid hr2
         have D1 := Lib.hid d1
         have D2 := Lib.hid d2
         have Hb2 := Lib.hid hb2
         have hs2 := hb2.size
         have l02 : w.heap.size < w2.heap.size := Nat.lt_of_lt_of_le l0 hs2
         have l12 : g1 < w2.heap.size := Nat.lt_of_lt_of_le l1 hs2
         have l22 : g2 < w2.heap.size := Nat.lt_of_lt_of_le hz3 hs2
         obtain ⟨hce, hfr⟩ := bcell hb2
         have k0 := (hce w.heap.size 0 l0).trans c0
         have k1 := (hce w.heap.size 1 l0).trans c1
         have k2 := (hce g1 1 l1).trans c2
         have k3 := (hce g2 0 hz3).trans c3
         have k4 := (hce g2 1 hz3).trans c4
         have k5 := (hfr g2 0 hz3).trans f3
         have k6 := (hfr g2 1 hz3).trans f4
         clear hs2 hce hfr hr2 d1 d2 hb2)
      | (go_at_call 129; refine (clean_any b r A2 cc2 _ D1.out (by omega) hc2 Hr2.out).mono ?_
         rintro e w3 ⟨v, rfl, ⟨A3, cc3, rfl, hc3, hr3⟩, hb3⟩
         obtain ⟨hce3, hfr3⟩ := bcell hb3
         have m0 := (hce3 w.heap.size 0 l02).trans k0
         have m1 := (hce3 w.heap.size 1 l02).trans k1
         have m2 := (hce3 g1 1 l12).trans k2
         have m3 := (hce3 g2 0 l22).trans k3
         have m4 := (hce3 g2 1 l22).trans k4
         have m5 := (hfr3 g2 0 l22).trans k5
         have m6 := (hfr3 g2 1 l22).trans k6
         have Hr3 := Lib.hid hr3
         have Hb3 := Lib.hid hb3
         clear hr3 hb3 hce3 hfr3))
  go_wp2_with fail
  refine bodyPost_ret (v := .agg #[.bool (decide (sgn b (val r) < 0)), .slice A3 (figs (sgn b (val r)).natAbs).length cc3]) (by simp [results, Tryz.results130, go_sem, m3, m4]) rfl ?_
  rw [← D2.out]
  exact gives_set ⟨A3, cc3, rfl, hc3, Hr3.out⟩ ((HBW.out.drew.trans (Hb2.out.mono (Nat.le_of_lt l0))).trans (Hb3.out.mono (Nat.le_of_lt l02))) ((B2.out.drew.on Hb2.out hz3).on Hb3.out l22) (by omega) _ _
end Go.Proofs.YtfiahpeajccinaaGreatDoor.W2
namespace Go.Proofs.YtfiahpeajccinaaGreatDoor.W2
open Go.RowKit
open Fg
attribute [local go_sem ↓] Go.wp_at_zero Go.wp_at_succ

theorem add_any (x y : Value) (a b : Int) (w : World) (hx : Nz w w.heap.size x a) (hy : Nz w w.heap.size y b) (ha : Sm 800 a) (hb : Sm 800 b) :
    Calls Tryz.prog 130 #[x, y] w (GivesN (a + b) w) := by
  obtain ⟨l, A, c, rfl, hc, hl2, hr, hd, hv, hf⟩ := nz_open hx ha
  obtain ⟨m, C, d, rfl, hc', hm2, hr', hd', hv', hf'⟩ := nz_open hy hb
  have hs := lessB_figs a.natAbs b.natAbs
  rw [← hf, ← hf'] at hs
  by_cases h1 : a < 0
  · rw [decide_eq_true h1]
    by_cases h2 : b < 0
    · rw [decide_eq_true h2]
      have e : a + b = sgn true (val l + val m) := by rw [sgn_true]; omega
      rw [e]; exact add_same true l m A C c d w hd hd' hl2 hm2 hr hr'
    · rw [decide_eq_false h2]
      by_cases h3 : a.natAbs < b.natAbs
      · have e : a + b = sgn false (val m - val l) := by rw [sgn_false]; omega
        rw [decide_eq_true h3] at hs
        rw [e]; exact add_diff_lt true l m A C c d w hd hd' hl2 hm2 hr hr' hs (by omega)
      · have e : a + b = sgn true (val l - val m) := by rw [sgn_true]; omega
        rw [decide_eq_false h3] at hs
        rw [e]; exact add_diff_ge true l m A C c d w hd hd' hl2 hm2 hr hr' hs (by omega)
  · rw [decide_eq_false h1]
    by_cases h2 : b < 0
    · rw [decide_eq_true h2]
      by_cases h3 : a.natAbs < b.natAbs
      · have e : a + b = sgn true (val m - val l) := by rw [sgn_true]; omega
        rw [decide_eq_true h3] at hs
        rw [e]; exact add_diff_lt false l m A C c d w hd hd' hl2 hm2 hr hr' hs (by omega)
      · have e : a + b = sgn false (val l - val m) := by rw [sgn_false]; omega
        rw [decide_eq_false h3] at hs
        rw [e]; exact add_diff_ge false l m A C c d w hd hd' hl2 hm2 hr hr' hs (by omega)
    · rw [decide_eq_false h2]
      have e : a + b = sgn false (val l + val m) := by rw [sgn_false]; omega
      rw [e]; exact add_same false l m A C c d w hd hd' hl2 hm2 hr hr'

/-- two new blocks, under names -/
def Two (w W : World) (g1 : Nat) (a b : Array Value) : Prop :=
  Blk W w.heap.size 85 a ∧ Blk W g1 85 b ∧ Below w.heap.size w W ∧ w.heap.size < g1 ∧ g1 < W.heap.size
theorem two (w : World) (a b : Array Value) : Two w ((w.alloc (Obj.cells a 85)).alloc (Obj.cells b 85)) (w.heap.size + 1) a b := by
  have h1 : (w.alloc (Obj.cells a 85)).heap.size = w.heap.size + 1 := by simp
  refine ⟨(Blk.new w _ _).alloc _, ?_, ((Below.refl _ _).alloc (Nat.le_refl _) _).alloc (by simp) _, by omega, by simp⟩
  rw [← h1]; exact Blk.new _ _ _
theorem nz_of {z : Int} {w W : World} {e : Ending} (h : GivesN z w e W) : ∃ b A n c, e = .returned (.agg #[.bool b, .slice A n c]) ∧ Nz W W.heap.size (.agg #[.bool b, .slice A n c]) z ∧ Below w.heap.size w W ∧ Hid (b = decide (z < 0)) := by
  obtain ⟨v, rfl, ⟨A, c, rfl, hc, hr⟩, hb⟩ := h
  exact ⟨_, A, _, c, rfl, ⟨A, c, rfl, hc, hr⟩, hb, Lib.hid rfl⟩

set_option maxRecDepth 100000 in
set_option maxHeartbeats 2000000 in
theorem neg_s (sa : Bool) (l : List Int) (A : Option Addr) (c : Nat) (w : World) (hd : dig l) (ll : l.length ≤ 800) (hc : l.length ≤ c) (hr : Reads w w.heap.size A l) :
    Calls Tryz.prog 107 #[.agg #[.bool sa, .slice A l.length c]] w (GivesN (sgn (!sa) (val l)) w) := by
  have Hd := Lib.hid hd
  have Hr := Lib.hid hr
  clear hd hr
  go_enter Tryz.func107, Tryz.ntmps107
  go_wp2_with fail
  have h3 := two w #[.bool sa, .slice A l.length c] #[.bool false, .slice none 0 0]
  generalize (w.alloc (Obj.cells #[.bool sa, .slice A l.length c] 85)).alloc (Obj.cells #[.bool false, .slice none 0 0] 85) = W at h3 ⊢
  generalize w.heap.size + 1 = g1 at h3 ⊢
  obtain ⟨b0, b1, hbw, hz1, hz2⟩ := h3
  have B1 := Lib.hid b1
  have HBW := Lib.hid hbw
  clear b0 b1 hbw
  refine (clean_any (!sa) l A c _ Hd.out (by omega) hc (Hr.out.onto HBW.out)).mono ?_
  rintro e w3 h
  obtain ⟨b, A3, n3, c3, rfl, hn3, hb3, _⟩ := nz_of h
  have B3 := Lib.hid (B1.out.on hb3 hz2)
  have c0 : w3.cell? ⟨g1, 0, none⟩ = some (.bool false) := B3.out.cell 0
  have c1 : w3.cell? ⟨g1, 1, none⟩ = some (.slice none 0 0) := B3.out.cell 1
  have f0 : w3.frozen? ⟨g1, 0, none⟩ = false := B3.out.free 0
  have f1 : w3.frozen? ⟨g1, 1, none⟩ = false := B3.out.free 1
  have Hb3 := Lib.hid (HBW.out.trans (hb3.mono HBW.out.size))
  have Hn3 := Lib.hid hn3
  clear h hn3 hb3
  go_wp2_with fail
  refine bodyPost_ret (v := .agg #[.bool b, .slice A3 n3 c3]) (by simp [results, Tryz.results107, go_sem, c0, c1]) rfl ?_
  exact gives_set Hn3.out Hb3.out B3.out (by omega) _ _
theorem neg_any (x : Value) (a : Int) (w : World) (hx : Nz w w.heap.size x a) (ha : Sm 800 a) : Calls Tryz.prog 107 #[x] w (GivesN (-a) w) := by
  obtain ⟨l, A, c, rfl, hc, hl2, hr, hd, hv, hf⟩ := nz_open hx ha
  have e : -a = sgn (!decide (a < 0)) (val l) := by
    by_cases h : a < 0
    · rw [decide_eq_true h, Bool.not_true, sgn_false]; omega
    · rw [decide_eq_false h, Bool.not_false, sgn_true]; omega
  rw [e]
  exact neg_s _ l A c w hd hl2 hc hr

/-- two structs as they lie in the blocks H and g, and the world W stands below -/
def Pair2 (W : World) (H g : Nat) (sa sb : Bool) (x y : Value) (V : World) : Prop :=
  V.cell? ⟨H, 0, none⟩ = some (.bool sa) ∧ V.cell? ⟨H, 1, none⟩ = some x ∧ V.cell? ⟨g, 0, none⟩ = some (.bool sb) ∧ V.cell? ⟨g, 1, none⟩ = some y ∧ Below W.heap.size W V
theorem pair2 {W V : World} {H g : Nat} {sa sb : Bool} {x y : Value} (h0 : Blk W H 85 #[.bool sa, x]) (h1 : Blk W g 85 #[.bool sb, y]) (hb : Below W.heap.size W V) : Pair2 W H g sa sb x y V :=
  ⟨(hb.cell (p := ⟨H, 0, none⟩) h0.lt).trans (h0.cell 0), (hb.cell (p := ⟨H, 1, none⟩) h0.lt).trans (h0.cell 1), (hb.cell (p := ⟨g, 0, none⟩) h1.lt).trans (h1.cell 0), (hb.cell (p := ⟨g, 1, none⟩) h1.lt).trans (h1.cell 1), hb⟩

set_option maxRecDepth 100000 in
set_option maxHeartbeats 4000000 in
theorem less2_any (x y : Value) (a b : Int) (w : World) (hx : Nz w w.heap.size x a) (hy : Nz w w.heap.size y b) (ha : Sm 650 a) (hb : Sm 650 b) :
    Calls Tryz.prog 132 #[x, y] w fun e w' => e = .returned (.bool (decide (a < b))) ∧ Below w.heap.size w w' := by
  have Hx := Lib.hid hx
  have Hy := Lib.hid hy
  obtain ⟨l, A, c, rfl, hc, hl2, hr, hd, hv, hf⟩ := nz_open hx (ha.mono (by decide))
  obtain ⟨m, C, d, rfl, hc', hm2, hr', hd', hv', hf'⟩ := nz_open hy (hb.mono (by decide))
  have Ha := Lib.hid ha
  have Hb := Lib.hid hb
  clear hx hy hc hl2 hr hd hv hf hc' hm2 hr' hd' hv' hf' ha hb
  have Hz := Lib.hid (show decide (a + -b < 0) = decide (a < b) from by rw [Bool.eq_iff_iff]; simp; omega)
  generalize decide (a < 0) = sa at *
  generalize decide (b < 0) = sb at *
  go_enter Tryz.func132, Tryz.ntmps132
  go_wp2_with fail
  have h3 := two w #[.bool sa, .slice A l.length c] #[.bool sb, .slice C m.length d]
  generalize (w.alloc (Obj.cells #[.bool sa, .slice A l.length c] 85)).alloc (Obj.cells #[.bool sb, .slice C m.length d] 85) = W at h3 ⊢
  generalize w.heap.size + 1 = g1 at h3 ⊢
  obtain ⟨b0, b1, hbw, hz1, hz2⟩ := h3
  have B0 := Lib.hid b0
  have B1 := Lib.hid b1
  have HBW := Lib.hid hbw
  clear b0 b1 hbw
  have l0 : w.heap.size < W.heap.size := by omega
  go_region_held3 (fun w' => w'.cell? ⟨w.heap.size, 0, none⟩ = some (.bool sa) ∧ w'.cell? ⟨w.heap.size, 1, none⟩ = some (.slice A l.length c) ∧ w'.cell? ⟨g1, 0, none⟩ = some (.bool sb) ∧ w'.cell? ⟨g1, 1, none⟩ = some (.slice C m.length d) ∧ Below W.heap.size W w')
    (first
      | exact pair2 B0.out B1.out (Below.refl _ _).drew
      | exact pair2 B0.out B1.out HV.out
      | exact pair2 B0.out B1.out (HV.out.alloc HV.out.size _)
      | exact pair2 B0.out B1.out (‹_ ∧ _ ∧ _ ∧ _ ∧ Below _ _ _›.2.2.2.2.alloc ‹_ ∧ _ ∧ _ ∧ _ ∧ Below _ _ _›.2.2.2.2.size _)
      | exact pair2 B0.out B1.out ((‹_ ∧ _ ∧ _ ∧ _ ∧ Below _ _ _›.2.2.2.2.setCell (by simp <;> omega) _).setCell (by simp <;> omega) _))
    (first
      | (go_at_call 107
         have HB1 := Lib.hid (‹_ ∧ _ ∧ _ ∧ _ ∧ Below W.heap.size W _›.2.2.2.2)
         refine (neg_any _ b _ (Hy.out.on (HBW.out.trans (HB1.out.mono (Nat.le_of_lt l0)))) (Hb.out.mono (by decide))).mono ?_
         rintro e w2 h2
         obtain ⟨b2, A2, n2, d2, rfl, hn2, hb2, _⟩ := nz_of h2
         have HV := Lib.hid (HB1.out.trans (hb2.mono HB1.out.size))
         have Hn2 := Lib.hid hn2
         have l2 : W.heap.size ≤ w2.heap.size := HV.out.size
         try (have y : Blk w2 W.heap.size 85 #[.bool false, .slice none 0 0] := (Blk.new W.drew 85 #[.bool false, .slice none 0 0]).on hb2 (by simp); have y0 : w2.cell? ⟨W.heap.size, 0, none⟩ = some (.bool false) := y.cell 0; have y1 : w2.cell? ⟨W.heap.size, 1, none⟩ = some (.slice none 0 0) := y.cell 1; have y2 := y.free 0; have y3 := y.free 1; have y4 := Lib.hid y; clear y)
         clear h2 hn2 hb2)
      | (go_at_call 130
         have HB2 := Lib.hid (‹_ ∧ _ ∧ _ ∧ _ ∧ Below W.heap.size W _›.2.2.2.2)
         refine (add_any _ _ a (-b) _ (Hx.out.on (HBW.out.trans (HB2.out.mono (Nat.le_of_lt l0)))) (by first | exact Hn2.out | exact Hn2.out.on ((Below.refl _ _).alloc (Nat.le_refl _) _)) (Ha.out.mono (by decide)) ((Hb.out.mono (by decide)).neg)).mono ?_
         rintro e w3 h2
         obtain ⟨b3, A3, n3, d3, rfl, hn3, hb3, hs3⟩ := nz_of h2
         have HV := Lib.hid (HB2.out.trans (hb3.mono HB2.out.size))
         have l3 : W.heap.size ≤ w3.heap.size := HV.out.size
         try (have z : Blk w3 w2.heap.size 85 #[.bool false, .slice none 0 0] := (Blk.new w2 85 #[.bool false, .slice none 0 0]).on hb3 (by simp); have z0 : w3.cell? ⟨_, 0, none⟩ = some (.bool false) := z.cell 0; have z1 : w3.cell? ⟨_, 1, none⟩ = some (.slice none 0 0) := z.cell 1; have z2 := z.free 0; have z3 := z.free 1; have z4 := Lib.hid z; clear z)
         try (have z : Blk w3 W.heap.size 85 #[.bool false, .slice none 0 0] := y4.out.on hb3 (by show W.heap.size < w2.heap.size; exact y4.out.lt); have z0 : w3.cell? ⟨_, 0, none⟩ = some (.bool false) := z.cell 0; have z1 : w3.cell? ⟨_, 1, none⟩ = some (.slice none 0 0) := z.cell 1; have z2 := z.free 0; have z3 := z.free 1; have z4 := Lib.hid z; clear z)
         clear h2 hn3 hb3))
  all_goals
    have HE := Lib.hid (HBW.out.trans (‹_ ∧ _ ∧ _ ∧ _ ∧ Below W.heap.size W _›.2.2.2.2.mono (Nat.le_of_lt l0)))
    go_wp2_with fail
    go_ret
    exact ⟨ret_bool (by rw [hs3.out]; exact Hz.out), HE.out⟩
end Go.Proofs.YtfiahpeajccinaaGreatDoor.W2
namespace Go.Proofs.YtfiahpeajccinaaGreatDoor.W2
open Go.RowKit
open Fg
attribute [local go_sem ↓] Go.wp_at_zero Go.wp_at_succ

theorem run_figures (w : World) (b : Bool) (A : Option Addr) (n c : Nat) : (Instr.field 85 (.agg #[.bool b, .slice A n c]) 1).run Tryz.prog w = .ok (.slice A n c) w := by kernel_rfl
theorem figs_nil (z : Int) : (figs z.natAbs).length = 0 ↔ z = 0 := by
  constructor
  · intro h
    have h1 := val_figs z.natAbs
    rw [List.eq_nil_of_length_eq_zero h, val] at h1
    omega
  · rintro rfl
    rw [Int.natAbs_zero, figs_zero]; rfl
theorem nz_len {z : Int} {w W : World} {e : Ending} (h : GivesN z w e W) : ∃ b A n c, e = .returned (.agg #[.bool b, .slice A n c]) ∧ Nz W W.heap.size (.agg #[.bool b, .slice A n c]) z ∧ Below w.heap.size w W ∧ Hid (n = (figs z.natAbs).length) := by
  obtain ⟨v, rfl, ⟨A, c, rfl, hc, hr⟩, hb⟩ := h
  exact ⟨_, A, _, c, rfl, ⟨A, c, rfl, hc, hr⟩, hb, Lib.hid rfl⟩

end Go.Proofs.YtfiahpeajccinaaGreatDoor.W2
namespace Go.Proofs.YtfiahpeajccinaaGreatDoor.W2
open Go.RowKit
open Fg

/-- behind k rounds: the figures L, and m is still to come -/
def OfAt (n m : Int) (L : List Int) : Prop := L ++ figs m.natAbs = figs n.natAbs ∧ In64 m
theorem OfAt.step {n m f : Int} {L : List Int} (h : OfAt n m L) (h0 : m ≠ 0) (hf : f = ((m.natAbs % 10000 : Nat) : Int)) : OfAt n (m.tdiv 10000) (L ++ [f]) := by
  obtain ⟨h1, h2⟩ := h
  refine ⟨?_, tdiv_in _ _ h2 (by decide)⟩
  rw [List.append_assoc, List.singleton_append, ← h1, figs_pos (by omega : 0 < m.natAbs), hf, Int.natAbs_tdiv]
  rfl
theorem OfAt.len {n m : Int} {L : List Int} (h : OfAt n m L) (hn : In64 n) : L.length ≤ 5 := by
  have h1 := congrArg List.length h.1
  rw [List.length_append] at h1
  have h2 := (sm_in hn).len
  omega
theorem OfAt.done {n : Int} {L : List Int} (h : OfAt n 0 L) : L = figs n.natAbs := by
  have h1 := h.1
  rwa [Int.natAbs_zero, figs_zero, List.append_nil] at h1

set_option maxRecDepth 100000 in
set_option maxHeartbeats 4000000 in
theorem of_any (n : Int) (w : World) (hn : In64 n) : Calls Tryz.prog 33 #[.int .i64 n] w (GivesN n w) := by
  have Hn := Lib.hid hn
  obtain ⟨n1, n2⟩ := hn
  go_enter Tryz.func33, Tryz.ntmps33
  go_wp2_with fail
  have h3 := two w #[.bool false, .slice none 0 0] #[.bool (decide (n < 0)), .slice none 0 0]
  generalize (w.alloc (Obj.cells #[.bool false, .slice none 0 0] 85)).alloc (Obj.cells #[.bool (decide (n < 0)), .slice none 0 0] 85) = W at h3 ⊢
  generalize hg1 : w.heap.size + 1 = g1 at h3 ⊢
  obtain ⟨b0, b1, hbw, hz1, hz2⟩ := h3
  have B0 := Lib.hid b0
  have B1 := Lib.hid b1
  have HBW := Lib.hid hbw
  clear b0 b1 hbw hg1
  go_loopw [0, 4] (fun i _ wr => ∃ (m : Int) (L : List Int) (v : Value), i = .int .i64 m ∧ OfAt n m L ∧ Blk wr w.heap.size 85 #[.bool false, .slice none 0 0] ∧ Blk wr g1 85 #[.bool (decide (n < 0)), v] ∧ wr.ownsRow w.heap.size 3 1 v L.length (L.map (Value.int .i64)) ∧ Below w.heap.size w wr ∧ w.heap.size ≤ wr.heap.size) (fun i _ _ => (intOf i).natAbs)
  case atStart => exact ⟨n, [], .slice none 0 0, rfl, ⟨by simp, Hn.out⟩, B0.out, B1.out, World.ownsRow_nil _ _ _ _, HBW.out, HBW.out.size⟩
  case round =>
    obtain ⟨m, L, v, rfl, hat, k0, k1, hown, hbel, hsz⟩ := hrel
    obtain ⟨A, c, rfl, hc, hr⟩ := own_reads hown
    have Hr := Lib.hid hr
    clear hr
    have Hat := Lib.hid hat
    have K0 := Lib.hid k0
    have K1 := Lib.hid k1
    have Hown := Lib.hid hown
    have Hbel := Lib.hid hbel
    have hll := hat.len Hn.out
    obtain ⟨m1, m2⟩ := hat.2
    have hg : g1 < wr.heap.size := k1.lt
    have c0 : wr.cell? ⟨g1, 0, none⟩ = some (.bool (decide (n < 0))) := k1.cell 0
    have c1 : wr.cell? ⟨g1, 1, none⟩ = some (.slice A L.length c) := k1.cell 1
    have f1 : wr.frozen? ⟨g1, 1, none⟩ = false := k1.free 1
    clear hat k0 k1 hown hbel
    by_cases h0 : m = 0
    · subst h0
      have hn := Lib.hid Hat.out.done
      have d0 : wr.cell? ⟨w.heap.size, 0, none⟩ = some (.bool false) := K0.out.cell 0
      have d1 : wr.cell? ⟨w.heap.size, 1, none⟩ = some (.slice none 0 0) := K0.out.cell 1
      have d2 : wr.frozen? ⟨w.heap.size, 0, none⟩ = false := K0.out.free 0
      have d3 : wr.frozen? ⟨w.heap.size, 1, none⟩ = false := K0.out.free 1
      go_wp2_with fail
      refine bodyPost_ret (v := .agg #[.bool (decide (n < 0)), .slice A L.length c]) (by simp [results, Tryz.results33, go_sem, d0, d1]) rfl ?_
      refine gives_set ⟨A, c, by rw [← hn.out], by rw [← hn.out]; exact hc, by rw [← hn.out]; exact Hr.out⟩ Hbel.out K0.out (Nat.le_refl _) _ _
    · have t0 : (m != 0) = true := by simp; exact h0
      by_cases hp : 0 < m
      · have hf : 0 ≤ m % 10000 ∧ m % 10000 < 10000 := by omega
        have hs := Lib.hid (Hat.out.step h0 (f := m % 10000) (by omega))
        have hq := Lib.hid (show m.tdiv 10000 = m / 10000 by rw [Int.tdiv_eq_ediv_of_nonneg (by omega)])
        obtain ⟨hf0, hf1⟩ := hf
        have hmx : ¬ (m % 10000 < -(m % 10000)) := by omega
        have hmy : max (m % 10000) (-(m % 10000)) = m % 10000 := Int.max_eq_left (by omega)
        clear h0
        go_wp2_with (at_builtin; refine app_int rfl (.tmp 13) (.tmp 18) rfl w.heap.size _ _ L (m % 10000) rfl rfl Hown.out (by omega) hsz ?_)
        intro v' w3 hown3 hb3 hk3
        have hlen : L.length + 1 = (L ++ [m % 10000]).length := by rw [List.length_append]; rfl
        have hown3 : w3.ownsRow w.heap.size 3 1 v' (L ++ [m % 10000]).length ((L ++ [m % 10000]).map (Value.int .i64)) := by rw [← hlen, List.map_append]; exact hown3
        obtain ⟨A3, c3, hv3, _, _⟩ := own_reads hown3
        rw [← hlen] at hv3
        subst hv3
        have k03 : Blk w3 w.heap.size 85 #[.bool false, .slice none 0 0] := hk3 _ _ _ _ _ K0.out (by decide)
        have k13 : Blk w3 g1 85 #[.bool (decide (n < 0)), .slice A L.length c] := hk3 _ _ _ _ _ K1.out (by decide)
        have hb3' := hb3 _ Hbel.out
        have d1 : w3.cell? ⟨g1, 1, none⟩ = some (.slice A L.length c) := k13.cell 1
        have d2 : w3.frozen? ⟨g1, 1, none⟩ = false := k13.free 1
        have hk4 := k13.set_ 1 (.slice A3 (L.length + 1) c3)
        have hk5 : Blk (w3.setCell ⟨g1, 1, none⟩ (.slice A3 (L.length + 1) c3)) w.heap.size 85 #[.bool false, .slice none 0 0] := k03.far (by show w.heap.size ≠ g1; omega) _
        have ho5 := own_set hown3 k13 (by decide) 1 (.slice A3 (L.length + 1) c3)
        have hb5 : Below w.heap.size w (w3.setCell ⟨g1, 1, none⟩ (.slice A3 (L.length + 1) c3)) := hb3'.setCell (by show w.heap.size ≤ g1; omega) _
        have Hk4 := Lib.hid hk4
        have Hk5 := Lib.hid hk5
        have Ho5 := Lib.hid ho5
        have Hb5 := Lib.hid hb5
        have Hlen := Lib.hid hlen
        clear hk4 hk5 ho5 hb5 k03 k13 hown3 hb3 hb3' hk3 hlen
        go_wp2_with fail
        go_roundw
        case rel => exact ⟨_, _, _, by rw [hq.out], hs.out, Hk5.out, Hk4.out, Ho5.out, Hb5.out, Hb5.out.size⟩
        case measure => simp [intOf]; omega
      · have hf1 : -9999 ≤ m.tmod 10000 ∧ m.tmod 10000 < 0 ∨ m.tmod 10000 = 0 := by
          have h1 := tmod_small m 10000 (by decide)
          have h2 := (tmod_side m 10000).2 (by omega)
          omega
        have hf2 : -9999 ≤ m.tmod 10000 := by omega
        have hf3 : m.tmod 10000 ≤ 0 := by omega
        have hna : ((m.natAbs % 10000 : Nat) : Int) = -m.tmod 10000 := by
          have := Int.natAbs_tmod m 10000
          simp only [Int.reduceAbs] at this
          omega
        have hw1 : IntKind.i64.wrap (m.tmod 10000) = m.tmod 10000 := IntWalk.i64_in _ (by omega)
        have hw2 : IntKind.i64.wrap (m.tdiv 10000) = m.tdiv 10000 := IntWalk.i64_in _ (tdiv_in _ _ ⟨m1, m2⟩ (by decide))
        have hs := Lib.hid (Hat.out.step h0 (f := -m.tmod 10000) hna.symm)
        have hm3 := Lib.hid (show (m.tdiv 10000).natAbs < m.natAbs from by rw [Int.natAbs_tdiv]; exact Nat.div_lt_self (by omega) (by decide))
        clear h0 hna hf1
        by_cases hz : m.tmod 10000 = 0
        · have hmx : ¬ (m.tmod 10000 < -m.tmod 10000) := by omega
          have hmy : max (m.tmod 10000) (-m.tmod 10000) = m.tmod 10000 := Int.max_eq_left (by omega)
          have Hz := Lib.hid hz
          clear hz
          have Hz2 := Lib.hid (show -m.tmod 10000 = m.tmod 10000 by have := Hz.out; omega)
          go_wp2_with (at_builtin; refine app_int rfl (.tmp 13) (.tmp 18) rfl w.heap.size _ _ L (m.tmod 10000) rfl rfl Hown.out (by omega) hsz ?_)
          intro v' w3 hown3 hb3 hk3
          have hlen : L.length + 1 = (L ++ [m.tmod 10000]).length := by rw [List.length_append]; rfl
          have hown3 : w3.ownsRow w.heap.size 3 1 v' (L ++ [m.tmod 10000]).length ((L ++ [m.tmod 10000]).map (Value.int .i64)) := by rw [← hlen, List.map_append]; exact hown3
          obtain ⟨A3, c3, hv3, _, _⟩ := own_reads hown3
          rw [← hlen] at hv3
          subst hv3
          have k03 : Blk w3 w.heap.size 85 #[.bool false, .slice none 0 0] := hk3 _ _ _ _ _ K0.out (by decide)
          have k13 : Blk w3 g1 85 #[.bool (decide (n < 0)), .slice A L.length c] := hk3 _ _ _ _ _ K1.out (by decide)
          have hb3' := hb3 _ Hbel.out
          have d1 : w3.cell? ⟨g1, 1, none⟩ = some (.slice A L.length c) := k13.cell 1
          have d2 : w3.frozen? ⟨g1, 1, none⟩ = false := k13.free 1
          have hk4 := k13.set_ 1 (.slice A3 (L.length + 1) c3)
          have hk5 : Blk (w3.setCell ⟨g1, 1, none⟩ (.slice A3 (L.length + 1) c3)) w.heap.size 85 #[.bool false, .slice none 0 0] := k03.far (by show w.heap.size ≠ g1; omega) _
          have ho5 := own_set hown3 k13 (by decide) 1 (.slice A3 (L.length + 1) c3)
          have hb5 : Below w.heap.size w (w3.setCell ⟨g1, 1, none⟩ (.slice A3 (L.length + 1) c3)) := hb3'.setCell (by show w.heap.size ≤ g1; omega) _
          have Hk4 := Lib.hid hk4
          have Hk5 := Lib.hid hk5
          have Ho5 := Lib.hid ho5
          have Hb5 := Lib.hid hb5
          have Hlen := Lib.hid hlen
          clear hk4 hk5 ho5 hb5 k03 k13 hown3 hb3 hb3' hk3 hlen
          go_wp2_with fail
          go_roundw
          case rel => exact ⟨_, _, _, rfl, (Hz2.out ▸ hs.out), Hk5.out, Hk4.out, Ho5.out, Hb5.out, Hb5.out.size⟩
          case measure => simp only [intOf]; exact hm3.out
        · have hmx : m.tmod 10000 < -m.tmod 10000 := by omega
          have hmy : max (m.tmod 10000) (-m.tmod 10000) = -m.tmod 10000 := Int.max_eq_right (by omega)
          clear hz
          go_wp2_with (at_builtin; refine app_int rfl (.tmp 13) (.tmp 18) rfl w.heap.size _ _ L (-m.tmod 10000) rfl rfl Hown.out (by omega) hsz ?_)
          intro v' w3 hown3 hb3 hk3
          have hlen : L.length + 1 = (L ++ [-m.tmod 10000]).length := by rw [List.length_append]; rfl
          have hown3 : w3.ownsRow w.heap.size 3 1 v' (L ++ [-m.tmod 10000]).length ((L ++ [-m.tmod 10000]).map (Value.int .i64)) := by rw [← hlen, List.map_append]; exact hown3
          obtain ⟨A3, c3, hv3, _, _⟩ := own_reads hown3
          rw [← hlen] at hv3
          subst hv3
          have k03 : Blk w3 w.heap.size 85 #[.bool false, .slice none 0 0] := hk3 _ _ _ _ _ K0.out (by decide)
          have k13 : Blk w3 g1 85 #[.bool (decide (n < 0)), .slice A L.length c] := hk3 _ _ _ _ _ K1.out (by decide)
          have hb3' := hb3 _ Hbel.out
          have d1 : w3.cell? ⟨g1, 1, none⟩ = some (.slice A L.length c) := k13.cell 1
          have d2 : w3.frozen? ⟨g1, 1, none⟩ = false := k13.free 1
          have hk4 := k13.set_ 1 (.slice A3 (L.length + 1) c3)
          have hk5 : Blk (w3.setCell ⟨g1, 1, none⟩ (.slice A3 (L.length + 1) c3)) w.heap.size 85 #[.bool false, .slice none 0 0] := k03.far (by show w.heap.size ≠ g1; omega) _
          have ho5 := own_set hown3 k13 (by decide) 1 (.slice A3 (L.length + 1) c3)
          have hb5 : Below w.heap.size w (w3.setCell ⟨g1, 1, none⟩ (.slice A3 (L.length + 1) c3)) := hb3'.setCell (by show w.heap.size ≤ g1; omega) _
          have Hk4 := Lib.hid hk4
          have Hk5 := Lib.hid hk5
          have Ho5 := Lib.hid ho5
          have Hb5 := Lib.hid hb5
          have Hlen := Lib.hid hlen
          clear hk4 hk5 ho5 hb5 k03 k13 hown3 hb3 hb3' hk3 hlen
          go_wp2_with fail
          go_roundw
          case rel => exact ⟨_, _, _, rfl, hs.out, Hk5.out, Hk4.out, Ho5.out, Hb5.out, Hb5.out.size⟩
          case measure => simp only [intOf]; exact hm3.out
end Go.Proofs.YtfiahpeajccinaaGreatDoor.W2
namespace Go.Proofs.YtfiahpeajccinaaGreatDoor.W2
open Go.RowKit
open Fg

theorem val_drop_succ (l : List Int) (k : Nat) (h : k < l.length) : val (l.drop k) = l.getD k 0 + 10000 * val (l.drop (k + 1)) := by
  have h1 : l.getD k 0 = l[k] := by simp [List.getElem?_eq_getElem h]
  rw [List.drop_eq_getElem_cons h, val, h1]
theorem dig_drop {l : List Int} (h : dig l) (k : Nat) : dig (l.drop k) := fun x hx => h x (List.mem_of_mem_drop hx)
theorem val_drop_le {l : List Int} (h : dig l) (k : Nat) : val (l.drop k) ≤ val l := by
  have h1 := val_append (l.take k) (l.drop k)
  rw [List.take_append_drop] at h1
  have h2 := (val_bd (dig_take h k)).1
  have h3 := (val_bd (dig_drop h k)).1
  have h4 : 1 * val (l.drop k) ≤ 10000 ^ (l.take k).length * val (l.drop k) := Int.mul_le_mul_of_nonneg_right (by have : (0 : Int) < 10000 ^ (l.take k).length := Int.pow_pos (by decide); omega) h3
  omega

set_option maxRecDepth 100000 in
set_option maxHeartbeats 4000000 in
theorem int_any (x : Value) (z : Int) (w : World) (hx : Nz w w.heap.size x z) (hz : In64 z) :
    Calls Tryz.prog 66 #[x] w fun e w' => e = .returned (.int .i64 z) ∧ Below w.heap.size w w' := by
  obtain ⟨l, A, c, rfl, hc, hl2, hr, hd, hv, hf⟩ := nz_open hx ((sm_in hz).mono (by decide))
  have Hd := Lib.hid hd
  have Hr := Lib.hid hr
  have Hv := Lib.hid hv
  have hvb : val l ≤ 9223372036854775808 := by unfold In64 at hz; omega
  have hvc : 0 ≤ z → val l ≤ 9223372036854775807 := by unfold In64 at hz; omega
  have Hvc := Lib.hid hvc
  clear hx hz hr hd hv hf hvc
  by_cases hs : z < 0
  all_goals
    first
      | (rw [decide_eq_true hs]
         have hzz := Lib.hid (show -val l = z by have := Hv.out; omega))
      | (rw [decide_eq_false hs]
         have hzz := Lib.hid (show val l = z by have := Hv.out; omega)
         have hvc := Hvc.out (by omega))
    go_enter Tryz.func66, Tryz.ntmps66
    go_wp2_with fail
    go_loop [3, 4] (fun n i => ∃ t : Int, -1 ≤ t ∧ t < l.length ∧ i = .int .i64 t ∧ n = .int .i64 (-val (l.drop (t + 1).toNat))) (fun _ i => (intOf i + 1).toNat)
    case atStart =>
      refine ⟨_, by omega, by omega, rfl, ?_⟩
      rw [List.drop_eq_nil_of_le (by omega)]; rfl
    case round =>
      obtain ⟨t, ht1, ht2, rfl, rfl⟩ := hrel
      by_cases hn : t < 0
      · obtain rfl : t = -1 := by omega
        rw [show ((-1 : Int) + 1).toNat = 0 from rfl, List.drop_zero]
        have hv0 := (val_bd Hd.out).1
        generalize val l = y at *
        go_wp2_with fail
        go_ret
        exact ⟨ret_int (by have := hzz.out; omega), (Below.refl _ _).alloc (Nat.le_refl _) _⟩
      · obtain ⟨j, rfl⟩ : ∃ j : Nat, t = (j : Int) := ⟨t.toNat, by omega⟩
        have hj : j < l.length := by omega
        obtain ⟨b1, o1, rfl, ⟨hb1, _⟩, c1⟩ := Hr.out (by rintro rfl; simp at hj)
        have e1 := c1 j hj
        have h1 := val_drop_succ l j hj
        have h2 := val_drop_le Hd.out j
        have h3 := (val_bd (dig_drop Hd.out (j + 1))).1
        have h4 := dig_getD Hd.out j
        rw [show ((j : Int) + 1).toNat = j + 1 by omega]
        have Hj := Lib.hid (show val (l.drop ((j : Int) - 1 + 1).toNat) = l.getD j 0 + 10000 * val (l.drop (j + 1)) by rw [show ((j : Int) - 1 + 1).toNat = j by omega]; exact h1)
        rw [h1] at h2
        clear c1 h1
        generalize val (l.drop (j + 1)) = y at *
        generalize l.getD j 0 = q at *
        obtain ⟨q0, q1⟩ := h4
        have hyb : y ≤ 922337203685477 := by omega
        clear hn
        go_wp2_with fail
        go_round
        case rel => exact ⟨(j : Int) - 1, by omega, by omega, rfl, by rw [Hj.out]; go_num⟩
        case measure => simp [intOf]
end Go.Proofs.YtfiahpeajccinaaGreatDoor.W2
