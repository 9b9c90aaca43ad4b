/- Rows of ints in memory, and numbers as the reference has them: words for the contracts. -/
import Derived.Test.YtnenipgpncomeaaGreatDoorInts
import Derived.Test.YtnenipgpncomeaaGreatDoorFigs
import Derived.WalkKit
import Derived.WalkSpells
import Derived.Deep.QuietTactic
import Derived.BigQuiet
import Derived.Below
import Derived.OwnWalk
import Derived.Laws.AppendOwn
import Derived.Laws.MakeOwn
import Derived.OneCell
namespace Go.Proofs.YtnenipgpncomeaaGreatDoor.W2
open Go.RowKit
open Fg

theorem infoInt : (Tryz.prog.info? 3).map (fun i => (i.zero, i.size, i.bytes)) = some (some (.int .i64 0), 1, 8) := by kernel_rfl

/-- a block below B that is a row of ints -/
def InRow (w : World) (B b : Nat) : Prop := b < B ∧ ∃ cs fz, w.heap[b]? = some (Obj.cells cs 3 fz)
/-- a slice value whose elements are the ints l, in rows below B -/
def Reads (w : World) (B : Nat) (A : Option Addr) (l : List Int) : Prop :=
  l ≠ [] → ∃ b o, A = some ⟨b, o, none⟩ ∧ InRow w B b ∧ ∀ i, i < l.length → w.cell? ⟨b, o + i, none⟩ = some (.int .i64 (l.getD i 0))
theorem below_drewN {B : Nat} {a w : World} (h : Below B a w) (n : Nat) : Below B a (w.drewN n) := h.trans ⟨rfl, rfl, rfl, Nat.le_refl _, fun _ _ => rfl⟩
theorem Reads.below {w w' : World} {B B' : Nat} {A : Option Addr} {l : List Int} (h : Reads w B A l) (hb : Below B' w w') (hB : B ≤ B') : Reads w' B A l := by
  intro hn
  obtain ⟨b, o, e, ⟨hlt, cs, fz, hh⟩, hc⟩ := h hn
  exact ⟨b, o, e, ⟨hlt, cs, fz, (hb.block b (by omega)).trans hh⟩, fun i hi => (hb.cell (p := ⟨b, o + i, none⟩) (by show b < B'; omega)).trans (hc i hi)⟩
theorem Reads.more {w : World} {B B' : Nat} {A : Option Addr} {l : List Int} (h : Reads w B A l) (hB : B ≤ B') : Reads w B' A l := by
  intro hn
  obtain ⟨b, o, e, ⟨hlt, hh⟩, hc⟩ := h hn
  exact ⟨b, o, e, ⟨by omega, hh⟩, hc⟩
theorem Reads.onto {w W : World} {A : Option Addr} {l : List Int} (h : Reads w w.heap.size A l) (hb : Below w.heap.size w W) : Reads W W.heap.size A l :=
  (h.below hb (Nat.le_refl _)).more hb.size
theorem Reads.take {w : World} {B : Nat} {A : Option Addr} {l : List Int} (h : Reads w B A l) (k : Nat) : Reads w B A (l.take k) := by
  intro hn
  have hl : l ≠ [] := by rintro rfl; simp at hn
  obtain ⟨b, o, e, hlt, hc⟩ := h hl
  refine ⟨b, o, e, hlt, fun i hi => ?_⟩
  rw [List.length_take] at hi
  rw [hc i (by omega), List.getD_eq_getElem?_getD, List.getD_eq_getElem?_getD, List.getElem?_take, if_pos (by omega)]
/-- a store into a block that is no row of ints -/
theorem Reads.set {w : World} {B : Nat} {A : Option Addr} {l : List Int} (h : Reads w B A l) {g : Nat} {cs : Array Value} {t : TypeId} {fz : Nat × Nat} (hg : w.heap[g]? = some (Obj.cells cs t fz)) (ht : 3 ≠ t) (i : Nat) (v : Value) :
    Reads (w.setCell ⟨g, i, none⟩ v) B A l := by
  intro hn
  obtain ⟨b, o, e, ⟨hlt, cs', fz', hh⟩, hc⟩ := h hn
  have hne : b ≠ g := by
    rintro rfl
    rw [hh] at hg
    injection hg with hg
    injection hg with _ h2 _
    exact ht h2
  refine ⟨b, o, e, ⟨hlt, cs', fz', (Below.heap_setCell _ _ _ _ hne).trans hh⟩, fun i hi => ?_⟩
  rw [World.cell?_setCell_other _ _ _ _ (by intro h; injection h with h1; exact hne h1.symm)]
  exact hc i hi
theorem own_reads {w : World} {base : Nat} {v : Value} {l : List Int} (h : w.ownsRow base 3 1 v l.length (l.map (Value.int .i64))) : ∃ A c, v = .slice A l.length c ∧ l.length ≤ c ∧ Reads w w.heap.size A l := by
  rcases h.2 with ⟨rfl, h0⟩ | ⟨g, cap, cur, rfl, hb, hh, hle, _⟩
  · obtain rfl : l = [] := List.eq_nil_of_length_eq_zero h0
    exact ⟨none, 0, rfl, Nat.le_refl _, fun hn => absurd rfl hn⟩
  · refine ⟨_, _, rfl, hle, fun _ => ⟨g, 0, rfl, ⟨(Array.getElem?_eq_some_iff.1 hh).1, _, _, hh⟩, fun i hi => ?_⟩⟩
    have := h.cells (g := g) rfl i (.int .i64 (l.getD i 0)) (by simp [List.getElem?_eq_getElem hi])
    have hadd : (⟨g, 0, none⟩ : Addr).add i = ⟨g, 0 + i, none⟩ := by unfold Addr.add; split <;> simp_all
    rwa [hadd] at this
theorem own_kept {w w' : World} {base : Nat} {e : TypeId} {size n : Nat} {v : Value} {xs : List Value} (h : w.ownsRow base e size v n xs) (hb : Below w.heap.size w w') : w'.ownsRow base e size v n xs :=
  World.ownsRow.kept h (row := none) ⟨hb.os, hb.tape, hb.output, hb.size, fun a ha _ => hb.block a ha⟩ (by
    rcases h.2 with ⟨rfl, _⟩ | ⟨g', cap, cur, rfl, _⟩ <;> simp [Value.ownBlock])

/-- a row that the call owns, and a block of another element type, are two -/
theorem own_ne {w : World} {base : Nat} {e t : TypeId} {size n : Nat} {v : Value} {xs : List Value} {g : Nat} {cs : Array Value} {fz : Nat × Nat}
    (h : w.ownsRow base e size v n xs) (hg : w.heap[g]? = some (.cells cs t fz)) (hne : e ≠ t) : some g ≠ v.ownBlock := by
  rcases h.2 with ⟨rfl, _⟩ | ⟨g', cap, cur, rfl, _, hh, _⟩
  · simp [Value.ownBlock]
  · intro he
    have e1 : g = g' := by simpa [Value.ownBlock] using he
    rw [e1, hh] at hg
    injection hg with hg
    injection hg with _ h2 _
    exact hne h2

theorem own_set {w : World} {base : Nat} {e : TypeId} {size n : Nat} {v : Value} {xs : List Value} (h : w.ownsRow base e size v n xs) {g : Nat} {cs : Array Value} {t : TypeId} {fz : Nat × Nat} (hg : w.heap[g]? = some (Obj.cells cs t fz)) (ht : e ≠ t) (i : Nat) (u : Value) :
    (w.setCell ⟨g, i, none⟩ u).ownsRow base e size v n xs :=
  World.ownsRow.kept h (row := some g) ⟨rfl, rfl, rfl, by simp [World.setCell], fun a _ ha => Below.heap_setCell _ _ _ _ (fun e => ha (by rw [e]))⟩ (.inr (Ne.symm (own_ne h hg ht)))
/-- 'append(out, y)' onto a row of ints of the call's own: y lies in a block of its own by then -/
theorem app_int {ops : Array Oper} {rest : List Oper} {o : Oper} {a : Act} {Q : Exit → Act → World → Prop} {w : World} (hgd : o.guard = none) (s x : Operand)
    (ho : o.op = .call { callee := .builtin .append, args := #[s, x], argTypes := #[48, 48] })
    (base : Nat) (v : Value) (n : Nat) (l : List Int) (y : Int) (hs : a.eval s = v) (hx : a.eval x = .slice (some ⟨w.heap.size, 0, none⟩) 1 1)
    (hown : w.ownsRow base 3 1 v n (l.map (Value.int .i64))) (hn : n ≤ 1000000) (hbase : base ≤ w.heap.size)
    (h : ∀ (v' : Value) (w' : World), w'.ownsRow base 3 1 v' (n + 1) ((l ++ [y]).map (Value.int .i64)) → (∀ W, Below base W w → Below base W w') →
      (∀ (g : Nat) (cs : Array Value) (t : TypeId) (fz : Nat × Nat), w.heap[g]? = some (Obj.cells cs t fz) → 3 ≠ t → w'.heap[g]? = some (Obj.cells cs t fz)) → wpList Tryz.prog ops Q rest (a.put o.dst v') w') :
    wpList Tryz.prog ops Q (o :: rest) a (w.alloc (.cells #[.int .i64 y] 3)) := by
  obtain ⟨i0, hi, hz0, hz1, hz2⟩ := info_parts infoInt
  refine wpList_append_own _ hgd s x 48 ho base 3 i0 (.int .i64 0) 1 8 Tryz.underlying48 hi hz0 hz1 hz2 rfl (by decide) v n _ hs (hown.alloc _) ⟨w.heap.size, 0, none⟩ 1 1 [.int .i64 y] hx rfl ?_ ?_ ?_ ?_ ?_ ?_
  · intro j u hu
    match j, hu with
    | 0, hu => simp at hu; subst hu; simp [Addr.add]
  · intro u hu; simp at hu; subst hu; rfl
  · unfold maxLen; omega
  · omega
  · simp; omega
  · intro v' w' h1 h2 _
    refine h v' w' (by rw [List.map_append]; exact h1) (fun W hW => ?_) (fun g cs t fz hg hne => ?_)
    · exact (hW.alloc hbase _).grown h2 (by simp; omega) (fun k hk => (hown.lt k hk).1)
    · have hlt : g < w.heap.size := (Array.getElem?_eq_some_iff.1 hg).1
      rw [h2.block g (by simp; omega) (own_ne hown hg hne)]
      exact (Below.heap_alloc _ _ _ hlt).trans hg

/-- the value of the reference's number z, its figures in blocks below B -/
def Nz (w : World) (B : Nat) (v : Value) (z : Int) : Prop :=
  ∃ A c, v = .agg #[.bool (decide (z < 0)), .slice A (figs z.natAbs).length c] ∧ (figs z.natAbs).length ≤ c ∧ Reads w B A (figs z.natAbs)
theorem Nz.below {w w' : World} {B B' : Nat} {v : Value} {z : Int} (h : Nz w B v z) (hb : Below B' w w') (hB : B ≤ B') : Nz w' B v z := by
  obtain ⟨A, c, e, hc, hr⟩ := h
  exact ⟨A, c, e, hc, hr.below hb hB⟩
theorem Nz.more {w : World} {B B' : Nat} {v : Value} {z : Int} (h : Nz w B v z) (hB : B ≤ B') : Nz w B' v z := by
  obtain ⟨A, c, e, hc, hr⟩ := h
  exact ⟨A, c, e, hc, hr.more hB⟩
theorem Nz.set {w : World} {B : Nat} {v : Value} {z : Int} (h : Nz w B v z) {g : Nat} {cs : Array Value} {t : TypeId} {fz : Nat × Nat} (hg : w.heap[g]? = some (Obj.cells cs t fz)) (ht : 3 ≠ t) (i : Nat) (u : Value) : Nz (w.setCell ⟨g, i, none⟩ u) B v z := by
  obtain ⟨A, c, e, hc, hr⟩ := h
  exact ⟨A, c, e, hc, hr.set hg ht i u⟩
/-- from call to call -/
theorem Nz.on {w w' : World} {v : Value} {z : Int} (h : Nz w w.heap.size v z) (hb : Below w.heap.size w w') : Nz w' w'.heap.size v z :=
  (h.below hb (Nat.le_refl _)).more hb.size

/-- how a call ends that gives the reference's number z -/
def GivesN (z : Int) (w : World) (e : Ending) (w' : World) : Prop := ∃ v, e = .returned v ∧ Nz w' w'.heap.size v z ∧ Below w.heap.size w w'
theorem gives_of {z : Int} {v : Value} {w W : World} (h : Nz w w.heap.size v z) (hb : Below w.heap.size w W) : GivesN z w (.returned v) W := ⟨v, rfl, h.on hb, hb⟩
/-- how a call ends that gives the ints l -/
def GivesRow (P : List Int → Prop) (w : World) (e : Ending) (w' : World) : Prop := ∃ A l c, e = .returned (.slice A l.length c) ∧ l.length ≤ c ∧ Reads w' w'.heap.size A l ∧ P l ∧ Below w.heap.size w w'

/-- a block known whole -/
def Blk (w : World) (g : Nat) (t : TypeId) (cs : Array Value) : Prop := w.heap[g]? = some (Obj.cells cs t (0, 0))
theorem Blk.lt {w : World} {g : Nat} {t : TypeId} {cs : Array Value} (h : Blk w g t cs) : g < w.heap.size := (Array.getElem?_eq_some_iff.1 h).1
theorem Blk.cell {w : World} {g : Nat} {t : TypeId} {cs : Array Value} (h : Blk w g t cs) (i : Nat) : w.cell? ⟨g, i, none⟩ = cs[i]? := cell_of_row w g i cs t (0, 0) h
theorem Blk.free {w : World} {g : Nat} {t : TypeId} {cs : Array Value} (h : Blk w g t cs) (i : Nat) : w.frozen? ⟨g, i, none⟩ = false := by
  unfold Blk at h
  simp [World.frozen?, h]
theorem Blk.new (w : World) (t : TypeId) (cs : Array Value) : Blk (w.alloc (.cells cs t)) w.heap.size t cs := heap_alloc_new w _
theorem Blk.alloc {w : World} {g : Nat} {t : TypeId} {cs : Array Value} (h : Blk w g t cs) (o : Obj) : Blk (w.alloc o) g t cs := (Below.heap_alloc w o g h.lt).trans h
theorem Blk.drew {w : World} {g : Nat} {t : TypeId} {cs : Array Value} (h : Blk w g t cs) : Blk w.drew g t cs := h
theorem Blk.on {w w' : World} {g B : Nat} {t : TypeId} {cs : Array Value} (h : Blk w g t cs) (hb : Below B w w') (hB : g < B) : Blk w' g t cs := (hb.block g hB).trans h
theorem Blk.set_ {w : World} {g : Nat} {t : TypeId} {cs : Array Value} (h : Blk w g t cs) (i : Nat) (u : Value) : Blk (w.setCell ⟨g, i, none⟩ u) g t (cs.setIfInBounds i u) := by
  unfold Blk at h ⊢
  simp [World.setCell, Array.getElem?_modify, h]
theorem Blk.far {w : World} {g : Nat} {t : TypeId} {cs : Array Value} (h : Blk w g t cs) {p : Addr} (hp : g ≠ p.block) (u : Value) : Blk (w.setCell p u) g t cs := (Below.heap_setCell w p u g hp).trans h
end Go.Proofs.YtnenipgpncomeaaGreatDoor.W2
