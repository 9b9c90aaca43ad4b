/- The names of a tree's vars, each put in its place: plain mathematics. Texts appended to a row of texts of the call's own, in a region that draws. The names of a tree's vars: contract of the reference's Names. Two rows of the call's own that grow in one statement; a condition on the world that holds till a store comes up. Which names are told to have no sorts: plain mathematics. -/
import Derived.Maps.AppendAt
import Derived.BigQuiet
import Derived.Deep.DeepCutAuto
import Derived.Test.YtfbipnflgjhaiaaGreatDoorSP
set_option linter.unusedVariables false
set_option maxRecDepth 100000
set_option maxHeartbeats 8000000
open Go.Lib (hid)
namespace Go.Proofs.YtfbipnflgjhaiaaGreatDoor
open Tk Ex
def slN (a b : ByteArray) : Bool := Op.bytesLess a.toList b.toList
def insK (l : List ByteArray) (m : ByteArray) : Nat := (l.takeWhile (fun x => slN x m)).length
def insN (l : List ByteArray) (m : ByteArray) : List ByteArray := if l[insK l m]? = some m then l else l.take (insK l m) ++ ([m] ++ l.drop (insK l m))
theorem insK_is : ∀ {l : List ByteArray} {m : ByteArray} {k : Nat}, k ≤ l.length → (∀ j x, j < k → l[j]? = some x → slN x m = true) → (∀ x, l[k]? = some x → slN x m = false) → insK l m = k
 | [], m, k, hk, _, _ => by simp at hk; subst hk; rfl
 | y :: l, m, 0, _, _, h2 => by
  unfold insK
  rw [List.takeWhile_cons, if_neg (by rw [h2 y rfl]; decide)]; rfl
 | y :: l, m, k + 1, hk, h1, h2 => by
  have := insK_is (l := l) (m := m) (k := k) (by simpa using hk) (fun j x hj hx => h1 (j + 1) x (by omega) (by simpa using hx)) (fun x hx => h2 x (by simpa using hx))
  unfold insK at this ⊢
  rw [List.takeWhile_cons, if_pos (h1 0 y (by omega) rfl), List.length_cons, this]
theorem mem_insN {l : List ByteArray} {m x : ByteArray} : x ∈ insN l m ↔ x ∈ l ∨ x = m := by
 unfold insN
 split
 ·
  rename_i h
  exact ⟨.inl, fun k => k.elim id fun e => e ▸ List.mem_of_getElem? h⟩
 ·
  rw [List.mem_append, List.mem_append, List.mem_singleton]
  have h := List.take_append_drop (insK l m) l
  constructor
  ·
   rintro (h1 | h1 | h1)
   · exact .inl (List.mem_of_mem_take h1)
   · exact .inr h1
   · exact .inl (List.mem_of_mem_drop h1)
  ·
   rintro (h1 | h1)
   ·
    rw [← h, List.mem_append] at h1
    exact h1.elim .inl fun h2 => .inr (.inr h2)
   · exact .inr (.inl h1)
theorem insN_len (l : List ByteArray) (m : ByteArray) : (insN l m).length ≤ l.length + 1 := by
 unfold insN
 split
 · omega
 · rw [List.length_append, List.length_append, List.length_take, List.length_drop, List.length_singleton]; omega
mutual
def nms : List ByteArray → E → List ByteArray
 | l, .mk o m _ a => nmsL (if eqb o varB = true then insN l m else l) a
def nmsL : List ByteArray → List E → List ByteArray
 | l, [] => l
 | l, x :: r => nmsL (nms l x) r
end
theorem nms_eq (l : List ByteArray) (e : E) : nms l e = nmsL (if eqb e.op varB = true then insN l e.name else l) e.args := by cases e; rfl
theorem nmsL_snoc : ∀ (l : List ByteArray) (a : List E) (x : E), nmsL l (a ++ [x]) = nms (nmsL l a) x
 | l, [], x => rfl
 | l, y :: a, x => by rw [List.cons_append, nmsL, nmsL, nmsL_snoc]
theorem nms_len : ∀ (e : E) (l : List ByteArray), (nms l e).length ≤ l.length + e.size := by
 refine E.ind ?_
 intro e ih l
 rw [nms_eq, E.size_eq]
 have key : ∀ (a : List E) (l : List ByteArray), (∀ x ∈ a, x ∈ e.args) → (nmsL l a).length ≤ l.length + E.sizes a := by
  intro a
  induction a with
  | nil => intro l _; rw [nmsL]; exact Nat.le_add_right _ _
  | cons y a ih2 =>
   intro l hm
   have h1 := ih y (hm y List.mem_cons_self) l
   have h2 := ih2 (nms l y) (fun x hx => hm x (List.mem_cons_of_mem _ hx))
   rw [nmsL]
   show _ ≤ l.length + (y.size + E.sizes a)
   omega
 have h3 := key e.args (if eqb e.op varB = true then insN l e.name else l) (fun x hx => hx)
 have h4 : (if eqb e.op varB = true then insN l e.name else l).length ≤ l.length + 1 := by
  split
  · exact insN_len _ _
  · omega
 omega
inductive Has (m : ByteArray) : E → Prop
 | here (e : E) (h1 : eqb e.op varB = true) (h2 : e.name = m) : Has m e
 | arg (e x : E) (h1 : x ∈ e.args) (h2 : Has m x) : Has m e
theorem mem_nms : ∀ (e : E) (l : List ByteArray) (m : ByteArray), m ∈ nms l e ↔ m ∈ l ∨ Has m e := by
 refine E.ind ?_
 intro e ih l m
 rw [nms_eq]
 have key : ∀ (a : List E) (l : List ByteArray), (∀ x ∈ a, x ∈ e.args) → (m ∈ nmsL l a ↔ m ∈ l ∨ ∃ x ∈ a, Has m x) := by
  intro a
  induction a with
  | nil => intro l _; rw [nmsL]; simp
  | cons y a ih2 =>
   intro l hm
   rw [nmsL, ih2 (nms l y) (fun x hx => hm x (List.mem_cons_of_mem _ hx)), ih y (hm y List.mem_cons_self) l m]
   constructor
   ·
    rintro ((h | h) | ⟨x, hx, h⟩)
    · exact .inl h
    · exact .inr ⟨y, List.mem_cons_self, h⟩
    · exact .inr ⟨x, List.mem_cons_of_mem _ hx, h⟩
   ·
    rintro (h | ⟨x, hx, h⟩)
    · exact .inl (.inl h)
    ·
     rcases List.mem_cons.1 hx with rfl | hx
     · exact .inl (.inr h)
     · exact .inr ⟨x, hx, h⟩
 rw [key e.args _ (fun x hx => hx)]
 constructor
 ·
  rintro (h | ⟨x, hx, h⟩)
  ·
   split at h
   ·
    rename_i hv
    rcases mem_insN.1 h with h | rfl
    · exact .inl h
    · exact .inr (.here e hv rfl)
   · exact .inl h
  · exact .inr (.arg e x hx h)
 ·
  rintro (h | h)
  ·
   left
   split
   · exact mem_insN.2 (.inl h)
   · exact h
  ·
   cases h with
   | here _ h1 h2 => left; rw [if_pos h1]; exact mem_insN.2 (.inr h2.symm)
   | arg _ x h1 h2 => exact .inr ⟨x, h1, h2⟩
open Go.RowKit
theorem infoStrG : (Tryz.prog.info? 9).map (fun i => (i.zero, i.size, i.bytes)) = some (some (.string ⟨#[]⟩), 1, 16) := by kernel_rfl
def RowS (w : World) (base : Nat) (v : Value) (l : List ByteArray) : Prop := w.ownsRow base 9 1 v l.length (l.map Value.string)
theorem RowS.below {w w' : World} {base : Nat} {v : Value} {l : List ByteArray} (h : RowS w base v l) (hb : Below w.heap.size w w') : RowS w' base v l :=
 World.ownsRow.kept h (row := none) ⟨hb.os, hb.tape, hb.output, hb.size, fun k hk hn => hb.block k hk⟩ (by
  cases hv : v.ownBlock with
  | none => exact .inl rfl
  | some k => exact .inr (by simp))
theorem RowS.reads {w : World} {base : Nat} {v : Value} {l : List ByteArray} (h : RowS w base v l) : ∃ A c, v = .slice A l.length c ∧ l.length ≤ c ∧ c ≤ maxLen ∧ SReads w (· < w.heap.size) A l := by
 rcases h.2 with ⟨rfl, h0⟩ | ⟨g, cap, cur, rfl, hb, hh, hle, hm, hs, ht⟩
 ·
  obtain rfl : l = [] := List.eq_nil_of_length_eq_zero h0
  exact ⟨none, 0, rfl, Nat.le_refl _, Nat.zero_le _, SReads.none_ _ _ _⟩
 ·
  refine ⟨_, _, rfl, hle, hm, fun _ => ⟨g, 0, rfl, (Array.getElem?_eq_some_iff.1 hh).1, fun i s hi => ?_⟩⟩
  have hl := (List.getElem?_eq_some_iff.1 hi).1
  have h1 : (cur.toList.take (l.length * 1))[i]? = (l.map Value.string)[i]? := by rw [ht]
  rw [List.getElem?_take_of_lt (by omega), Array.getElem?_toList, List.getElem?_map, hi] at h1
  rw [cell_of_row w g (0 + i) cur 9 _ hh, Nat.zero_add]
  exact h1
theorem add_litG (b o i : Nat) : (⟨b, o, none⟩ : Addr).add i = ⟨b, o + i, none⟩ := by unfold Addr.add; split <;> simp_all
theorem append_nothingG (w : World) (ty : TypeId) (v : Value) (base : Nat) (l : List ByteArray) (h : RowS w base v l) (A : Option Addr) (c : Nat) : (Builtin.append_ #[25, 25] ty #[v, .slice A 0 c]).run Tryz.prog w = .ok v w := by
 obtain ⟨i0, hi, hz0, hz1, hz2⟩ := info_of infoStrG
 obtain ⟨B, d, rfl, hd, _, _⟩ := h.reads
 cases A <;> cases B <;> simp [Builtin.append_, run_underlying Tryz.underlying25, sizeOf, typeInfo, hi, go_sem, storeCells, hd]
theorem app_strs {ops : Array Oper} {o : Oper} {a : Act} {K : Act → World → Prop} {Q : Exit → Act → World → Prop} {E0 : Prop} {w : World} (hgd : o.guard = none) (s x : Operand)
 (ho : o.op = .call { callee := .builtin .append, args := #[s, x], argTypes := #[25, 25] })
 (base : Nat) (v : Value) (l news : List ByteArray) (hs : a.eval s = v) (A : Option Addr) (m c : Nat) (hx : a.eval x = .slice A m c)
 (hown : RowS w base v l) (hm : news.length = m) (hsrc : SReads w (· < w.heap.size) A news) (hn : l.length + m ≤ 100000) (hbase : base ≤ w.heap.size)
 (h : ∀ B d w' l', l' = l ++ news → l'.length ≤ l.length + m → RowS w' base (.slice B l'.length d) l' → (∀ W, Below base W w → Below base W w') → w.grownBy w' v.ownBlock → K (a.put o.dst (.slice B l'.length d)) w') :
 if Region.wanted o (yielded ops a.tmps) = true then Oper.wp Tryz.prog o a w K Q else E0 := by
 have hw : Region.wanted o (yielded ops a.tmps) = true := by simp [Region.wanted, hgd]
 rw [if_pos hw]
 obtain ⟨i0, hi, hz0, hz1, hz2⟩ := info_of infoStrG
 subst hm
 rcases Nat.eq_zero_or_pos news.length with h0 | h0
 ·
  obtain rfl : news = [] := List.eq_nil_of_length_eq_zero h0
  have hr := append_nothingG w o.type v base l hown A c
  unfold Oper.wp execOp
  simp only [ho, resolve, invoke, builtin, Sem.run_bind, Sem.run_pure, Result.andThen_ok, List.map_toArray, List.map_cons, List.map_nil, hs, hx, List.length_nil, hr]
  obtain ⟨B, d, rfl, hd, _, _⟩ := hown.reads
  exact h B d w l (by rw [List.append_nil]) (Nat.le_refl _) hown (fun W hW => hW) (World.grownBy.refl w _)
 ·
  obtain ⟨b, o2, rfl, _, hc⟩ := hsrc (by intro e; rw [e] at h0; simp at h0)
  obtain ⟨v', w', hr, h2, h3, _, h5⟩ := run_append_own_at (P := Tryz.prog) w base 25 o.type 9 i0 _ 1 16 Tryz.underlying25 hi hz0 hz1 hz2 rfl (by decide) v l.length (l.map Value.string) hown ⟨b, o2, none⟩ news.length c (news.map Value.string) (by simp) (by
   intro j u hu
   rw [List.getElem?_map] at hu
   cases hq : news[j]? with
   | none => rw [hq] at hu; cases hu
   | some q =>
    rw [hq] at hu
    injection hu with hu
    subst hu
    rw [add_litG]
    exact hc j q hq) (by intro u hu; obtain ⟨q, _, rfl⟩ := List.mem_map.1 hu; rfl) (by unfold maxLen; omega) (by omega) hbase
  have h2' : RowS w' base v' (l ++ news) := by unfold RowS; rw [List.length_append, List.map_append]; exact h2
  obtain ⟨B, d, rfl, _, _, _⟩ := h2'.reads
  unfold Oper.wp execOp
  simp only [ho, resolve, invoke, builtin, Sem.run_bind, Sem.run_pure, Result.andThen_ok, List.map_toArray, List.map_cons, List.map_nil, hs, hx, hr]
  exact h B d w' _ rfl (by rw [List.length_append]; exact Nat.le_refl _) h2' (fun W hW => hW.grown h3 hbase (fun k hk => (hown.lt k hk).1)) h3
theorem one_src {w : World} {Q : Nat} {x : ByteArray} (h : Blk w Q 9 #[.string x]) : SReads w (· < w.heap.size) (some ⟨Q, 0, none⟩) [x] := fun _ => ⟨Q, 0, rfl, h.lt, fun i s hi => by
 rcases i with _ | i
 · injection hi with hi; subst hi; exact h.cell 0
 · simp at hi⟩
open Go.RowKit
open Tk Ex
set_option linter.unusedSimpArgs false
theorem nmsL_len : ∀ (a : List E) (l : List ByteArray), (nmsL l a).length ≤ l.length + E.sizes a
 | [], l => by rw [nmsL]; exact Nat.le_add_right _ _
 | y :: a, l => by
  have h1 := nms_len y l
  have h2 := nmsL_len a (nms l y)
  rw [nmsL]
  show _ ≤ l.length + (y.size + E.sizes a)
  omega
theorem sizes_take : ∀ (a : List E) (k : Nat) (x : E), a[k]? = some x → E.sizes (a.take k) + x.size ≤ E.sizes a
 | [], k, x, h => by simp at h
 | y :: a, 0, x, h => by
  simp at h
  subst h
  show 0 + y.size ≤ y.size + E.sizes a
  omega
 | y :: a, k + 1, x, h => by
  have := sizes_take a k x (by simpa using h)
  show y.size + E.sizes (a.take k) + x.size ≤ y.size + E.sizes a
  omega
theorem SReads.takeG {w : World} {S : Nat → Prop} {A : Option Addr} {l : List ByteArray} (h : SReads w S A l) (k : Nat) : SReads w S A (l.take k) := fun hn => by
 obtain ⟨b, o, e, hs, hc⟩ := h (by intro h0; rw [h0] at hn; simp at hn)
 refine ⟨b, o, e, hs, fun i x hx => hc i x ?_⟩
 rw [List.getElem?_take] at hx
 split at hx
 · exact hx
 · cases hx
theorem SReads.dropG {w : World} {S : Nat → Prop} {A : Option Addr} {l : List ByteArray} (h : SReads w S A l) {k c : Nat} (hc : l.length ≤ c) : SReads w S (if c = k then A else Option.map (fun x => x.add k) A) (l.drop k) := fun hn => by
 have hk : k < l.length := by
  rcases Nat.lt_or_ge k l.length with h1 | h1
  · exact h1
  · exact absurd (List.drop_eq_nil_of_le h1) hn
 obtain ⟨b, o, e, hs, hcs⟩ := h (by intro h0; rw [h0] at hk; simp at hk)
 subst e
 rw [if_neg (by omega)]
 refine ⟨b, o + k, by rw [Option.map_some, add_litG], hs, fun i x hx => ?_⟩
 rw [List.getElem?_drop] at hx
 have := hcs (k + i) x hx
 rw [show o + k + i = o + (k + i) by omega]
 exact this
theorem row_new {w : World} {B : Nat} {v : Value} {l : List ByteArray} {q : Nat} (h : RowS w B v l) (hq : q = w.heap.size) : some q ≠ v.ownBlock := by
 subst hq
 intro e
 exact absurd (World.ownsRow.lt h w.heap.size e.symm).2 (Nat.lt_irrefl _)
def NmAt (e : E) : Prop := ∀ (l : List ByteArray) (A : Option Addr) (c : Nat) (h : Hd) (w : World), EV w (· < w.heap.size) e h → SReads w (· < w.heap.size) A l → l.length ≤ c → c ≤ maxLen → l.length + e.size ≤ 3000 →
 Calls Tryz.prog 10 #[.slice A l.length c, .agg (ecs e h)] w fun en w' => ∃ A' c', en = .returned (.slice A' (nms l e).length c') ∧ (nms l e).length ≤ c' ∧ c' ≤ maxLen ∧ SReads w' (· < w'.heap.size) A' (nms l e) ∧ Below w.heap.size w w'
theorem nm_step (e : E) (ih : ∀ x ∈ e.args, NmAt x) : NmAt e := by
 intro l A c h w hev hl hlc hcm hln
 obtain ⟨hL, hl1, hL', hl2, hA1, hc1⟩ := h
 have HEV := hid hev
 have HL := hid hl
 have HIH := hid ih
 have HNM := hid (nms_eq l e)
 have hse := E.size_eq e
 have HLE := hid (fun (a : List E) l => nmsL_len a l)
 have hil := insN_len l e.name
 have hal := args_len e
 clear hev hl ih
 unfold ecs
 dsimp only
 go_enter Tryz.func10, Tryz.ntmps10
 go_upto_region 1 with fail
 refine alloc_gn (fun W hW kA => ?_)
 have HW := hid hW
 have HKA := hid kA
 have HL1 := hid (HL.out.on hW)
 have a0 : W.cell? ⟨w.heap.size, 0, none⟩ = some (.string e.op) := kA.cell 0
 generalize hf : w.heap.size = f at *
 have HF := hid hf
 have HFE := hid hf
 clear hW kA hf
 obtain ⟨b0, h0⟩ : ∃ b, eqb e.op varB = b := ⟨_, rfl⟩
 rw [h0] at HNM
 have f0 : (e.op.toList == [118, 97, 114]) = b0 := by rw [ByteArray.toList_eq]; exact h0
 have g0 : (e.op.toList == (⟨#[118, 97, 114]⟩ : ByteArray).toList) = b0 := by rw [ByteArray.toList_eq, ByteArray.toList_eq]; exact h0
 clear h0
 go_upto_if 9 with fail
 go_cut [0] from 10 to 50 (fun s0 wx => ∃ (l1 : List ByteArray) (A1 : Option Addr) (c1 : Nat), s0 = .slice A1 l1.length c1 ∧ l1 = (if b0 = true then insN l e.name else l) ∧ l1.length ≤ c1 ∧ c1 ≤ maxLen ∧ SReads wx (· < wx.heap.size) A1 l1 ∧ Below f w wx ∧ Blk wx f 30 (ecs e ⟨hL, hl1, hL', hl2, hA1, hc1⟩))
 case first =>
  cases b0 with
  | false =>
   go_wp2_with fail
   go_meet
   exact ⟨l, A, c, rfl, rfl, hlc, hcm, HL1.out, HW.out, HKA.out⟩
  | true =>
   clear a0 f0 g0
   go_wp2_with fail
   go_loopw [5] (fun x wr => ∃ k : Nat, k ≤ l.length ∧ x = .int .i64 k ∧ (∀ j y, j < k → l[j]? = some y → slN y e.name = true) ∧ SReads wr (· < wr.heap.size) A l ∧ Below f w wr ∧ Blk wr f 30 (ecs e ⟨hL, hl1, hL', hl2, hA1, hc1⟩)) (fun x _ => l.length - (intOf x).toNat)
   case atStart => exact ⟨0, Nat.zero_le _, rfl, fun j y h => absurd h (Nat.not_lt_zero j), HL1.out, HW.out, HKA.out⟩
   case round =>
    obtain ⟨k, hk, rfl, hall, hsr, hbw, hkb⟩ := hrel
    have HALL := hid hall
    have HSR := hid hsr
    have HBW := hid hbw
    have HKB := hid hkb
    have c1 : wr.cell? ⟨f, 1, none⟩ = some (.string e.name) := hkb.cell 1
    have fw : f ≤ wr.heap.size := Nat.le_of_lt hkb.lt
    clear hall hsr hbw hkb
    by_cases hgo : ∃ y, l[k]? = some y ∧ slN y e.name = true
    ·
     obtain ⟨y, hy, hys⟩ := hgo
     have hlt := (List.getElem?_eq_some_iff.1 hy).1
     obtain ⟨b, o, hA, hb, hcs⟩ := HSR.out (by intro h; rw [h] at hlt; simp at hlt)
     have c0 := hcs k y hy
     have u1 : decide ((k : Int) < (l.length : Int)) = true := decide_eq_true (by omega)
     have u2 : decide (k < l.length) = true := decide_eq_true hlt
     have i1 : (k : Int) < (l.length : Int) := by omega
     have i2 : (0 : Int) ≤ (k : Int) := by omega
     have v1 : Op.bytesLess y.toList e.name.toList = true := hys
     have HY := hid hy
     have HYS := hid hys
     clear hcs hy hys
     subst hA
     go_wp2_with fail
     go_quiet (fail)
     rename_i nq
     have HB2 := hid (below_drewN HBW.out nq)
     have HK2 := hid (show Blk (wr.drewN nq) f 30 (ecs e ⟨hL, hl1, hL', hl2, hA1, hc1⟩) from HKB.out)
     have HS2 := hid (show SReads (wr.drewN nq) (· < (wr.drewN nq).heap.size) (some ⟨b, o, none⟩) l from HSR.out)
     generalize wr.drewN nq = W2 at *
     clear c0 c1
     go_wp2_with fail
     go_roundw
     case rel => exact ⟨k + 1, hlt, by go_num, fun j z hj hz => by
      rcases Nat.lt_or_ge j k with h | h
      · exact HALL.out j z h hz
      ·
       obtain rfl : j = k := by omega
       rw [HY.out] at hz
       injection hz with hz
       subst hz
       exact HYS.out, HS2.out, HB2.out, HK2.out⟩
     case measure => simp [intOf]; omega
    ·
     have HIK := hid (insK_is (l := l) (m := e.name) (k := k) hk HALL.out (fun x hx => by
      cases hs : slN x e.name with
      | false => rfl
      | true => exact absurd ⟨x, hx, hs⟩ hgo))
     have HNS := hid (fun y (hy : l[k]? = some y) => (show slN y e.name = false by
      cases hs : slN y e.name with
      | false => rfl
      | true => exact absurd ⟨y, hy, hs⟩ hgo))
     clear hgo
     by_cases hit : l[k]? = some e.name
     ·
      have HIN := hid (show insN l e.name = l by unfold insN; rw [HIK.out, if_pos hit])
      have hlt := (List.getElem?_eq_some_iff.1 hit).1
      obtain ⟨b, o, hA, hb, hcs⟩ := HSR.out (by intro h; rw [h] at hlt; simp at hlt)
      have c0 := hcs k _ hit
      have u1 : decide ((k : Int) < (l.length : Int)) = true := decide_eq_true (by omega)
      have u2 : decide (k < l.length) = true := decide_eq_true hlt
      have u3 : ((k : Int) == (l.length : Int)) = false := by rw [beq_eq_false_iff_ne]; omega
      have u4 : (k == l.length) = false := by rw [beq_eq_false_iff_ne]; omega
      have i1 : (k : Int) < (l.length : Int) := by omega
      have i2 : (0 : Int) ≤ (k : Int) := by omega
      have v1 : Op.bytesLess e.name.toList e.name.toList = false := HNS.out _ hit
      have HH := hid hit
      clear hcs hit
      subst hA
      go_wp2_with fail
      go_quiet (fail)
      rename_i nq
      have HB2 := hid (below_drewN HBW.out nq)
      have HK2 := hid (show Blk (wr.drewN nq) f 30 (ecs e ⟨hL, hl1, hL', hl2, hA1, hc1⟩) from HKB.out)
      have HS2 := hid (show SReads (wr.drewN nq) (· < (wr.drewN nq).heap.size) (some ⟨b, o, none⟩) l from HSR.out)
      generalize wr.drewN nq = W2 at *
      have c1 : W2.cell? ⟨f, 1, none⟩ = some (.string e.name) := HK2.out.cell 1
      obtain ⟨b', o', hA', hb', hcz⟩ := HS2.out (by intro h; rw [h] at hlt; simp at hlt)
      injection hA' with hA'
      injection hA' with hA1' hA2'
      subst hA1' hA2'
      have c0 := hcz k e.name HH.out
      have v2 : (e.name.toList != e.name.toList) = false := by simp
      have v3 : (e.name.toList == e.name.toList) = true := by simp
      clear hcz
      go_wp2_with fail
      go_quiet (fail)
      rename_i nq
      have HB3 := hid (below_drewN HB2.out nq)
      have HK3 := hid (show Blk (W2.drewN nq) f 30 (ecs e ⟨hL, hl1, hL', hl2, hA1, hc1⟩) from HK2.out)
      have HS3 := hid (show SReads (W2.drewN nq) (· < (W2.drewN nq).heap.size) (some ⟨b, o, none⟩) l from HS2.out)
      generalize W2.drewN nq = W3 at *
      clear c0 c1
      go_wp2_with fail
      go_meet
      exact ⟨l, _, c, rfl, by simpa using HIN.out.symm, hlc, hcm, HS3.out, HB3.out, HK3.out⟩
     ·
      have HIN := hid (show insN l e.name = l.take k ++ ([e.name] ++ l.drop k) by unfold insN; rw [HIK.out, if_neg hit])
      have HIT := hid hit
      clear hit
      rcases Nat.lt_or_ge k l.length with hlt | hge
      obtain ⟨b, o, hA, hb, hcs⟩ := HSR.out (by intro h; rw [h] at hlt; simp at hlt)
      obtain ⟨y, hy⟩ : ∃ y, l[k]? = some y := ⟨_, List.getElem?_eq_getElem hlt⟩
      have c0 := hcs k y hy
      have HY := hid hy
      have v1 : Op.bytesLess y.toList e.name.toList = false := HNS.out y hy
      have hne : y ≠ e.name := fun h => HIT.out (by rw [← h]; exact hy)
      have v2 : (y.toList != e.name.toList) = true := by
       rw [bne_iff_ne, ByteArray.toList_eq, ByteArray.toList_eq]
       exact fun h => hne (ba_ext h)
      have v3 : (y.toList == e.name.toList) = false := by
       rw [beq_eq_false_iff_ne, ByteArray.toList_eq, ByteArray.toList_eq]
       exact fun h => hne (ba_ext h)
      have u1 : decide ((k : Int) < (l.length : Int)) = true := decide_eq_true (by omega)
      have u2 : decide (k < l.length) = true := decide_eq_true hlt
      have u3 : ((k : Int) == (l.length : Int)) = false := by rw [beq_eq_false_iff_ne]; omega
      have u4 : (k == l.length) = false := by rw [beq_eq_false_iff_ne]; omega
      have i1 : (k : Int) < (l.length : Int) := by omega
      have i2 : (0 : Int) ≤ (k : Int) := by omega
      clear hcs hy hne
      subst hA
      go_wp2_with fail
      go_quiet (fail)
      rename_i nq
      have HB2 := hid (below_drewN HBW.out nq)
      have HK2 := hid (show Blk (wr.drewN nq) f 30 (ecs e ⟨hL, hl1, hL', hl2, hA1, hc1⟩) from HKB.out)
      have HS2 := hid (show SReads (wr.drewN nq) (· < (wr.drewN nq).heap.size) (some ⟨b, o, none⟩) l from HSR.out)
      generalize wr.drewN nq = W2 at *
      have c1 : W2.cell? ⟨f, 1, none⟩ = some (.string e.name) := HK2.out.cell 1
      obtain ⟨b2, o2, hA2, hb2, hcz⟩ := HS2.out (by intro h; rw [h] at hlt; simp at hlt)
      injection hA2 with hA2
      injection hA2 with hA3 hA4
      subst hA3 hA4
      have c0 := hcz k y HY.out
      clear hcz hb2
      go_wp2_with fail
      go_quiet (fail)
      rename_i nq
      have HB3 := hid (below_drewN HB2.out nq)
      have HK3 := hid (show Blk (W2.drewN nq) f 30 (ecs e ⟨hL, hl1, hL', hl2, hA1, hc1⟩) from HK2.out)
      have HS3 := hid (show SReads (W2.drewN nq) (· < (W2.drewN nq).heap.size) (some ⟨b, o, none⟩) l from HS2.out)
      generalize W2.drewN nq = W3 at *
      clear c0 c1 v1 v2 v3 HY hb u1 u2 u3 u4 i1 i2
      generalize (some (⟨b, o, none⟩ : Addr)) = A at *
      rotate_left
      have u1 : decide ((k : Int) < (l.length : Int)) = false := decide_eq_false (by omega)
      have u2 : decide (k < l.length) = false := decide_eq_false (by omega)
      have u3 : ((k : Int) == (l.length : Int)) = true := beq_iff_eq.2 (by omega)
      have u4 : (k == l.length) = true := beq_iff_eq.2 (by omega)
      go_wp2_with fail
      go_quiet (fail)
      rename_i nq
      have HB2 := hid (below_drewN HBW.out nq)
      have HK2 := hid (show Blk (wr.drewN nq) f 30 (ecs e ⟨hL, hl1, hL', hl2, hA1, hc1⟩) from HKB.out)
      have HS2 := hid (show SReads (wr.drewN nq) (· < (wr.drewN nq).heap.size) A l from HSR.out)
      generalize wr.drewN nq = W2 at *
      go_wp2_with fail
      go_quiet (fail)
      rename_i nq
      have HB3 := hid (below_drewN HB2.out nq)
      have HK3 := hid (show Blk (W2.drewN nq) f 30 (ecs e ⟨hL, hl1, hL', hl2, hA1, hc1⟩) from HK2.out)
      have HS3 := hid (show SReads (W2.drewN nq) (· < (W2.drewN nq).heap.size) A l from HS2.out)
      generalize W2.drewN nq = W3 at *
      all_goals
       go_wp2_with fail
       have i3 : (k : Int) ≤ (c : Int) := by omega
       have i4 : (0 : Int) ≤ (k : Int) := by omega
       have i5 : (k : Int) ≤ (l.length : Int) := by omega
       have i6 : (l.length : Int) ≤ (c : Int) := by omega
       have HSO := hid (show ∀ w', Below W3.heap.size W3 w' → w'.cell? ⟨f, 1, none⟩ = some (.string e.name) from fun w' hb => (HK3.out.onto hb).cell 1)
       have HD := hid (show Below W3.heap.size W3 W3.drew from (Below.refl _ _).drew)
       refine wp_region_held_drew (S := fun w' => w'.cell? ⟨f, 1, none⟩ = some (.string e.name)) (by kernel_rfl) ?_ (fun hHeld => ?_)
       · exact HSO.out _ HD.out
       refine wpAnyH_take (i := 1) (v := ?_) rfl (by kernel_rfl) (by kernel_rfl) (by kernel_rfl) (fun _ _ _ h => h) (Or.inl ⟨by rfl, ?_⟩) (by assumption) ?_
       rotate_left
       ·
        intro wq hSw
        try dsimp only at hSw
        go_simp
        try (with_reducible rfl)
       try simp only [Act.put, sqa, sqb, sqc, sqd, sqe, sqf]
       refine wpAnyH_take (i := 2) (v := ?_) rfl (by kernel_rfl) (by kernel_rfl) (by kernel_rfl) (fun _ _ _ h => h) (Or.inl ⟨by rfl, ?_⟩) (by assumption) ?_
       rotate_left
       ·
        intro wq hSw
        try dsimp only at hSw
        go_simp
        try (with_reducible rfl)
       try simp only [Act.put, sqa, sqb, sqc, sqd, sqe, sqf]
       refine wpAnyH_take (i := 3) (v := ?_) rfl (by kernel_rfl) (by kernel_rfl) (by kernel_rfl) (fun _ _ _ h => h) (Or.inl ⟨by rfl, ?_⟩) (by assumption) ?_
       rotate_left
       ·
        intro wq hSw
        try dsimp only at hSw
        go_simp
        try (with_reducible rfl)
       try simp only [Act.put, sqa, sqb, sqc, sqd, sqe, sqf]
       refine wpAnyH_take (i := 5) (v := ?_) rfl (by kernel_rfl) (by kernel_rfl) (by kernel_rfl) (fun _ _ _ h => h) (Or.inl ⟨by rfl, ?_⟩) (by assumption) ?_
       rotate_left
       ·
        intro wq hSw
        try dsimp only at hSw
        go_simp
        try (with_reducible rfl)
       try simp only [Act.put, sqa, sqb, sqc, sqd, sqe, sqf]
       refine wpAnyH_take (i := 6) (v := ?_) rfl (by kernel_rfl) (by kernel_rfl) (by kernel_rfl) (fun _ _ _ h => h) (Or.inl ⟨by rfl, ?_⟩) (by assumption) ?_
       rotate_left
       ·
        intro wq hSw
        try dsimp only at hSw
        go_simp
        try (with_reducible rfl)
       try simp only [Act.put, sqa, sqb, sqc, sqd, sqe, sqf]
       refine wpAnyH_take (i := 9) (v := ?_) rfl (by kernel_rfl) (by kernel_rfl) (by kernel_rfl) (fun _ _ _ h => h) (Or.inl ⟨by rfl, ?_⟩) (by assumption) ?_
       rotate_left
       ·
        intro wq hSw
        try dsimp only at hSw
        go_simp
        try (with_reducible rfl)
       try simp only [Act.put, sqa, sqb, sqc, sqd, sqe, sqf]
       refine wpAnyH_take (i := 10) (v := ?_) rfl (by kernel_rfl) (by kernel_rfl) (by kernel_rfl) (fun _ _ _ h => h) (Or.inl ⟨by rfl, ?_⟩) (by assumption) ?_
       rotate_left
       ·
        intro wq hSw
        try dsimp only at hSw
        go_simp
        try (with_reducible rfl)
       try simp only [Act.put, sqa, sqb, sqc, sqd, sqe, sqf]
       refine wpAnyH_take (i := 11) (v := ?_) rfl (by kernel_rfl) (by kernel_rfl) (by kernel_rfl) (fun _ _ _ h => h) (Or.inl ⟨by rfl, ?_⟩) (by assumption) ?_
       rotate_left
       ·
        intro wq hSw
        try dsimp only at hSw
        go_simp
        try (with_reducible rfl)
       try simp only [Act.put, sqa, sqb, sqc, sqd, sqe, sqf]
       have HS4 := hid (HS3.out.dropG (k := k) (c := c) hlc)
       have HTK := hid (HS3.out.takeG k)
       have hlt : (l.take k).length = k := by rw [List.length_take]; omega
       have hld : (l.drop k).length = l.length - k := by rw [List.length_drop]
       have HLT := hid hlt
       have HLD := hid hld
       clear hlt hld
       have HSD := hid (show ∀ w', Below W3.drew.heap.size W3.drew w' → w'.cell? ⟨f, 1, none⟩ = some (.string e.name) from fun w' hb => HSO.out w' (HD.out.trans (hb.mono HD.out.size)))
       have HTD := hid (HTK.out.on HD.out)
       have HDP := hid (HS4.out.on HD.out)
       have HDD := hid (Below.refl W3.drew.heap.size W3.drew)
       generalize W3.drew = WD at *
       have HX := HDD
       obtain ⟨X, hX⟩ : ∃ X, X = WD := ⟨_, rfl⟩
       rw [← hX]
       have HX := hid (show Below WD.heap.size WD X from by rw [hX]; exact HX.out)
       clear hX
       refine wpAnyH_ready (rs := [0, 7]) (by kernel_rfl) (by simp) ?_; refine AllReadyH.cons rfl (fun K0 hK => ?_) (AllReadyH.cons rfl (fun K0 hK => ?_) AllReadyH.nil)
       all_goals first
        | (
         go_simp
         obtain ⟨g9, h9⟩ : ∃ g, g = X.heap.size := ⟨_, rfl⟩
         try have KN := hid (show some q9 ≠ (Value.slice (some ⟨g9, 0, none⟩) 0 0).ownBlock from fun h => by have := KQ.out.lt; have := Option.some.inj (show some q9 = some g9 from h); omega)
         try have KQ := hid (KQ.out.alloc (.cells #[] 9))
         have RW := hid (show RowS (X.alloc (.cells #[] 9)) WD.heap.size (.slice (some ⟨g9, 0, none⟩) 0 0) [] from by rw [h9]; exact World.ownsRow_lit (base := WD.heap.size) (size := 1) (e := 9) X #[] 0 HX.out.size (Nat.zero_le _) rfl)
         have HX := hid (HX.out.alloc HX.out.size (.cells #[] 9))
         refine hK.out _ _ (HSD.out _ HX.out) (fun hHeld => ?_)
         clear hK K0
         rw [← h9]
         generalize X.alloc (.cells #[] 9) = X at *
         clear h9
         try simp only [Act.put, sqa, sqb, sqc, sqd, sqe, sqf])
        | (
         go_simp
         obtain ⟨q9, h9⟩ : ∃ g, g = X.heap.size := ⟨_, rfl⟩
         try have KN := hid (row_new RW.out h9)
         try have RW := hid (RW.out.below ((Below.refl _ _).alloc (Nat.le_refl _) (.cells #[.string e.name] 9)))
         have KQ := hid (show Blk (X.alloc (.cells #[.string e.name] 9)) q9 9 #[.string e.name] from by rw [h9]; exact Blk.new X _ _)
         have HX := hid (HX.out.alloc HX.out.size (.cells #[.string e.name] 9))
         refine hK.out _ _ (HSD.out _ HX.out) (fun hHeld => ?_)
         clear hK K0
         rw [← h9]
         generalize X.alloc (.cells #[.string e.name] 9) = X at *
         clear h9
         try simp only [Act.put, sqa, sqb, sqc, sqd, sqe, sqf])
       rotate_left
       refine wpAnyH_ready (rs := [0]) (by kernel_rfl) (by simp) ?_; refine AllReadyH.cons rfl (fun K0 hK => ?_) AllReadyH.nil
       rotate_left
       refine wpAnyH_ready (rs := [4, 7]) (by kernel_rfl) (by simp) ?_; refine AllReadyH.cons rfl (fun K0 hK => ?_) (AllReadyH.cons rfl (fun K0 hK => ?_) AllReadyH.nil)
       all_goals first
        | (
         refine app_strs rfl (.tmp 38) (.tmp 41) rfl WD.heap.size _ [] (l.take k) rfl A k c rfl RW.out HLT.out (HTD.out.on HX.out) (by simp only [List.length_nil]; omega) HX.out.size ?_
         intro B38 d38 X l4 he hlen hrow hbe hgr
         have RW := hid hrow
         have L4 := hid he
         have HX := hid (hbe WD HX.out)
         try have KQ := hid (show Blk X q9 9 #[.string e.name] from (hgr.block q9 KQ.out.lt KN.out).trans KQ.out)
         have hl4 : l4.length ≤ k := by simpa using hlen
         clear hrow hbe hgr he hlen
         refine hK.out _ _ (HSD.out _ HX.out) (fun hHeld => ?_)
         clear hK K0
         try simp only [Act.put, sqa, sqb, sqc, sqd, sqe, sqf])
        | (
         go_simp
         obtain ⟨g9, h9⟩ : ∃ g, g = X.heap.size := ⟨_, rfl⟩
         try have KN := hid (show some q9 ≠ (Value.slice (some ⟨g9, 0, none⟩) 0 0).ownBlock from fun h => by have := KQ.out.lt; have := Option.some.inj (show some q9 = some g9 from h); omega)
         try have KQ := hid (KQ.out.alloc (.cells #[] 9))
         have RW := hid (show RowS (X.alloc (.cells #[] 9)) WD.heap.size (.slice (some ⟨g9, 0, none⟩) 0 0) [] from by rw [h9]; exact World.ownsRow_lit (base := WD.heap.size) (size := 1) (e := 9) X #[] 0 HX.out.size (Nat.zero_le _) rfl)
         have HX := hid (HX.out.alloc HX.out.size (.cells #[] 9))
         refine hK.out _ _ (HSD.out _ HX.out) (fun hHeld => ?_)
         clear hK K0
         rw [← h9]
         generalize X.alloc (.cells #[] 9) = X at *
         clear h9
         try simp only [Act.put, sqa, sqb, sqc, sqd, sqe, sqf])
        | (
         go_simp
         obtain ⟨q9, h9⟩ : ∃ g, g = X.heap.size := ⟨_, rfl⟩
         try have KN := hid (row_new RW.out h9)
         try have RW := hid (RW.out.below ((Below.refl _ _).alloc (Nat.le_refl _) (.cells #[.string e.name] 9)))
         have KQ := hid (show Blk (X.alloc (.cells #[.string e.name] 9)) q9 9 #[.string e.name] from by rw [h9]; exact Blk.new X _ _)
         have HX := hid (HX.out.alloc HX.out.size (.cells #[.string e.name] 9))
         refine hK.out _ _ (HSD.out _ HX.out) (fun hHeld => ?_)
         clear hK K0
         rw [← h9]
         generalize X.alloc (.cells #[.string e.name] 9) = X at *
         clear h9
         try simp only [Act.put, sqa, sqb, sqc, sqd, sqe, sqf])
       refine wpAnyH_ready (rs := [7]) (by kernel_rfl) (by simp) ?_; refine AllReadyH.cons rfl (fun K0 hK => ?_) AllReadyH.nil
       rotate_left
       refine wpAnyH_ready (rs := [4]) (by kernel_rfl) (by simp) ?_; refine AllReadyH.cons rfl (fun K0 hK => ?_) AllReadyH.nil
       rotate_left
       refine wpAnyH_ready (rs := [4]) (by kernel_rfl) (by simp) ?_; refine AllReadyH.cons rfl (fun K0 hK => ?_) AllReadyH.nil
       all_goals first
        | (
         refine app_strs rfl (.tmp 38) (.tmp 41) rfl WD.heap.size _ [] (l.take k) rfl A k c rfl RW.out HLT.out (HTD.out.on HX.out) (by simp only [List.length_nil]; omega) HX.out.size ?_
         intro B38 d38 X l4 he hlen hrow hbe hgr
         have RW := hid hrow
         have L4 := hid he
         have HX := hid (hbe WD HX.out)
         try have KQ := hid (show Blk X q9 9 #[.string e.name] from (hgr.block q9 KQ.out.lt KN.out).trans KQ.out)
         have hl4 : l4.length ≤ k := by simpa using hlen
         clear hrow hbe hgr he hlen
         refine hK.out _ _ (HSD.out _ HX.out) (fun hHeld => ?_)
         clear hK K0
         try simp only [Act.put, sqa, sqb, sqc, sqd, sqe, sqf])
        | (
         go_simp
         obtain ⟨q9, h9⟩ : ∃ g, g = X.heap.size := ⟨_, rfl⟩
         try have KN := hid (row_new RW.out h9)
         try have RW := hid (RW.out.below ((Below.refl _ _).alloc (Nat.le_refl _) (.cells #[.string e.name] 9)))
         have KQ := hid (show Blk (X.alloc (.cells #[.string e.name] 9)) q9 9 #[.string e.name] from by rw [h9]; exact Blk.new X _ _)
         have HX := hid (HX.out.alloc HX.out.size (.cells #[.string e.name] 9))
         refine hK.out _ _ (HSD.out _ HX.out) (fun hHeld => ?_)
         clear hK K0
         rw [← h9]
         generalize X.alloc (.cells #[.string e.name] 9) = X at *
         clear h9
         try simp only [Act.put, sqa, sqb, sqc, sqd, sqe, sqf])
       all_goals
        refine wpAnyH_ready (rs := [8]) (by kernel_rfl) (by simp) ?_; refine AllReadyH.cons rfl (fun K0 hK => ?_) AllReadyH.nil
        refine app_strs rfl (.tmp 42) (.tmp 45) rfl WD.heap.size _ l4 [e.name] rfl (some ⟨q9, 0, none⟩) 1 1 rfl RW.out rfl (one_src KQ.out) (by omega) HX.out.size ?_
        intro B42 d42 X l8 he hlen hrow hbe hgr
        have RW := hid hrow
        have L8 := hid he
        have HX := hid (hbe WD HX.out)
        have hl8 : l8.length ≤ k + 1 := by omega
        clear hrow hbe hgr he hlen
        refine hK.out _ _ (HSD.out _ HX.out) (fun hHeld => ?_)
        clear hK K0
        try simp only [Act.put, sqa, sqb, sqc, sqd, sqe, sqf]
        refine wpAnyH_ready (rs := [12]) (by kernel_rfl) (by simp) ?_; refine AllReadyH.cons rfl (fun K0 hK => ?_) AllReadyH.nil
        refine app_strs rfl (.tmp 46) (.tmp 49) rfl WD.heap.size _ l8 (l.drop k) rfl (if c = k then A else Option.map (fun x => x.add k) A) (l.length - k) (c - k) (by first | rfl | (rw [show l.length - k = 0 by omega]; rfl)) RW.out HLD.out (HDP.out.on HX.out) (by omega) HX.out.size ?_
        intro B46 d46 X l12 he hlen hrow hbe hgr
        have RW := hid hrow
        have L12 := hid he
        have HX := hid (hbe WD HX.out)
        clear hrow hbe hgr he hlen
        refine hK.out _ _ (HSD.out _ HX.out) (fun hHeld => ?_)
        clear hK K0
        try simp only [Act.put, sqa, sqb, sqc, sqd, sqe, sqf]
        refine wpAnyH_take (i := 13) (v := ?_) rfl (by kernel_rfl) (by kernel_rfl) (by kernel_rfl) (fun _ _ _ h => h) (Or.inl ⟨by rfl, ?_⟩) (by assumption) ?_
        rotate_left
        ·
         intro wq hSw
         try dsimp only at hSw
         go_simp
         try (with_reducible rfl)
        try simp only [Act.put, sqa, sqb, sqc, sqd, sqe, sqf]
        refine wpAnyH_done (by kernel_rfl) ?_ _
        go_wp2_with fail
        by_cases hck : c = k <;> first | simp only [if_pos hck] | simp only [if_neg hck] | skip
        all_goals
         go_meet
         obtain ⟨B, d, hBd, hld, hcd, hrd⟩ := RW.out.reads
         injection hBd with h1 h2 h3
         subst h1 h3
         have hbf := HD.out.trans (HX.out.mono HD.out.size)
         exact ⟨l12, _, _, rfl, (by rw [L12.out, L8.out, L4.out]; simpa using HIN.out.symm), hld, hcd, hrd, HB3.out.trans (hbf.mono (Nat.le_of_lt HK3.out.lt)), HK3.out.onto hbf⟩
 case rest =>
  obtain ⟨l1, A1, c1, rfl, hl1e, hlc1, hcm1, hsr, hbw, hkb⟩ := hcut
  have hll : l1.length ≤ l.length + 1 := by
   rw [hl1e]
   split
   · exact hil
   · omega
  have HM := hid (show nms l e = nmsL l1 e.args by rw [HNM.out, hl1e])
  have HSR := hid hsr
  have HBW := hid hbw
  have HKB := hid hkb
  have a8 : wc.cell? ⟨f, 8, none⟩ = some (.slice hA1 e.args.length hc1) := hkb.cell 8
  clear hl1e hsr hbw hkb hil f0 g0
  go_wp2_with fail
  clear a8
  go_loopw [0, 54] (fun y x wr => ∃ (k : Nat) (A2 : Option Addr) (c2 : Nat), k ≤ e.args.length ∧ x = .int .i64 k ∧ y = .slice A2 (nmsL l1 (e.args.take k)).length c2 ∧ (nmsL l1 (e.args.take k)).length ≤ c2 ∧ c2 ≤ maxLen ∧ SReads wr (· < wr.heap.size) A2 (nmsL l1 (e.args.take k)) ∧ Below f w wr ∧ Blk wr f 30 (ecs e ⟨hL, hl1, hL', hl2, hA1, hc1⟩)) (fun _ x _ => e.args.length - (intOf x).toNat)
  case atStart => exact ⟨0, A1, c1, Nat.zero_le _, rfl, rfl, hlc1, hcm1, HSR.out, HBW.out, HKB.out⟩
  case round =>
   obtain ⟨k, A2, c2, hk, rfl, rfl, hlc2, hcm2, hsr, hbw, hkb⟩ := hrel
   have HSR2 := hid hsr
   have HBW2 := hid hbw
   have HKB2 := hid hkb
   have fw : f < wr.heap.size := hkb.lt
   have htl := HLE.out (e.args.take k) l1
   have a8 : wr.cell? ⟨f, 8, none⟩ = some (.slice hA1 e.args.length hc1) := hkb.cell 8
   clear hsr hkb
   by_cases hlt : k < e.args.length
   ·
    have u1 : decide (k < e.args.length) = true := decide_eq_true hlt
    have u2 : decide ((k : Int) < (e.args.length : Int)) = true := decide_eq_true (by omega)
    have i1 : (k : Int) < (e.args.length : Int) := by omega
    have i2 : (0 : Int) ≤ (k : Int) := by omega
    have hev2 := HEV.out.under hbw
    obtain ⟨b, o, x, q, hAe, hSb, hx, h9, hex⟩ := hev2.at_ hlt
    dsimp only at hAe
    subst hAe
    obtain ⟨p0, p1, p2, p3, p4, p5, p6, p7, p8⟩ := h9.cells
    have hst := sizes_take e.args k x hx
    have HXM := hid (List.mem_of_getElem? hx)
    have HTK := hid (show nmsL l1 (e.args.take (k + 1)) = nms (nmsL l1 (e.args.take k)) x by rw [List.take_add_one, hx]; exact nmsL_snoc _ _ _)
    have HI := hid (show Calls Tryz.prog 10 #[.slice A2 (nmsL l1 (e.args.take k)).length c2, .agg #[.string x.op, .string x.name, .int .i64 x.lit.kind, .bool x.lit.tr, .int .i64 x.lit.num, .string x.lit.str, .slice q.L x.lit.items.length q.l, .slice q.L' x.lit.keys.length q.l', .slice q.A x.args.length q.c]] wr (fun en w' => ∃ A' c', en = .returned (.slice A' (nmsL l1 (e.args.take (k + 1))).length c') ∧ (nmsL l1 (e.args.take (k + 1))).length ≤ c' ∧ c' ≤ maxLen ∧ SReads w' (· < w'.heap.size) A' (nmsL l1 (e.args.take (k + 1))) ∧ Below wr.heap.size wr w') from by
     rw [HTK.out]
     exact HIH.out x HXM.out _ A2 c2 q wr (hex.wide (fun _ h => Nat.lt_trans h fw)) HSR2.out hlc2 hcm2 (by omega))
    clear hev2 hx h9 hex hbw hst htl HTK HXM hSb
    generalize nmsL l1 (e.args.take k) = la at *
    generalize hlb : nmsL l1 (e.args.take (k + 1)) = lb at *
    have HLB := hid hlb
    clear hlb
    go_wp2_with fail
    refine HI.out.mono ?_
    rintro en w6 ⟨A', c', rfl, g1, g2, g3, hb6⟩
    have HG := hid g3
    have HK6 := hid (HKB2.out.onto hb6)
    have HB6 := hid (HBW2.out.trans (hb6.mono (Nat.le_of_lt fw)))
    clear hb6 g3 p0 p1 p2 p3 p4 p5 p6 p7 p8 a8
    go_wp2_with fail
    go_roundw
    case rel => exact ⟨k + 1, A', c', hlt, by go_num, by rw [HLB.out], by rw [HLB.out]; exact g1, g2, by rw [HLB.out]; exact HG.out, HB6.out, HK6.out⟩
    case measure => simp [intOf]; omega
   ·
    obtain rfl : k = e.args.length := by omega
    have u1 : decide (e.args.length < e.args.length) = false := decide_eq_false (by omega)
    have u2 : decide ((e.args.length : Int) < (e.args.length : Int)) = false := decide_eq_false (by omega)
    rw [List.take_length] at *
    have HHM := hid HM.out
    generalize nmsL l1 e.args = la at *
    go_wp2_with fail
    go_ret
    exact ⟨A2, c2, by rw [HHM.out]; rfl, by rw [HHM.out]; exact hlc2, hcm2, by rw [HHM.out]; exact HSR2.out, by rw [HFE.out]; exact HBW2.out⟩
theorem names_any : ∀ e : E, NmAt e := by
 refine E.ind ?_
 exact nm_step
open Go.RowKit
open Tk Ex
section
variable {P : Program} {ops : Array Oper} {Q : Exit → Act → World → Prop} {md : Region.Mode} {z : Nat} {S : World → Prop}
def wpZ (P : Program) (md : Region.Mode) (ops : Array Oper) (Q : Exit → Act → World → Prop) (z : Nat) (S : World → Prop) : Nat → Array Bool → Act → World → Prop
 | 0, l, a, w => Region.ready md ops l = [] ∧ Q .normal a w
 | n + 1, l, a, w => (Region.ready md ops l = [] → Q .normal a w) ∧
  ∀ i ∈ Region.ready md ops l, wpOp P ops Q i (fun a' w' => ((l.setIfInBounds i true).getD z false = false → S w') ∧ wpZ P md ops Q z S n (l.setIfInBounds i true) a' w') a w
theorem wpZ_any : ∀ (n : Nat) (l : Array Bool) (a : Act) (w : World), wpZ P md ops Q z S n l a w → wpAny P md ops Q n l a w
 | 0, _, _, _, h => h
 | n + 1, _, _, _, h => ⟨h.1, fun i hi => wpOp_mono (fun a' w' k => wpZ_any n _ a' w' k.2) (h.2 i hi)⟩
theorem wpZ_first {i : Nat} {oi oz : Oper} {v : Value} (hi : ops[i]? = some oi) (hz : ops[z]? = some oz) (hzi : ∃ e ∈ oz.after, Region.binds md e = true ∧ e.on = i) (hne : i ≠ z)
 (hsel : ∀ (j : Nat) (o : Oper) cs b, ops[j]? = some o → o.op ≠ .select cs b) (hQ : ∀ c a w, Q (.panic c) (a.put oi.dst v) w → Q (.panic c) a w) :
 ∀ (n : Nat) (l : Array Bool) (a : Act) (w : World), l.getD z false = false →
  (∀ j oj, ops[j]? = some oj → j ≠ i → l.getD j true = false → (∀ e ∈ oj.after, Region.binds md e = true → e.on ≠ i) → oi.apart ops oj = true) →
  i ∈ Region.ready md ops l → YieldsIf P ops S oi v a → S w → wpZ P md ops Q z S n (l.setIfInBounds i true) (a.put oi.dst v) w → wpZ P md ops Q z S (n + 1) l a w
 | 0, l, a, w, hl, hf, hr, hy, hS, H => by
  refine ⟨fun h => (by rw [h] at hr; cases hr), fun j hj => ?_⟩
  by_cases hji : j = i
  · subst hji; exact hy.wpOp hi hS ⟨fun _ => hS, H⟩
  ·
   have := ready_mono hj hji
   rw [H.1] at this
   cases this
 | n + 1, l, a, w, hl, hf, hr, hy, hS, H => by
  refine ⟨fun h => (by rw [h] at hr; cases hr), fun j hj => ?_⟩
  by_cases hji : j = i
  · subst hji; exact hy.wpOp hi hS ⟨fun _ => hS, H⟩
  ·
   obtain ⟨hjun, oj, hoj, hall⟩ := mem_ready.1 hj
   have hnot : ∀ e ∈ oj.after, Region.binds md e = true → e.on ≠ i := fun e he hb heq => by
    have h1 := hall e he hb
    have h0 := (mem_ready.1 hr).1
    rw [heq] at h1
    rcases Nat.lt_or_ge i l.size with h' | h'
    · simp [h'] at h0 h1; rw [h0] at h1; cases h1
    · simp [Array.getElem?_eq_none h'] at h1
   have hjz : j ≠ z := fun e => by
    subst e
    rw [hoj] at hz
    injection hz with hz
    subst hz
    obtain ⟨e, he, hb, ho⟩ := hzi
    exact hnot e he hb ho
   have h2 := wpOp_putIf hoj (hf j oj hoj hji hjun hnot) (fun cs b => hsel i oi cs b hi) (fun cs b => hsel j oj cs b hoj) hQ hy (H.2 j (ready_mono hj hji))
   refine wpOp_mono (fun a' w' h3 => ?_) h2
   have hS' : S w' := h3.2.1 (by rw [getD_set_ne false hjz, getD_set_ne false hne]; exact hl)
   refine ⟨fun _ => hS', wpZ_first hi hz hzi hne hsel hQ n (l.setIfInBounds j true) a' w' (by rw [getD_set_ne false hjz]; exact hl) (fun k ok hk hki hun hno => ?_) (ready_mono hr (Ne.symm hji)) h3.1 hS' ?_⟩
   ·
    refine hf k ok hk hki ?_ hno
    by_cases hjk : j = k
    · subst hjk; exact hjun
    · rw [getD_set_ne true hjk] at hun; exact hun
   ·
    rw [Array.setIfInBounds_comm _ _ hji]
    exact h3.2.2
theorem wpZ_take {i : Nat} {oi oz : Oper} {v : Value} {n : Nat} {l : Array Bool} {a : Act} {w : World} (hi : ops[i]? = some oi) (hz : ops[z]? = some oz) (hzi : oz.after.any (fun e => Region.binds md e && e.on == i) = true) (hne : i ≠ z)
 (hs : Region.noSelect ops = true) (hf : Region.free md ops l i = true) (hr : (Region.ready md ops l).contains i = true) (hl : l.getD z false = false)
 (hQ : ∀ c a w, Q (.panic c) (a.put oi.dst v) w → Q (.panic c) a w) (hy : YieldsIf P ops S oi v a) (hS : S w)
 (h : wpZ P md ops Q z S n (l.setIfInBounds i true) (a.put oi.dst v) w) : wpZ P md ops Q z S (n + 1) l a w :=
 wpZ_first hi hz (by
  rw [Array.any_eq_true'] at hzi
  obtain ⟨e, he, h⟩ := hzi
  simp at h
  exact ⟨e, he, h.1, h.2⟩) hne (Region.noSelect_spec hs) hQ n l a w hl (Region.free_spec hi hf) (by simpa using hr) hy hS h
def AllZ (P : Program) (md : Region.Mode) (ops : Array Oper) (Q : Exit → Act → World → Prop) (z : Nat) (S : World → Prop) (n : Nat) (l : Array Bool) (a : Act) (w : World) (rs : List Nat) : Prop :=
 ∀ i ∈ rs, wpOp P ops Q i (fun a' w' => ((l.setIfInBounds i true).getD z false = false → S w') ∧ wpZ P md ops Q z S n (l.setIfInBounds i true) a' w') a w
theorem AllZ.nil {n : Nat} {l : Array Bool} {a : Act} {w : World} : AllZ P md ops Q z S n l a w [] := fun _ h => by cases h
theorem AllZ.cons {n : Nat} {l : Array Bool} {a : Act} {w : World} {i : Nat} {o : Oper} {rs : List Nat} (ho : ops[i]? = some o)
 (h : ∀ K' : Act → World → Prop, Shut (∀ a w, ((l.setIfInBounds i true).getD z false = false → S w) → (((l.setIfInBounds i true).getD z false = false → S w) → wpZ P md ops Q z S n (l.setIfInBounds i true) a w) → K' a w) → if Region.wanted o (yielded ops a.tmps) = true then Oper.wp P o a w K' Q else K' (a.put o.dst undef) w)
 (hs : AllZ P md ops Q z S n l a w rs) : AllZ P md ops Q z S n l a w (i :: rs) := fun j hj => by
 rcases List.mem_cons.1 hj with rfl | hj
 · exact wpOp_step ho (fun K' hK => h K' (fun a w hS hW => hK a w ⟨hS, hW hS⟩))
 · exact hs j hj
theorem wpZ_ready {rs : List Nat} {n : Nat} {l : Array Bool} {a : Act} {w : World} (hr : Region.ready md ops l = rs) (hne : rs ≠ []) (h : AllZ P md ops Q z S n l a w rs) : wpZ P md ops Q z S (n + 1) l a w :=
 ⟨fun h0 => absurd (hr ▸ h0) hne, hr ▸ h⟩
theorem wpZ_done {l : Array Bool} {a : Act} {w : World} (hr : Region.ready md ops l = []) (h : Q .normal a w) : ∀ n, wpZ P md ops Q z S n l a w
 | 0 => ⟨hr, h⟩
 | _ + 1 => ⟨fun _ => h, by rw [hr]; simp⟩
theorem wp_region_z {id : Nat} {a : Act} {w : World} (z : Nat) (S : World → Prop) (hm : P.follows .mixedOrders = true) (hS : S w.drew)
 (h : S w.drew → wpZ P .any ops Q z S ops.size (Array.replicate ops.size false) a w.drew) : (Code.region id ops true).wp P Q a w :=
 wp_region_any hm (wpZ_any _ _ _ _ (h hS))
end
def RowI (w : World) (base : Nat) (v : Value) (l : List Nat) : Prop := w.ownsRow base 33 1 v l.length (l.map fun x : Nat => Value.int .i64 (x : Int))
theorem RowI.reads {w : World} {base : Nat} {v : Value} {l : List Nat} (h : RowI w base v l) : ∃ A c, v = .slice A l.length c ∧ (l ≠ [] → ∃ b o, A = some ⟨b, o, none⟩ ∧ SRow w b o l) := by
 rcases h.2 with ⟨rfl, h0⟩ | ⟨g, cap, cur, rfl, hb, hh, hle, hm, hs, ht⟩
 ·
  obtain rfl : l = [] := List.eq_nil_of_length_eq_zero h0
  exact ⟨none, 0, rfl, fun k => absurd rfl k⟩
 ·
  refine ⟨_, _, rfl, fun _ => ⟨g, 0, rfl, (Array.getElem?_eq_some_iff.1 hh).1, fun i s hi => ?_⟩⟩
  have hl := (List.getElem?_eq_some_iff.1 hi).1
  have h1 : (cur.toList.take (l.length * 1))[i]? = (l.map fun x : Nat => Value.int .i64 (x : Int))[i]? := by rw [ht]
  rw [List.getElem?_take_of_lt (by omega), Array.getElem?_toList, List.getElem?_map, hi] at h1
  rw [cell_of_row w g (0 + i) cur 33 _ hh, Nat.zero_add]
  exact h1
theorem row_ne {w : World} {base e e2 s s2 n n2 : Nat} {v v2 : Value} {xs ys : List Value} (h : w.ownsRow base e s v n xs) (h2 : w.ownsRow base e2 s2 v2 n2 ys) (hne : e2 ≠ e) : v.ownBlock = none ∨ v.ownBlock ≠ v2.ownBlock := by
 rcases h.2 with ⟨rfl, _⟩ | ⟨g, cap, cur, rfl, _, hh, _⟩
 · exact .inl rfl
 · exact .inr (own_ne h2 hh hne)
theorem row_on {w w' : World} {base e s n : Nat} {v : Value} {xs : List Value} (h : w.ownsRow base e s v n xs) (hb : Below w.heap.size w w') : w'.ownsRow base e s v n xs :=
 h.kept (row := none) ⟨hb.os, hb.tape, hb.output, hb.size, fun k hk _ => hb.block k hk⟩ (by
  cases hv : v.ownBlock with
  | none => exact .inl rfl
  | some k => exact .inr (by simp))
theorem row_set {w : World} {base e s n : Nat} {v : Value} {xs : List Value} (h : w.ownsRow base e s v n xs) {g : Nat} {cs : Array Value} {t : TypeId} (hg : Blk w g t cs) (ht : e ≠ t) (i : Nat) (y : Value) : (w.setCell ⟨g, i, none⟩ y).ownsRow base e s v n xs :=
 h.kept (row := some g) ⟨rfl, rfl, rfl, by simp [World.setCell], fun a _ ha => Below.heap_setCell _ _ _ _ (fun e => ha (by rw [e]))⟩ (.inr (Ne.symm (own_ne h hg ht)))
structure St (W X : World) (B : Nat) (v u : Value) (a : List ByteArray) (b : List Nat) : Prop where
 bel : Below B W X
 rn : RowS X B v a
 rs : RowI X B u b
 le : B ≤ X.heap.size
theorem St.alloc {W X : World} {B : Nat} {v u : Value} {a : List ByteArray} {b : List Nat} (h : St W X B v u a b) (o : Obj) : St W (X.alloc o) B v u a b :=
 ⟨h.bel.alloc h.le _, h.rn.below ((Below.refl _ _).alloc (Nat.le_refl _) _), row_on h.rs ((Below.refl _ _).alloc (Nat.le_refl _) _), by have := h.le; simp; omega⟩
theorem St.drew {W X : World} {B : Nat} {v u : Value} {a : List ByteArray} {b : List Nat} (h : St W X B v u a b) : St W X.drew B v u a b :=
 ⟨h.bel.drew, h.rn.below (Below.refl _ _).drew, row_on h.rs (Below.refl _ _).drew, h.le⟩
theorem St.apN {ops : Array Oper} {o : Oper} {c : Act} {K : Act → World → Prop} {R : Exit → Act → World → Prop} {E0 : Prop} {W w : World} {B q : Nat} {v u : Value} {a : List ByteArray} {b : List Nat} {x : ByteArray}
 (h : St W w B v u a b) (hq : Blk w q 9 #[.string x]) (hn : a.length ≤ 10000) (hgd : o.guard = none) (s t : Operand) (ho : o.op = .call { callee := .builtin .append, args := #[s, t], argTypes := #[25, 25] })
 (hs : c.eval s = v) (ht : c.eval t = .slice (some ⟨q, 0, none⟩) 1 1)
 (k : ∀ v' w', St W w' B v' u (a ++ [x]) b → (∀ p r cs, 9 ≠ r → Blk w p r cs → Blk w' p r cs) → K (c.put o.dst v') w') :
 if Region.wanted o (yielded ops c.tmps) = true then Oper.wp Tryz.prog o c w K R else E0 := by
 refine app_strs hgd s t ho B v a [x] hs _ 1 1 ht h.rn rfl (one_src hq) (by omega) h.le ?_
 intro A d w' l' e _ h1 h2 h3
 subst e
 exact k _ w' ⟨h2 W h.bel, h1, h.rs.kept h3 (row_ne h.rs h.rn (by decide)), Nat.le_trans h.le h3.size⟩ (fun p r cs hr hp => (h3.block p hp.lt (own_ne h.rn hp hr)).trans hp)
theorem St.apI {ops : Array Oper} {o : Oper} {c : Act} {K : Act → World → Prop} {R : Exit → Act → World → Prop} {E0 : Prop} {W w : World} {B q : Nat} {v u : Value} {a : List ByteArray} {b : List Nat} {x : Nat}
 (h : St W w B v u a b) (hq : Blk w q 33 #[.int .i64 (x : Int)]) (hn : b.length ≤ 10000) (hgd : o.guard = none) (s t : Operand) (ho : o.op = .call { callee := .builtin .append, args := #[s, t], argTypes := #[34, 34] })
 (hs : c.eval s = u) (ht : c.eval t = .slice (some ⟨q, 0, none⟩) 1 1)
 (k : ∀ u' w', St W w' B v u' a (b ++ [x]) → (∀ p r cs, 33 ≠ r → Blk w p r cs → Blk w' p r cs) → K (c.put o.dst u') w') :
 if Region.wanted o (yielded ops c.tmps) = true then Oper.wp Tryz.prog o c w K R else E0 := by
 have hw : Region.wanted o (yielded ops c.tmps) = true := by simp [Region.wanted, hgd]
 rw [if_pos hw]
 obtain ⟨i0, hi, hz0, hz1, hz2⟩ := info_of infoSorts
 obtain ⟨v', w', hr, h2, h3, _, _⟩ := run_append_own_at (P := Tryz.prog) w B 34 o.type 33 i0 _ 1 8 Tryz.underlying34 hi hz0 hz1 hz2 rfl (by decide) u b.length _ h.rs ⟨q, 0, none⟩ 1 1 [.int .i64 (x : Int)] (by simp) (by
  intro j y hy
  rcases j with _ | j
  · injection hy with hy; subst hy; exact hq.cell 0
  · simp at hy) (by intro y hy; simp at hy; subst hy; rfl) (by unfold maxLen; omega) (by omega) h.le
 unfold Oper.wp execOp
 simp only [ho, resolve, invoke, builtin, Sem.run_bind, Sem.run_pure, Result.andThen_ok, List.map_toArray, List.map_cons, List.map_nil, hs, ht, hr]
 exact k _ w' ⟨h.bel.grown h3 h.le (fun p hp => (h.rs.lt p hp).1), h.rn.kept h3 (row_ne h.rn h.rs (by decide)), by unfold RowI; rw [List.length_append, List.map_append]; exact h2, Nat.le_trans h.le h3.size⟩ (fun p r cs hr hp => (h3.block p hp.lt (own_ne h.rs hp hr)).trans hp)
theorem St.set {W X : World} {B E : Nat} {v u : Value} {a : List ByteArray} {b : List Nat} {cs : Array Value} (h : St W X B v u a b) (hE : Blk X E 36 cs) (i : Nat) (y : Value) : RowS (X.setCell ⟨E, i, none⟩ y) B v a ∧ RowI (X.setCell ⟨E, i, none⟩ y) B u b :=
 ⟨row_set h.rn hE (by decide) i y, row_set h.rs hE (by decide) i y⟩
open Tk Ex
theorem chks_err {n : En} {c : Int} : ∀ {l : List E}, chks n l = .inr c → ∃ x ∈ l, (chk n x).2 = c
 | [], h => by rw [chks] at h; cases h
 | y :: l, h => by
  rw [chks_cons] at h
  split at h
  ·
   cases hl : chks n l with
   | inl vs => rw [hl] at h; cases h
   | inr d =>
    rw [hl] at h
    injection h with h
    subst h
    obtain ⟨x, hx, he⟩ := chks_err hl
    exact ⟨x, List.mem_cons_of_mem _ hx, he⟩
  ·
   injection h with h
   exact ⟨y, List.mem_cons_self, h⟩
theorem chks_all {n : En} {vs : List Nat} : ∀ {l : List E}, chks n l = .inl vs → ∀ x ∈ l, (chk n x).2 = 0
 | [], _, x, hx => by cases hx
 | y :: l, h, x, hx => by
  rw [chks_cons] at h
  split at h
  ·
   rename_i hy
   cases hl : chks n l with
   | inr d => rw [hl] at h; cases h
   | inl ws =>
    rcases List.mem_cons.1 hx with rfl | hx
    · exact hy
    · exact chks_all (vs := ws) hl x hx
  · cases h
theorem chk_none {n : En} : ∀ e : E, (chk n e).2 = 13 → ∃ m, Has m e ∧ findS n.names n.sorts m = none := by
 refine E.ind ?_
 intro e ih h
 rw [chk_eq] at h
 cases hc : chks n e.args with
 | inr c =>
  rw [hc] at h
  have h0 : c = 13 := h
  subst h0
  obtain ⟨x, hx, he⟩ := chks_err hc
  obtain ⟨m, hm, hf⟩ := ih x hx he
  exact ⟨m, .arg e x hx hm, hf⟩
 | inl vs =>
  rw [hc] at h
  dsimp only at h
  by_cases k1 : eqb e.op litB = true
  · rw [if_pos k1] at h; exact absurd (show (0 : Int) = 13 from h) (by decide)
  rw [if_neg k1] at h
  by_cases k2 : eqb e.op thisB = true
  · rw [if_pos k2] at h; exact absurd (show (0 : Int) = 13 from h) (by decide)
  rw [if_neg k2] at h
  by_cases k3 : eqb e.op varB = true
  ·
   rw [if_pos k3] at h
   cases hf : findS n.names n.sorts e.name with
   | some s => rw [hf] at h; exact absurd (show (0 : Int) = 13 from h) (by decide)
   | none => exact ⟨e.name, .here e k3 rfl, hf⟩
  rw [if_neg k3] at h
  by_cases k4 : doneB e.op vs = true
  · rw [if_pos k4] at h; exact absurd (show (0 : Int) = 13 from h) (by decide)
  · rw [if_neg k4] at h; exact absurd h (by decide)
theorem lit_var {o : ByteArray} (h : eqb o varB = true) : eqb o litB = false ∧ eqb o thisB = false := by
 have e := eqb_yes h
 subst e
 exact ⟨by decide, by decide⟩
theorem chk_has {n : En} {m : ByteArray} : ∀ e : E, (chk n e).2 = 0 → Has m e → findS n.names n.sorts m ≠ none := by
 refine E.ind ?_
 intro e ih h hm
 rw [chk_eq] at h
 cases hc : chks n e.args with
 | inr c =>
  rw [hc] at h
  have h0 : c = 0 := h
  subst h0
  exact absurd hc (chks_ne n e.args)
 | inl vs =>
  rw [hc] at h
  dsimp only at h
  cases hm with
  | arg _ x h1 h2 => exact ih x h1 (chks_all hc x h1) h2
  | here _ h1 h2 =>
   obtain ⟨k1, k2⟩ := lit_var h1
   rw [if_neg (by rw [k1]; decide), if_neg (by rw [k2]; decide), if_pos h1] at h
   subst h2
   intro hf
   rw [hf] at h
   exact absurd h (by decide)
end Go.Proofs.YtfbipnflgjhaiaaGreatDoor
