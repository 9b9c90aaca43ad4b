/- slices.Backward over a row of isos. Regions that draw, in a round of a loop over a function. Isos: from where they lead through leaves. Isos: the fixed fact. -/
import Derived.RangeFuncNested
import Derived.RangeFuncBound
import Derived.RangeFuncCalls
import Derived.RangeFuncLeaves
import Derived.RangeFuncBox
import Derived.Shelf.Abstract
import Derived.WalkKit
import Derived.OwnWalkIn
import Derived.TacticsInMore
import Derived.LoopNIn
import Derived.LoopIn
import Derived.Test.YtfiahpeajccinaaGreatDoorPH
import Derived.OrdersIn
import Derived.Deep.RegionHeld3
import Derived.Test.YtfiahpeajccinaaGreatDoorPB
import Derived.Test.YtfiahpeajccinaaGreatDoorPG
import Derived.Test.YtfiahpeajccinaaGreatDoorPF
namespace Go.Proofs.YtfiahpeajccinaaGreatDoor
open Go.RowKit
open Tk Ex
set_option linter.unusedVariables false
set_option linter.unusedSimpArgs false
attribute [local go_sem] Oper.semAt_some

def isoD : Iz.Iso := ⟨nix, 0, nix⟩
/-- what comes when k rounds are over, from the end on -/
def bkF (l : List Iz.Iso) (j : Nat) : Nat × Iz.Iso := (l.length - 1 - j, l.getD (l.length - 1 - j) isoD)
def bk (l : List Iz.Iso) (k : Nat) : List (Nat × Iz.Iso) := (List.range k).map (bkF l)
theorem bk_succ (l : List Iz.Iso) (k : Nat) : bk l (k + 1) = bk l k ++ [bkF l k] := by simp [bk, List.range_succ]
theorem bk_len (l : List Iz.Iso) (k : Nat) : (bk l k).length = k := by simp [bk]
/-- an iso of a row, and its place -/
abbrev Of_ (l : List Iz.Iso) := { p : Nat × Iz.Iso // p.2 ∈ l }
def vals {l : List Iz.Iso} (xs : List (Of_ l)) : List (Nat × Iz.Iso) := xs.map (·.1)
theorem vals_snoc {l : List Iz.Iso} (xs : List (Of_ l)) (x : Of_ l) : vals (xs ++ [x]) = vals xs ++ [x.1] := by simp [vals]
theorem vals_len {l : List Iz.Iso} (xs : List (Of_ l)) : (vals xs).length = xs.length := by simp [vals]
def encB {l : List Iz.Iso} (x : Of_ l) : Array Value := #[.int .i64 (x.1.1 : Nat), .agg #[.string x.1.2.name, .int .i64 x.1.2.n, .string x.1.2.key]]
/-- what a round keeps: what lay below n₀, and a block -/
def KpB (n₀ Bs : Nat) (A B : World) : Prop := Below n₀ A B ∧ B.heap[Bs]? = A.heap[Bs]?
theorem KpB.refl (n₀ Bs : Nat) (A : World) : KpB n₀ Bs A A := ⟨Below.refl _ _, rfl⟩
theorem KpB.trans {n₀ Bs : Nat} {A B C : World} (h : KpB n₀ Bs A B) (k : KpB n₀ Bs B C) : KpB n₀ Bs A C := ⟨h.1.trans k.1, k.2.trans h.2⟩
theorem KpB.put {n₀ Bs : Nat} {w : World} (hn : n₀ ≤ w.heap.size) (hB : Bs < w.heap.size) (W : World) (l : Nat) (o o' : Obj) (hl : w.heap.size ≤ l) (h : W.heap[l]? = some o) (h1 : o.isCells = false) (h2 : o.isWalk = false) : KpB n₀ Bs W (W.putObj l o') := by
  refine ⟨belowK_b hn W l o o' hl h h1 h2, ?_⟩
  have := (grownBy_putObj' W l o').block Bs (by have := (Array.getElem?_eq_some_iff.1 h).1; omega) (by intro e; injection e with e; omega)
  exact this
theorem getD_mem {l : List Iz.Iso} {j : Nat} (h : j < l.length) : l.getD j isoD ∈ l := by
  rw [List.getD_eq_getElem?_getD, List.getElem?_eq_getElem h]
  exact List.getElem_mem h
set_option maxRecDepth 100000 in
set_option maxHeartbeats 4000000 in
theorem backward1_in (n : Nat) (hn : 1 ≤ n) (r Bs n₀ g o c : Nat) (l : List Iz.Iso) (hll : l.length ≤ 1000) (hlc : l.length ≤ c) (hg : g < n₀) (J Jx : List (Of_ l) → World → Prop)
    (hY : ∀ pre x W, J pre W → pre.length < l.length → YieldAt Fence.wide (n - 1) Tryz.prog r (encB x) W fun e W' =>
      (e = .returned (.bool true) ∧ J (pre ++ [x]) W' ∧ KpB n₀ Bs W W') ∨ (e = .returned (.bool false) ∧ Jx (pre ++ [x]) W'))
    (W : World) (hBs : Blk W Bs 33 #[.slice (some ⟨g, o, none⟩) l.length c])
    (hc : ∀ (k : Nat) (x : Iz.Iso), l[k]? = some x → W.cell? ⟨g, o + k * 3, none⟩ = some (.string x.name) ∧ W.cell? ⟨g, o + k * 3 + 1, none⟩ = some (.int .i64 x.n) ∧ W.cell? ⟨g, o + k * 3 + 2, none⟩ = some (.string x.key)) (h0 : J [] W) :
    CallsIn Fence.wide n Tryz.prog 73 #[.func (.yield r) #[] #[], .pointer (some ⟨Bs, 0, none⟩)] W fun e W' => (∃ v, e = .returned v) ∧
      ((∃ ys, vals ys = bk l l.length ∧ J ys W') ∨ (∃ pre, (∃ k, k ≤ l.length ∧ vals pre = bk l k) ∧ Jx pre W')) := by
  have HC := Lib.hid hc
  clear hc
  refine callsIn_of_wp Tryz.func73 rfl trivial ?_ rfl
  simp only [Tryz.ntmps73, List.size_toArray, List.length_cons, List.length_nil, Nat.reduceAdd, Nat.reduceSub, Array.replicate_succ, Array.replicate_zero, List.push_toArray, List.append_toArray, List.nil_append, List.cons_append]
  have cB := hBs.cell 0
  gi_wp2
  gi_loopw [3] (fun i wr => ∃ (k m : Nat) (pre : List (Of_ l)), k + m = l.length ∧ i = .int .i64 ((m : Int) - 1) ∧ vals pre = bk l k ∧ J pre wr ∧ KpB n₀ Bs W wr)
    (fun i _ => (intOf i + 1).toNat)
  case atStart => exact ⟨0, l.length, [], by omega, by go_num, rfl, h0, KpB.refl _ _ _⟩
  case round =>
    obtain ⟨k, m, pre, hkm, rfl, hpre, hJs, hnx⟩ := hrel
    have cB' : wr.cell? ⟨Bs, 0, none⟩ = some (.slice (some ⟨g, o, none⟩) l.length c) := (show Blk wr Bs _ _ from hnx.2.trans hBs).cell 0
    cases m with
    | zero =>
      have e1 : (((0 : Nat) : Int) - 1) = -1 := by omega
      rw [e1]
      gi_wp2
      go_end0
      obtain rfl : k = l.length := by omega
      exact ⟨⟨_, rfl⟩, .inl ⟨pre, hpre, hJs⟩⟩
    | succ q =>
      have e1 : (((q + 1 : Nat) : Int) - 1) = (q : Int) := by omega
      rw [e1]
      have hq : q < l.length := by omega
      obtain ⟨x, hx⟩ : ∃ x, l[q]? = some x := ⟨_, List.getElem?_eq_getElem hq⟩
      have hxm : x ∈ l := List.mem_of_getElem? hx
      have hbf : bkF l k = (q, x) := by
        unfold bkF
        rw [show l.length - 1 - k = q by omega, List.getD_eq_getElem?_getD, hx]
        rfl
      obtain ⟨fn, tmps, assign, body, hy, hR⟩ := hY pre ⟨(q, x), hxm⟩ wr hJs (by rw [← vals_len, hpre, bk_len]; omega)
      have h3 := HC.out q x hx
      have x0 := (hnx.1.cell (p := ⟨g, o + q * 3, none⟩) hg).trans h3.1
      have x1 := (hnx.1.cell (p := ⟨g, o + q * 3 + 1, none⟩) hg).trans h3.2.1
      have x2 := (hnx.1.cell (p := ⟨g, o + q * 3 + 2, none⟩) hg).trans h3.2.2
      unfold encB at hy
      dsimp only at hy
      have i1 : (q : Int) < (l.length : Int) := by omega
      have i2 : (0 : Int) ≤ (q : Int) := by omega
      have u1 : decide ((q : Int) ≥ 0) = true := decide_eq_true (by omega)
      clear h3
      gi_wp2
      refine hR.mono ?_
      rintro e W3 (⟨rfl, hJ3, hk3⟩ | ⟨rfl, hJx3⟩)
      · gi_wp2
        go_roundw
        case rel => exact ⟨k + 1, q, _, by omega, by go_num, by rw [vals_snoc, hpre, bk_succ, hbf], hJ3, hnx.trans hk3⟩
        case measure => simp [intOf]
      · gi_wp2
        refine bodyPost_ret (results_none rfl _ _ _) rfl ?_
        exact ⟨⟨_, rfl⟩, .inr ⟨_, ⟨k + 1, by omega, by rw [vals_snoc, hpre, bk_succ, hbf]⟩, hJx3⟩⟩
set_option maxRecDepth 100000 in
set_option maxHeartbeats 1000000 in
theorem backward_in (n : Nat) (a : Option Addr) (len cap : Nat) (w : World) :
    CallsIn Fence.wide n Tryz.prog 36 #[.slice a len cap] w fun e w' => e = .returned (.func (.func 73) #[] #[.pointer (some ⟨w.heap.size, 0, none⟩)]) ∧ w' = w.alloc (.cells #[.slice a len cap] 33) := by
  refine callsIn_of_wp Tryz.func36 rfl trivial ?_ rfl
  simp only [Tryz.ntmps36, List.size_toArray, List.length_cons, List.length_nil, Nat.reduceAdd, Nat.reduceSub, Array.replicate_succ, Array.replicate_zero, List.push_toArray, List.append_toArray, List.nil_append, List.cons_append]
  gi_wp2
  go_ret
  exact ⟨rfl, rfl⟩
theorem backward_stops (n : Nat) (hn : 1 ≤ n) (Bs n₀ g o c : Nat) (l : List Iz.Iso) (hll : l.length ≤ 1000) (hlc : l.length ≤ c) (hg : g < n₀) (w : World) (hn₀ : n₀ ≤ w.heap.size)
    (hBs : Blk w Bs 33 #[.slice (some ⟨g, o, none⟩) l.length c])
    (hc : ∀ (k : Nat) (x : Iz.Iso), l[k]? = some x → w.cell? ⟨g, o + k * 3, none⟩ = some (.string x.name) ∧ w.cell? ⟨g, o + k * 3 + 1, none⟩ = some (.int .i64 x.n) ∧ w.cell? ⟨g, o + k * 3 + 2, none⟩ = some (.string x.key)) :
    SeqStopsK Fence.wide n Tryz.prog 73 #[.pointer (some ⟨Bs, 0, none⟩)] (encB (l := l)) (KpB n₀ Bs) (fun ys => vals ys = bk l l.length) (fun pre => ∃ k, k ≤ l.length ∧ vals pre = bk l k) l.length w := fun r J Jx W hW _ _ hY h0 =>
  backward1_in n hn r Bs n₀ g o c l hll hlc hg J Jx hY W (hBs.onto hW) (fun k x hx => by
    have h := hc k x hx
    have hlt : g < w.heap.size := Nat.lt_of_lt_of_le hg hn₀
    exact ⟨(hW.cell (p := ⟨g, o + k * 3, none⟩) hlt).trans h.1, (hW.cell (p := ⟨g, o + k * 3 + 1, none⟩) hlt).trans h.2.1, (hW.cell (p := ⟨g, o + k * 3 + 2, none⟩) hlt).trans h.2.2⟩) h0
end Go.Proofs.YtfiahpeajccinaaGreatDoor
namespace Go.Proofs.YtfiahpeajccinaaGreatDoor
open Go.RowKit
set_option linter.unusedVariables false

/-- no operation defers -/
def noDef (ops : Array Oper) : Bool := ops.all fun o => match o.op with
  | .defer _ => false
  | _ => true
theorem noDef_spec {ops : Array Oper} (h : noDef ops = true) {i : Nat} {o : Oper} (ho : ops[i]? = some o) : ∀ c, o.op ≠ .defer c := by
  intro c hc
  obtain ⟨hi, rfl⟩ := Array.getElem?_eq_some_iff.1 ho
  have := Array.all_eq_true.1 h i hi
  rw [hc] at this
  cases this
theorem oper_in {l n : Nat} {P : Program} {o : Oper} {a : Act} {w : World} {K : Act → World → Prop} {Q : Exit → Act → World → Prop} (hs : ∀ c, o.op ≠ .defer c) (h : o.wp P a w K Q) : o.wpIn (Fence.wide.inRound l) n P a w K Q := by
  unfold Oper.wpIn
  refine ⟨fun _ _ => trivial, ?_⟩
  rw [Oper.semAt_eq _ _ _ hs]
  unfold Oper.wp at h
  generalize (execOp a.eval o).run P w = r at *
  have hd : (Fence.wide.inRound l).depth.isSome = true → 1 ≤ n := fun hh => by simp [Fence.wide] at hh
  cases r with
  | ok x w' =>
    cases x <;> simp only [Oper.upon, Oper.uponIn] at h ⊢
    all_goals first
      | exact h
      | exact h.elim
      | exact ⟨hd, CallsIn.mono (CallsIn.inRound l (callsIn_wide.2 h)) (fun e w'' he => by cases e <;> exact he)⟩
      | exact ⟨hd, fun c cs _ => let ⟨v, w2, r, s⟩ := h c cs; ⟨v, w2, r, stepsIn_wide.2 s⟩⟩
  | halt x w' => cases x <;> simp only [Oper.upon, Oper.uponIn] at h ⊢ <;> exact h
/-- what holds where a region is left -/
def nrmQ (Q : Exit → Act → World → Prop) : Exit → Act → World → Prop
  | .normal, a, w => Q .normal a w
  | _, _, _ => False
theorem anyIn_of_any {l n : Nat} {P : Program} {md : Region.Mode} {ops : Array Oper} {Q : Exit → Act → World → Prop} (hd : noDef ops = true) :
    ∀ (fuel : Nat) (listed : Array Bool) (a : Act) (w : World), wpAny P md ops (nrmQ Q) fuel listed a w → wpAnyIn (Fence.wide.inRound l) n P md ops (nrmQ Q) fuel listed a w := by
  intro fuel
  induction fuel with
  | zero => intro listed a w h; exact h
  | succ fuel ih =>
    intro listed a w h
    refine ⟨h.1, fun i hi => ?_⟩
    have h1 := h.2 i hi
    unfold wpOp at h1
    unfold wpOpIn
    cases ho : ops[i]? with
    | none => rw [ho] at h1; exact ih _ _ _ h1
    | some o =>
      rw [ho] at h1
      dsimp only at h1 ⊢
      split
      · rename_i hw
        rw [if_pos hw] at h1
        rcases h1 with h1 | ⟨_, a0, w0, h2⟩
        · exact oper_in (noDef_spec hd ho) (Oper.wp_mono (fun a w => ih _ a w) h1)
        · exact h2.elim
      · rename_i hw
        rw [if_neg hw] at h1
        exact ⟨fun _ _ => trivial, ih _ _ _ h1⟩
theorem wpIn_region_held_round {l n : Nat} {P : Program} {ops : Array Oper} {Q : Exit → Act → World → Prop} {S : World → Prop} {id : Nat} {a : Act} {w : World} (hd : noDef ops = true) (hm : P.follows .mixedOrders = true) (hS : S w.drew)
    (h : S w.drew → wpAnyH P .any ops (nrmQ Q) S ops.size (Array.replicate ops.size false) a w.drew) : (Code.region id ops true).wpIn (Fence.wide.inRound l) n P Q a w := by
  refine wpIn_mono (wpIn_region_any hm (anyIn_of_any hd _ _ _ _ (wpAny_of_held _ _ _ _ (h hS)))) ?_
  intro e a w hq
  cases e <;> first | exact hq | exact hq.elim
end Go.Proofs.YtfiahpeajccinaaGreatDoor
namespace Go.Proofs.YtfiahpeajccinaaGreatDoor
open Go.RowKit
open Tk Ex
set_option linter.unusedVariables false
set_option linter.unusedSimpArgs false
attribute [local go_sem] Oper.semAt_some

theorem blk_keep {X Y : World} {B : Nat} {t : TypeId} {cs : Array Value} {row : Option Nat} (h : Blk X B t cs) (hg : X.grownBy Y row) (hr : ∀ r, row = some r → ∃ o : Obj, X.heap[r]? = some o ∧ o.isCells = false) : Blk Y B t cs :=
  (hg.block B h.lt (fun e => by obtain ⟨o, ho, hc⟩ := hr B e.symm; rw [show X.heap[B]? = _ from h] at ho; cases ho; cases hc)).trans h
theorem kf_below {B : Nat} {A C : World} (h : Below A.heap.size A C) : KeepsFrom B A C := ⟨h.size, fun k o _ hk _ => (h.block k (Array.getElem?_eq_some_iff.1 hk).1).trans hk⟩
theorem kf_put6 (B : Nat) (w : World) (b : Nat) (v0 v1 v2 v3 v4 v5 : Value) : KeepsFrom B w ((((((w.setCell ⟨b, 0, none⟩ v0).setCell ⟨b, 1, none⟩ v1).setCell ⟨b, 2, none⟩ v2).setCell ⟨b, 3, none⟩ v3).setCell ⟨b, 4, none⟩ v4).setCell ⟨b, 5, none⟩ v5) :=
  ((((((KeepsOthers.setCell _ _ _).trans (KeepsOthers.setCell _ _ _)).trans (KeepsOthers.setCell _ _ _)).trans (KeepsOthers.setCell _ _ _)).trans (KeepsOthers.setCell _ _ _)).trans (KeepsOthers.setCell _ _ _)).from B
theorem nrm_n (Q : Exit → Act → World → Prop) (a : Act) (w : World) : nrmQ Q .normal a w = Q .normal a w := rfl
theorem alloc4 (w : World) (a b c d : Array Value) (t u v x : TypeId) :
    let W := (((w.alloc (.cells a t)).alloc (.cells b u)).alloc (.cells c v)).alloc (.cells d x)
    Below w.heap.size w W ∧ Blk W w.heap.size t a ∧ Blk W (w.heap.size + 1) u b ∧ Blk W (w.heap.size + 1 + 1) v c ∧ Blk W (w.heap.size + 1 + 1 + 1) x d ∧ W.heap.size = w.heap.size + 1 + 1 + 1 + 1 := by
  have h1 : (w.alloc (.cells a t)).heap.size = w.heap.size + 1 := by simp
  have h2 : ((w.alloc (.cells a t)).alloc (.cells b u)).heap.size = w.heap.size + 1 + 1 := by simp
  have h3 : (((w.alloc (.cells a t)).alloc (.cells b u)).alloc (.cells c v)).heap.size = w.heap.size + 1 + 1 + 1 := by simp
  have b1 := Blk.new (w.alloc (.cells a t)) u b
  have b2 := Blk.new ((w.alloc (.cells a t)).alloc (.cells b u)) v c
  have b3 := Blk.new (((w.alloc (.cells a t)).alloc (.cells b u)).alloc (.cells c v)) x d
  rw [h1] at b1
  rw [h2] at b2
  rw [h3] at b3
  exact ⟨((((Below.refl _ w).alloc (Nat.le_refl _) _).alloc (by simp) _).alloc (by simp; omega) _).alloc (by simp; omega) _, (((Blk.new w _ _).alloc _).alloc _).alloc _, (b1.alloc _).alloc _, b2.alloc _, b3, by simp⟩
/-- where isos lead back: (value, code) by each -/
def foldB (st : Iz.Iso → Lf → Lf × Int) : List (Nat × Iz.Iso) → Lf → Option Lf
  | [], v => some v
  | p :: r, v => if (st p.2 v).2 = 0 then foldB st r (st p.2 v).1 else none
theorem foldB_snoc (st : Iz.Iso → Lf → Lf × Int) : ∀ (l : List (Nat × Iz.Iso)) (p : Nat × Iz.Iso) (v : Lf), foldB st (l ++ [p]) v = (foldB st l v).bind (fun y => if (st p.2 y).2 = 0 then some (st p.2 y).1 else none)
  | [], p, v => by simp [foldB]
  | q :: r, p, v => by
    rw [List.cons_append, foldB, foldB]
    split
    · exact foldB_snoc st r p _
    · rfl
theorem foldB_none (st : Iz.Iso → Lf → Lf × Int) : ∀ (l m : List (Nat × Iz.Iso)) (v : Lf), foldB st l v = none → foldB st (l ++ m) v = none
  | [], m, v, h => by simp [foldB] at h
  | q :: r, m, v, h => by
    rw [foldB] at h
    rw [List.cons_append, foldB]
    split
    · rename_i h1
      rw [if_pos h1] at h
      exact foldB_none st r m _ h
    · rfl
/-- what Return answers -/
def RetGives (r : Option Lf) (e : Ending) : Prop := match r with
  | some v => e = .returned (.tuple #[lfV v, .int .i64 0])
  | none => e = .returned (.tuple #[.agg #[.int .i64 0, .bool false, .int .i64 0, .string ⟨#[]⟩, .slice none 0 0, .slice none 0 0], .int .i64 12])
theorem bk_pre (l : List Iz.Iso) {k : Nat} (hk : k ≤ l.length) : ∃ m, bk l l.length = bk l k ++ m := by
  obtain ⟨d, hd⟩ : ∃ d, l.length = k + d := ⟨l.length - k, by omega⟩
  refine ⟨(List.range d).map (fun j => bkF l (k + j)), ?_⟩
  unfold bk
  rw [hd, List.range_add, List.map_append, List.map_map]
  rfl
set_option maxRecDepth 100000 in
set_option maxHeartbeats 8000000 in
theorem return_lf (l : List Iz.Iso) (g o c : Nat) (sf : Iz.Iso → Lf → Lf × Int) (Rc : Lf → Prop) (v0 : Lf) (w : World) (hg : g < w.heap.size) (hl : l.length ≤ 1000) (hlc : l.length ≤ c)
    (hc : ∀ (k : Nat) (x : Iz.Iso), l[k]? = some x → w.cell? ⟨g, o + k * 3, none⟩ = some (.string x.name) ∧ w.cell? ⟨g, o + k * 3 + 1, none⟩ = some (.int .i64 x.n) ∧ w.cell? ⟨g, o + k * 3 + 2, none⟩ = some (.string x.key)) (h0 : Rc v0)
    (hen : ∀ x ∈ l, ∀ args w1, (callFunc (backN (kindN x.name)) args).run Tryz.prog w1 = .ok (.enter (backN (kindN x.name)) args) w1)
    (hrc : ∀ x ∈ l, ∀ v, Rc v → (sf x v).2 = 0 → Rc (sf x v).1)
    (hway : ∀ x ∈ l, ∀ v, Rc v → ∀ w1, Below w.heap.size w w1 → Calls Tryz.prog (backN (kindN x.name)) #[.agg #[.string x.name, .int .i64 x.n, .string x.key], lfV v] w1 fun e w' => e = .returned (.tuple #[lfV (sf x v).1, .int .i64 (sf x v).2]) ∧ Below w1.heap.size w1 w') :
    Calls Tryz.prog 19 #[.slice (some ⟨g, o, none⟩) l.length c, lfV v0] w fun e w' => RetGives (foldB sf (bk l l.length) v0) e ∧ Below w.heap.size w w' := by
  have HC := Lib.hid hc
  have HEN := Lib.hid hen
  have HWY := Lib.hid hway
  have HRC := Lib.hid hrc
  have H0 := Lib.hid h0
  clear hc hen hway hrc h0
  obtain ⟨⟨kd0, tr0, nu0, st0⟩, hv0⟩ : ∃ y, v0 = y := ⟨_, rfl⟩
  have HV0 := Lib.hid hv0
  rw [show lfV v0 = .agg #[.int .i64 kd0, .bool tr0, .int .i64 nu0, .string st0, .slice none 0 0, .slice none 0 0] from by rw [hv0]; rfl]
  clear hv0
  refine (callsIn_wide (n := 6)).1 ?_
  refine callsIn_of_wp_marks Tryz.func19 rfl trivial ?_ rfl
  simp only [Tryz.ntmps19, List.size_toArray, List.length_cons, List.length_nil, Nat.reduceAdd, Nat.reduceSub, Array.replicate_succ, Array.replicate_zero, List.push_toArray, List.append_toArray, List.nil_append, List.cons_append]
  gi_wp2
  refine ⟨trivial, ?_⟩
  refine (backward_in _ _ _ _ _).mono ?_
  rintro e w' ⟨rfl, rfl⟩
  gi_wp2
  obtain ⟨W0, hW0⟩ : ∃ W0, (((w.alloc (.cells #[.int .i64 kd0, .bool tr0, .int .i64 nu0, .string st0, .slice none 0 0, .slice none 0 0] 52)).alloc (.cells #[.int .i64 0, .bool false, .int .i64 0, .string ⟨#[]⟩, .slice none 0 0, .slice none 0 0] 52)).alloc (.cells #[.int .i64 0] 34)).alloc (.cells #[.slice (some ⟨g, o, none⟩) l.length c] 33) = W0 := ⟨_, rfl⟩
  have h4 := alloc4 w #[.int .i64 kd0, .bool tr0, .int .i64 nu0, .string st0, .slice none 0 0, .slice none 0 0] #[.int .i64 0, .bool false, .int .i64 0, .string ⟨#[]⟩, .slice none 0 0, .slice none 0 0] #[.int .i64 0] #[.slice (some ⟨g, o, none⟩) l.length c] 52 52 34 33
  dsimp only at h4
  rw [hW0] at h4 ⊢
  obtain ⟨hB, hB3, hB4, hB5, hBs, hsz⟩ := h4
  clear hW0
  have HBs0 := Lib.hid hBs
  refine wpIn_rangeFunc_ownH (n := 6) rfl (by omega) (gf := 73) (lb := #[.pointer (some ⟨w.heap.size + 1 + 1 + 1, 0, none⟩)]) rfl trivial (Go.Proofs.enters_of Tryz.func73 (by kernel_rfl) rfl)
    (backward_stops (6 - 1) (by omega) (w.heap.size + 1 + 1 + 1) w.heap.size g o c l hl hlc hg W0 (by omega) hBs (fun k x hx => by
      have h := HC.out k x hx
      exact ⟨(hB.cell (p := ⟨g, o + k * 3, none⟩) hg).trans h.1, (hB.cell (p := ⟨g, o + k * 3 + 1, none⟩) hg).trans h.2.1, (hB.cell (p := ⟨g, o + k * 3 + 2, none⟩) hg).trans h.2.2⟩))
    (fun h k => KpB.trans h k) (fun W l o o' => KpB.put (by omega) (by omega) W l o o') (Below.refl _ _) (fun _ => rfl)
    (fun pre W => (∃ v, foldB sf (vals pre) v0 = some v ∧ Rc v ∧ Blk W w.heap.size 52 (lfC v)) ∧ Blk W (w.heap.size + 1) 52 #[.int .i64 0, .bool false, .int .i64 0, .string ⟨#[]⟩, .slice none 0 0, .slice none 0 0] ∧ Blk W (w.heap.size + 1 + 1) 34 #[.int .i64 0] ∧ Blk W (w.heap.size + 1 + 1 + 1) 33 #[.slice (some ⟨g, o, none⟩) l.length c] ∧ Below w.heap.size w W)
    (fun c pre W => (c = .ret ∧ foldB sf (vals pre) v0 = none) ∧ Blk W (w.heap.size + 1) 52 #[.int .i64 0, .bool false, .int .i64 0, .string ⟨#[]⟩, .slice none 0 0, .slice none 0 0] ∧ Blk W (w.heap.size + 1 + 1) 34 #[.int .i64 12] ∧ Below w.heap.size w W)
    (fun s X Y row hs hgr hr => by
      obtain ⟨⟨v, h1, h2, h3⟩, h4, h5, h6, h7⟩ := hs
      have hr' := fun r e => (hr r e).2
      exact ⟨⟨v, h1, h2, blk_keep h3 hgr hr'⟩, blk_keep h4 hgr hr', blk_keep h5 hgr hr', blk_keep h6 hgr hr', ownFrom_below (β := Unit) (Nat.le_refl _) (show w.heap.size ≤ W0.heap.size by omega) () X Y row h7 hgr hr⟩)
    (fun c s X Y row hs hgr hr => by
      obtain ⟨h1, h4, h5, h7⟩ := hs
      have hr' := fun r e => (hr r e).2
      exact ⟨h1, blk_keep h4 hgr hr', blk_keep h5 hgr hr', ownFrom_below (β := Unit) (Nat.le_refl _) (show w.heap.size ≤ W0.heap.size by omega) () X Y row h7 hgr hr⟩)
    ⟨⟨v0, rfl, H0.out, by rw [HV0.out]; exact hB3⟩, hB4, hB5, hBs, hB⟩
    (fun x a' W => ∃ G, w.heap.size + 1 + 1 + 1 < G ∧ Blk W G 30 #[.string x.1.2.name, .int .i64 x.1.2.n, .string x.1.2.key] ∧ a' = { tmps := #[.slice (some ⟨g, o, none⟩) l.length c, .agg #[.int .i64 kd0, .bool tr0, .int .i64 nu0, .string st0, .slice none 0 0, .slice none 0 0], undef, .pointer (some ⟨w.heap.size, 0, none⟩), .pointer (some ⟨w.heap.size + 1, 0, none⟩), .pointer (some ⟨w.heap.size + 1 + 1, 0, none⟩), undef, .pointer (some ⟨G, 0, none⟩), undef, undef, .slice (some ⟨g, o, none⟩) l.length c, .func (.func 73) #[] #[.pointer (some ⟨w.heap.size + 1 + 1 + 1, 0, none⟩)], .int .i64 (x.1.1 : Nat), .agg #[.string x.1.2.name, .int .i64 x.1.2.n, .string x.1.2.key], undef, undef, undef, undef, undef, undef, undef, undef, undef, undef, undef, undef, undef, undef, undef, undef], defers := [] })
    (fun x a' _ X Y row hs hgr hr => by obtain ⟨G, h1, h2, h3⟩ := hs; exact ⟨G, h1, blk_keep h2 hgr (fun r e => (hr r e).2), h3⟩)
    ?assign ?body ?done ?stop
  case assign =>
    rintro r pre x W K ⟨⟨v, h1, h2, h3⟩, h4, h5, h6, h7⟩ hK
    obtain ⟨⟨xi, xn, xv, xk⟩, hx⟩ := x
    have hs6 := h6.lt
    unfold encB
    dsimp only
    gi_wp2
    exact hK _ _ ((KeepsOthers.alloc _ _).from _) ⟨(Below.refl _ W).alloc h7.size _, Below.heap_alloc _ _ _ hs6⟩ ⟨⟨v, h1, h2, h3.alloc _⟩, h4.alloc _, h5.alloc _, h6.alloc _, h7.alloc h7.size _⟩ ⟨W.heap.size, hs6, Blk.new W _ _, rfl⟩
  case body =>
    rintro r pre x a' W hr0 ⟨rc, hrc⟩ ⟨⟨v, hf, hRc, hB3⟩, hB4, hB5, hBs, hB⟩ ⟨G, hG, hBG, rfl⟩ hlen
    obtain ⟨⟨xi, nm, N, ky⟩, hx⟩ := x
    dsimp only at hBG hx ⊢
    have hw1 := HWY.out _ hx v hRc
    have hr1 := HRC.out _ hx v hRc
    have hen := HEN.out _ hx
    have hsn := foldB_snoc sf (vals pre) (xi, ⟨nm, N, ky⟩) v0
    rw [hf] at hsn
    have hvs := vals_snoc pre ⟨(xi, ⟨nm, N, ky⟩), hx⟩
    obtain ⟨⟨kd2, tr2, nu2, st2⟩, hv2⟩ : ∃ y, (sf ⟨nm, N, ky⟩ v).1 = y := ⟨_, rfl⟩
    obtain ⟨cd, hcd⟩ : ∃ y, (sf ⟨nm, N, ky⟩ v).2 = y := ⟨_, rfl⟩
    obtain ⟨⟨kd, tr, nu, st⟩, hv⟩ : ∃ y, v = y := ⟨_, rfl⟩
    rw [hv2, hcd] at hw1
    rw [hv2, hcd] at hr1
    have HRC2 := Lib.hid hr1
    have HF2 := Lib.hid (show cd = 0 → foldB sf (vals (pre ++ [⟨(xi, ⟨nm, N, ky⟩), hx⟩])) v0 = some ⟨kd2, tr2, nu2, st2⟩ from fun h => by rw [hvs]; refine hsn.trans ?_; simp only [Option.bind_some]; rw [if_pos (hcd.trans h), hv2])
    have HF3 := Lib.hid (show ¬ cd = 0 → foldB sf (vals (pre ++ [⟨(xi, ⟨nm, N, ky⟩), hx⟩])) v0 = none from fun h => by rw [hvs]; refine hsn.trans ?_; simp only [Option.bind_some]; rw [if_neg (fun e => h (hcd.symm.trans e))])
    rw [hv] at hw1 hB3
    unfold lfC at hB3
    unfold lfV at hw1
    dsimp only at hw1 hen
    have HWAY := Lib.hid hw1
    obtain ⟨A, B, hkv⟩ : ∃ A B, kindV (kindN nm) = .agg #[A, B, wayV (backN (kindN nm))] := ⟨_, _, rfl⟩
    unfold wayV at hkv
    generalize backN (kindN nm) = F at *
    have HB := Lib.hid hB
    have HB3 := Lib.hid hB3
    have HB4 := Lib.hid hB4
    have HB5 := Lib.hid hB5
    have HBs := Lib.hid hBs
    have HBG := Lib.hid hBG
    have HSS := Lib.hid (show ∀ w', Below W.heap.size W w' → (w'.cell? ⟨G, 0, none⟩ = some (.string nm) ∧ w'.cell? ⟨G, 1, none⟩ = some (.int .i64 N) ∧ w'.cell? ⟨G, 2, none⟩ = some (.string ky)) ∧ w'.cell? ⟨w.heap.size, 0, none⟩ = some (.int .i64 kd) ∧ w'.cell? ⟨w.heap.size, 1, none⟩ = some (.bool tr) ∧ w'.cell? ⟨w.heap.size, 2, none⟩ = some (.int .i64 nu) ∧ w'.cell? ⟨w.heap.size, 3, none⟩ = some (.string st) ∧ w'.cell? ⟨w.heap.size, 4, none⟩ = some (.slice none 0 0) ∧ w'.cell? ⟨w.heap.size, 5, none⟩ = some (.slice none 0 0) from fun w' h => by
      have a := HBG.out.onto h
      have b := HB3.out.onto h
      exact ⟨⟨a.cell 0, a.cell 1, a.cell 2⟩, b.cell 0, b.cell 1, b.cell 2, b.cell 3, b.cell 4, b.cell 5⟩)
    have hfld : ∀ w1, (Instr.field 62 (.agg #[A, B, .func (.func F) #[] #[]]) 2).run Tryz.prog w1 = .ok (.func (.func F) #[] #[]) w1 := fun w1 => by kernel_rfl
    clear hw1 hr1 hsn hvs hv2 hcd hv hf hRc hB hB3 hB4 hB5 hBs hBG hlen hrc hr0
    gi_wp2
    refine wpIn_region_held_round (S := fun w' => (w'.cell? ⟨G, 0, none⟩ = some (.string nm) ∧ w'.cell? ⟨G, 1, none⟩ = some (.int .i64 N) ∧ w'.cell? ⟨G, 2, none⟩ = some (.string ky)) ∧ w'.cell? ⟨w.heap.size, 0, none⟩ = some (.int .i64 kd) ∧ w'.cell? ⟨w.heap.size, 1, none⟩ = some (.bool tr) ∧ w'.cell? ⟨w.heap.size, 2, none⟩ = some (.int .i64 nu) ∧ w'.cell? ⟨w.heap.size, 3, none⟩ = some (.string st) ∧ w'.cell? ⟨w.heap.size, 4, none⟩ = some (.slice none 0 0) ∧ w'.cell? ⟨w.heap.size, 5, none⟩ = some (.slice none 0 0)) (by kernel_rfl) (by kernel_rfl) ?_ (fun hHeld => ?_)
    · exact HSS.out _ (Below.refl _ _).drew
    refine wpAnyH_take (i := 0) (v := ?_) rfl (by kernel_rfl) (by kernel_rfl) (by kernel_rfl) (fun _ _ _ h => h) (Or.inl ⟨by rfl, ?_⟩) (by assumption) ?_
    rotate_left
    · intro wq hSw
      try dsimp only at hSw
      go_simp
      try (with_reducible rfl)
    try simp only [Act.put, List.getElem_toArray, List.getElem_cons_zero, List.setIfInBounds_toArray, List.set_cons_zero, List.set_cons_succ]
    refine wpAnyH_take (i := 1) (v := ?_) rfl (by kernel_rfl) (by kernel_rfl) (by kernel_rfl) (fun _ _ _ h => h) (Or.inl ⟨by rfl, ?_⟩) (by assumption) ?_
    rotate_left
    · intro wq hSw
      try dsimp only at hSw
      go_simp
      try (with_reducible rfl)
    try simp only [Act.put, List.getElem_toArray, List.getElem_cons_succ, List.getElem_cons_zero, List.setIfInBounds_toArray, List.set_cons_zero, List.set_cons_succ]
    refine wpAnyH_take (i := 4) (v := ?_) rfl (by kernel_rfl) (by kernel_rfl) (by kernel_rfl) (fun _ _ _ h => h) (Or.inl ⟨by rfl, ?_⟩) (by assumption) ?_
    rotate_left
    · intro wq hSw
      try dsimp only at hSw
      go_simp
      try (with_reducible rfl)
    try simp only [Act.put, List.getElem_toArray, List.getElem_cons_succ, List.getElem_cons_zero, List.setIfInBounds_toArray, List.set_cons_zero, List.set_cons_succ]
    refine wpAnyH_take (i := 5) (v := ?_) rfl (by kernel_rfl) (by kernel_rfl) (by kernel_rfl) (fun _ _ _ h => h) (Or.inl ⟨by rfl, ?_⟩) (by assumption) ?_
    rotate_left
    · intro wq hSw
      try dsimp only at hSw
      go_simp
      try (with_reducible rfl)
    try simp only [Act.put, List.getElem_toArray, List.getElem_cons_succ, List.getElem_cons_zero, List.setIfInBounds_toArray, List.set_cons_zero, List.set_cons_succ]
    have R0 := Lib.hid (show Below W.heap.size W W.drew from (Below.refl _ _).drew)
    generalize hwd : W.drew = wa at *
    clear hwd
    refine wpAnyH_ready (rs := [2, 10]) (by kernel_rfl) (by simp) ?_
    refine AllReadyH.cons rfl (fun K0 hK => ?_) (AllReadyH.cons rfl (fun K0 hK => ?_) AllReadyH.nil)
    go_simp
    refine (kind_any nm _).mono ?_
    rintro e wb ⟨rfl, hb⟩
    have R1 := Lib.hid (R0.out.trans (hb.mono R0.out.size))
    clear hb
    rw [hkv]
    go_wp2_with fail
    refine hK.out _ _ ?_ (fun hHeld => ?_)
    · exact HSS.out _ R1.out
    clear hK K0
    try simp only [Act.put, List.getElem_toArray, List.getElem_cons_succ, List.getElem_cons_zero, List.setIfInBounds_toArray, List.set_cons_zero, List.set_cons_succ]
    refine wpAnyH_take (i := 3) (v := ?_) rfl (by kernel_rfl) (by kernel_rfl) (by kernel_rfl) (fun _ _ _ h => h) (Or.inl ⟨by rfl, ?_⟩) (by assumption) ?_
    rotate_left
    · intro wq hSw
      try dsimp only at hSw
      go_simp
      try (with_reducible rfl)
    try simp only [Act.put, List.getElem_toArray, List.getElem_cons_succ, List.getElem_cons_zero, List.setIfInBounds_toArray, List.set_cons_zero, List.set_cons_succ]
    refine wpAnyH_ready (rs := [6, 10]) (by kernel_rfl) (by simp) ?_
    refine AllReadyH.cons rfl (fun K0 hK => ?_) (AllReadyH.cons rfl (fun K0 hK => ?_) AllReadyH.nil)
    go_simp
    refine (HWAY.out _ (HB.out.trans (R1.out.mono HB.out.size))).mono ?_
    rintro e wc ⟨rfl, hb⟩
    have R2 := Lib.hid (R1.out.trans (hb.mono R1.out.size))
    clear hb
    go_wp2_with fail
    refine hK.out _ _ ?_ (fun hHeld => ?_)
    · exact HSS.out _ R2.out
    clear hK K0
    try simp only [Act.put, List.getElem_toArray, List.getElem_cons_succ, List.getElem_cons_zero, List.setIfInBounds_toArray, List.set_cons_zero, List.set_cons_succ]
    refine wpAnyH_take (i := 7) (v := ?_) rfl (by kernel_rfl) (by kernel_rfl) (by kernel_rfl) (fun _ _ _ h => h) (Or.inl ⟨by rfl, ?_⟩) (by assumption) ?_
    rotate_left
    · intro wq hSw
      try dsimp only at hSw
      go_simp
      try (with_reducible rfl)
    try simp only [Act.put, List.getElem_toArray, List.getElem_cons_succ, List.getElem_cons_zero, List.setIfInBounds_toArray, List.set_cons_zero, List.set_cons_succ]
    refine wpAnyH_take (i := 8) (v := ?_) rfl (by kernel_rfl) (by kernel_rfl) (by kernel_rfl) (fun _ _ _ h => h) (Or.inl ⟨by rfl, ?_⟩) (by assumption) ?_
    rotate_left
    · intro wq hSw
      try dsimp only at hSw
      go_simp
      try (with_reducible rfl)
    try simp only [Act.put, List.getElem_toArray, List.getElem_cons_succ, List.getElem_cons_zero, List.setIfInBounds_toArray, List.set_cons_zero, List.set_cons_succ]
    refine wpAnyH_take (i := 9) (v := ?_) rfl (by kernel_rfl) (by kernel_rfl) (by kernel_rfl) (fun _ _ _ h => h) (Or.inl ⟨by rfl, ?_⟩) (by assumption) ?_
    rotate_left
    · intro wq hSw
      try dsimp only at hSw
      go_simp
      try (with_reducible rfl)
    try simp only [Act.put, List.getElem_toArray, List.getElem_cons_succ, List.getElem_cons_zero, List.setIfInBounds_toArray, List.set_cons_zero, List.set_cons_succ]
    refine wpAnyH_ready (rs := [10]) (by kernel_rfl) (by simp) ?_
    refine AllReadyH.cons rfl (fun K0 hK => ?_) AllReadyH.nil
    go_simp
    have R3 := Lib.hid (R2.out.alloc R2.out.size (.cells #[.int .i64 0, .bool false, .int .i64 0, .string ⟨#[]⟩, .slice none 0 0, .slice none 0 0] 52))
    have KBwd := Lib.hid (Blk.new wc 52 #[.int .i64 0, .bool false, .int .i64 0, .string ⟨#[]⟩, .slice none 0 0, .slice none 0 0])
    have HKW := Lib.hid (show W.heap.size ≤ wc.heap.size from R2.out.size)
    refine hK.out _ _ ?_ (fun hHeld => ?_)
    · exact HSS.out _ R3.out
    clear hK K0
    try simp only [Act.put, List.getElem_toArray, List.getElem_cons_succ, List.getElem_cons_zero, List.setIfInBounds_toArray, List.set_cons_zero, List.set_cons_succ]
    generalize (wc.alloc (.cells #[.int .i64 0, .bool false, .int .i64 0, .string ⟨#[]⟩, .slice none 0 0, .slice none 0 0] 52)) = wd at *
    generalize wc.heap.size = K at *
    refine wpAnyH_ready (rs := [11]) (by kernel_rfl) (by simp) ?_
    refine AllReadyH.cons rfl (fun K0 hK => ?_) AllReadyH.nil
    have m0 := KBwd.out.cell 0
    have m1 := KBwd.out.cell 1
    have m2 := KBwd.out.cell 2
    have m3 := KBwd.out.cell 3
    have m4 := KBwd.out.cell 4
    have m5 := KBwd.out.cell 5
    have n0 := KBwd.out.free 0
    have n1 := KBwd.out.free 1
    have n2 := KBwd.out.free 2
    have n3 := KBwd.out.free 3
    have n4 := KBwd.out.free 4
    have n5 := KBwd.out.free 5
    go_simp
    have R9 := Lib.hid (below_iz6 R3.out HKW.out (.int .i64 kd2) (.bool tr2) (.int .i64 nu2) (.string st2) (.slice none 0 0) (.slice none 0 0))
    have KB := Lib.hid (blk_iz6 KBwd.out (.int .i64 kd2) (.bool tr2) (.int .i64 nu2) (.string st2) (.slice none 0 0) (.slice none 0 0))
    clear m0 m1 m2 m3 m4 m5 n0 n1 n2 n3 n4 n5
    refine hK.out _ _ ?_ (fun hHeld => ?_)
    · exact HSS.out _ R9.out
    clear hK K0
    try simp only [Act.put, List.getElem_toArray, List.getElem_cons_succ, List.getElem_cons_zero, List.setIfInBounds_toArray, List.set_cons_zero, List.set_cons_succ]
    generalize ((((((wd.setCell ⟨K, 0, none⟩ (.int .i64 kd2)).setCell ⟨K, 1, none⟩ (.bool tr2)).setCell ⟨K, 2, none⟩ (.int .i64 nu2)).setCell ⟨K, 3, none⟩ (.string st2)).setCell ⟨K, 4, none⟩ (.slice none 0 0)).setCell ⟨K, 5, none⟩ (.slice none 0 0)) = wz at *
    rotate_left
    go_simp
    have R2 := Lib.hid (R1.out.alloc R1.out.size (.cells #[.int .i64 0, .bool false, .int .i64 0, .string ⟨#[]⟩, .slice none 0 0, .slice none 0 0] 52))
    have KBwc := Lib.hid (Blk.new wb 52 #[.int .i64 0, .bool false, .int .i64 0, .string ⟨#[]⟩, .slice none 0 0, .slice none 0 0])
    have HKW := Lib.hid (show W.heap.size ≤ wb.heap.size from R1.out.size)
    refine hK.out _ _ ?_ (fun hHeld => ?_)
    · exact HSS.out _ R2.out
    clear hK K0
    try simp only [Act.put, List.getElem_toArray, List.getElem_cons_succ, List.getElem_cons_zero, List.setIfInBounds_toArray, List.set_cons_zero, List.set_cons_succ]
    generalize (wb.alloc (.cells #[.int .i64 0, .bool false, .int .i64 0, .string ⟨#[]⟩, .slice none 0 0, .slice none 0 0] 52)) = wc at *
    generalize wb.heap.size = K at *
    refine wpAnyH_ready (rs := [6]) (by kernel_rfl) (by simp) ?_
    refine AllReadyH.cons rfl (fun K0 hK => ?_) AllReadyH.nil
    go_simp
    refine (HWAY.out _ (HB.out.trans (R2.out.mono HB.out.size))).mono ?_
    rintro e wd ⟨rfl, hb⟩
    have R3 := Lib.hid (R2.out.trans (hb.mono R2.out.size))
    have KBwd := Lib.hid (KBwc.out.onto hb)
    clear hb
    go_wp2_with fail
    refine hK.out _ _ ?_ (fun hHeld => ?_)
    · exact HSS.out _ R3.out
    clear hK K0
    try simp only [Act.put, List.getElem_toArray, List.getElem_cons_succ, List.getElem_cons_zero, List.setIfInBounds_toArray, List.set_cons_zero, List.set_cons_succ]
    refine wpAnyH_take (i := 7) (v := ?_) rfl (by kernel_rfl) (by kernel_rfl) (by kernel_rfl) (fun _ _ _ h => h) (Or.inl ⟨by rfl, ?_⟩) (by assumption) ?_
    rotate_left
    · intro wq hSw
      try dsimp only at hSw
      go_simp
      try (with_reducible rfl)
    try simp only [Act.put, List.getElem_toArray, List.getElem_cons_succ, List.getElem_cons_zero, List.setIfInBounds_toArray, List.set_cons_zero, List.set_cons_succ]
    refine wpAnyH_take (i := 8) (v := ?_) rfl (by kernel_rfl) (by kernel_rfl) (by kernel_rfl) (fun _ _ _ h => h) (Or.inl ⟨by rfl, ?_⟩) (by assumption) ?_
    rotate_left
    · intro wq hSw
      try dsimp only at hSw
      go_simp
      try (with_reducible rfl)
    try simp only [Act.put, List.getElem_toArray, List.getElem_cons_succ, List.getElem_cons_zero, List.setIfInBounds_toArray, List.set_cons_zero, List.set_cons_succ]
    refine wpAnyH_take (i := 9) (v := ?_) rfl (by kernel_rfl) (by kernel_rfl) (by kernel_rfl) (fun _ _ _ h => h) (Or.inl ⟨by rfl, ?_⟩) (by assumption) ?_
    rotate_left
    · intro wq hSw
      try dsimp only at hSw
      go_simp
      try (with_reducible rfl)
    try simp only [Act.put, List.getElem_toArray, List.getElem_cons_succ, List.getElem_cons_zero, List.setIfInBounds_toArray, List.set_cons_zero, List.set_cons_succ]
    refine wpAnyH_ready (rs := [11]) (by kernel_rfl) (by simp) ?_
    refine AllReadyH.cons rfl (fun K0 hK => ?_) AllReadyH.nil
    have m0 := KBwd.out.cell 0
    have m1 := KBwd.out.cell 1
    have m2 := KBwd.out.cell 2
    have m3 := KBwd.out.cell 3
    have m4 := KBwd.out.cell 4
    have m5 := KBwd.out.cell 5
    have n0 := KBwd.out.free 0
    have n1 := KBwd.out.free 1
    have n2 := KBwd.out.free 2
    have n3 := KBwd.out.free 3
    have n4 := KBwd.out.free 4
    have n5 := KBwd.out.free 5
    go_simp
    have R9 := Lib.hid (below_iz6 R3.out HKW.out (.int .i64 kd2) (.bool tr2) (.int .i64 nu2) (.string st2) (.slice none 0 0) (.slice none 0 0))
    have KB := Lib.hid (blk_iz6 KBwd.out (.int .i64 kd2) (.bool tr2) (.int .i64 nu2) (.string st2) (.slice none 0 0) (.slice none 0 0))
    clear m0 m1 m2 m3 m4 m5 n0 n1 n2 n3 n4 n5
    refine hK.out _ _ ?_ (fun hHeld => ?_)
    · exact HSS.out _ R9.out
    clear hK K0
    try simp only [Act.put, List.getElem_toArray, List.getElem_cons_succ, List.getElem_cons_zero, List.setIfInBounds_toArray, List.set_cons_zero, List.set_cons_succ]
    generalize ((((((wd.setCell ⟨K, 0, none⟩ (.int .i64 kd2)).setCell ⟨K, 1, none⟩ (.bool tr2)).setCell ⟨K, 2, none⟩ (.int .i64 nu2)).setCell ⟨K, 3, none⟩ (.string st2)).setCell ⟨K, 4, none⟩ (.slice none 0 0)).setCell ⟨K, 5, none⟩ (.slice none 0 0)) = wz at *
    rotate_left
    go_simp
    have R1 := Lib.hid (R0.out.alloc R0.out.size (.cells #[.int .i64 0, .bool false, .int .i64 0, .string ⟨#[]⟩, .slice none 0 0, .slice none 0 0] 52))
    have KBwb := Lib.hid (Blk.new wa 52 #[.int .i64 0, .bool false, .int .i64 0, .string ⟨#[]⟩, .slice none 0 0, .slice none 0 0])
    have HKW := Lib.hid (show W.heap.size ≤ wa.heap.size from R0.out.size)
    refine hK.out _ _ ?_ (fun hHeld => ?_)
    · exact HSS.out _ R1.out
    clear hK K0
    try simp only [Act.put, List.getElem_toArray, List.getElem_cons_succ, List.getElem_cons_zero, List.setIfInBounds_toArray, List.set_cons_zero, List.set_cons_succ]
    generalize (wa.alloc (.cells #[.int .i64 0, .bool false, .int .i64 0, .string ⟨#[]⟩, .slice none 0 0, .slice none 0 0] 52)) = wb at *
    generalize wa.heap.size = K at *
    refine wpAnyH_ready (rs := [2]) (by kernel_rfl) (by simp) ?_
    refine AllReadyH.cons rfl (fun K0 hK => ?_) AllReadyH.nil
    go_simp
    refine (kind_any nm _).mono ?_
    rintro e wc ⟨rfl, hb⟩
    have R2 := Lib.hid (R1.out.trans (hb.mono R1.out.size))
    have KBwc := Lib.hid (KBwb.out.onto hb)
    clear hb
    rw [hkv]
    go_wp2_with fail
    refine hK.out _ _ ?_ (fun hHeld => ?_)
    · exact HSS.out _ R2.out
    clear hK K0
    try simp only [Act.put, List.getElem_toArray, List.getElem_cons_succ, List.getElem_cons_zero, List.setIfInBounds_toArray, List.set_cons_zero, List.set_cons_succ]
    refine wpAnyH_take (i := 3) (v := ?_) rfl (by kernel_rfl) (by kernel_rfl) (by kernel_rfl) (fun _ _ _ h => h) (Or.inl ⟨by rfl, ?_⟩) (by assumption) ?_
    rotate_left
    · intro wq hSw
      try dsimp only at hSw
      go_simp
      try (with_reducible rfl)
    try simp only [Act.put, List.getElem_toArray, List.getElem_cons_succ, List.getElem_cons_zero, List.setIfInBounds_toArray, List.set_cons_zero, List.set_cons_succ]
    refine wpAnyH_ready (rs := [6]) (by kernel_rfl) (by simp) ?_
    refine AllReadyH.cons rfl (fun K0 hK => ?_) AllReadyH.nil
    go_simp
    refine (HWAY.out _ (HB.out.trans (R2.out.mono HB.out.size))).mono ?_
    rintro e wd ⟨rfl, hb⟩
    have R3 := Lib.hid (R2.out.trans (hb.mono R2.out.size))
    have KBwd := Lib.hid (KBwc.out.onto hb)
    clear hb
    go_wp2_with fail
    refine hK.out _ _ ?_ (fun hHeld => ?_)
    · exact HSS.out _ R3.out
    clear hK K0
    try simp only [Act.put, List.getElem_toArray, List.getElem_cons_succ, List.getElem_cons_zero, List.setIfInBounds_toArray, List.set_cons_zero, List.set_cons_succ]
    refine wpAnyH_take (i := 7) (v := ?_) rfl (by kernel_rfl) (by kernel_rfl) (by kernel_rfl) (fun _ _ _ h => h) (Or.inl ⟨by rfl, ?_⟩) (by assumption) ?_
    rotate_left
    · intro wq hSw
      try dsimp only at hSw
      go_simp
      try (with_reducible rfl)
    try simp only [Act.put, List.getElem_toArray, List.getElem_cons_succ, List.getElem_cons_zero, List.setIfInBounds_toArray, List.set_cons_zero, List.set_cons_succ]
    refine wpAnyH_take (i := 8) (v := ?_) rfl (by kernel_rfl) (by kernel_rfl) (by kernel_rfl) (fun _ _ _ h => h) (Or.inl ⟨by rfl, ?_⟩) (by assumption) ?_
    rotate_left
    · intro wq hSw
      try dsimp only at hSw
      go_simp
      try (with_reducible rfl)
    try simp only [Act.put, List.getElem_toArray, List.getElem_cons_succ, List.getElem_cons_zero, List.setIfInBounds_toArray, List.set_cons_zero, List.set_cons_succ]
    refine wpAnyH_take (i := 9) (v := ?_) rfl (by kernel_rfl) (by kernel_rfl) (by kernel_rfl) (fun _ _ _ h => h) (Or.inl ⟨by rfl, ?_⟩) (by assumption) ?_
    rotate_left
    · intro wq hSw
      try dsimp only at hSw
      go_simp
      try (with_reducible rfl)
    try simp only [Act.put, List.getElem_toArray, List.getElem_cons_succ, List.getElem_cons_zero, List.setIfInBounds_toArray, List.set_cons_zero, List.set_cons_succ]
    refine wpAnyH_ready (rs := [11]) (by kernel_rfl) (by simp) ?_
    refine AllReadyH.cons rfl (fun K0 hK => ?_) AllReadyH.nil
    have m0 := KBwd.out.cell 0
    have m1 := KBwd.out.cell 1
    have m2 := KBwd.out.cell 2
    have m3 := KBwd.out.cell 3
    have m4 := KBwd.out.cell 4
    have m5 := KBwd.out.cell 5
    have n0 := KBwd.out.free 0
    have n1 := KBwd.out.free 1
    have n2 := KBwd.out.free 2
    have n3 := KBwd.out.free 3
    have n4 := KBwd.out.free 4
    have n5 := KBwd.out.free 5
    go_simp
    have R9 := Lib.hid (below_iz6 R3.out HKW.out (.int .i64 kd2) (.bool tr2) (.int .i64 nu2) (.string st2) (.slice none 0 0) (.slice none 0 0))
    have KB := Lib.hid (blk_iz6 KBwd.out (.int .i64 kd2) (.bool tr2) (.int .i64 nu2) (.string st2) (.slice none 0 0) (.slice none 0 0))
    clear m0 m1 m2 m3 m4 m5 n0 n1 n2 n3 n4 n5
    refine hK.out _ _ ?_ (fun hHeld => ?_)
    · exact HSS.out _ R9.out
    clear hK K0
    try simp only [Act.put, List.getElem_toArray, List.getElem_cons_succ, List.getElem_cons_zero, List.setIfInBounds_toArray, List.set_cons_zero, List.set_cons_succ]
    generalize ((((((wd.setCell ⟨K, 0, none⟩ (.int .i64 kd2)).setCell ⟨K, 1, none⟩ (.bool tr2)).setCell ⟨K, 2, none⟩ (.int .i64 nu2)).setCell ⟨K, 3, none⟩ (.string st2)).setCell ⟨K, 4, none⟩ (.slice none 0 0)).setCell ⟨K, 5, none⟩ (.slice none 0 0)) = wz at *
    all_goals
      refine wpAnyH_take (i := 12) (v := ?_) rfl (by kernel_rfl) (by kernel_rfl) (by kernel_rfl) (fun _ _ _ h => h) (Or.inl ⟨by rfl, ?_⟩) (by assumption) ?_
      rotate_left
      · intro wq hSw
        try dsimp only at hSw
        go_simp
        try (with_reducible rfl)
      try simp only [Act.put, List.getElem_toArray, List.getElem_cons_succ, List.getElem_cons_zero, List.setIfInBounds_toArray, List.set_cons_zero, List.set_cons_succ]
      refine wpAnyH_done (by kernel_rfl) ?_ _
      rw [nrm_n]
      have HZ := Lib.hid (HB.out.trans (R9.out.mono HB.out.size))
      have HKF := Lib.hid (fun B => kf_below (B := B) R9.out)
      have HB3Z := Lib.hid (HB3.out.onto R9.out)
      have HB4Z := Lib.hid (HB4.out.onto R9.out)
      have HB5Z := Lib.hid (HB5.out.onto R9.out)
      have HBsZ := Lib.hid (HBs.out.onto R9.out)
      clear HSS HWAY hHeld
      by_cases hcd : cd = 0
      · subst hcd
        have c0 := KB.out.cell 0
        have c1 := KB.out.cell 1
        have c2 := KB.out.cell 2
        have c3 := KB.out.cell 3
        have c4 := KB.out.cell 4
        have c5 := KB.out.cell 5
        have b0 := HB3Z.out.cell 0
        have b1 := HB3Z.out.cell 1
        have b2 := HB3Z.out.cell 2
        have b3 := HB3Z.out.cell 3
        have b4 := HB3Z.out.cell 4
        have b5 := HB3Z.out.cell 5
        have q0 := HB3Z.out.free 0
        have q1 := HB3Z.out.free 1
        have q2 := HB3Z.out.free 2
        have q3 := HB3Z.out.free 3
        have q4 := HB3Z.out.free 4
        have q5 := HB3Z.out.free 5
        gi_wp2
        refine ⟨(HKF.out _).trans (kf_put6 _ _ _ _ _ _ _ _ _), ⟨below_iz6 (R9.out.mono HB.out.size) (Nat.le_refl _) _ _ _ _ _ _, ?_⟩, ⟨⟨⟨kd2, tr2, nu2, st2⟩, HF2.out (by trivial), HRC2.out (by trivial), blk_iz6 HB3Z.out _ _ _ _ _ _⟩, far_iz6 HB4Z.out (by omega) _ _ _ _ _ _, far_iz6 HB5Z.out (by omega) _ _ _ _ _ _, far_iz6 HBsZ.out (by omega) _ _ _ _ _ _, below_iz6 HZ.out (Nat.le_refl _) _ _ _ _ _ _⟩⟩
        have h1 := far_iz6 HBsZ.out (show ¬ w.heap.size + 1 + 1 + 1 = w.heap.size by omega) (.int .i64 kd2) (.bool tr2) (.int .i64 nu2) (.string st2) (.slice none 0 0) (.slice none 0 0)
        exact h1.trans HBs.out.symm
      · have v1 : (cd != 0) = true := by rw [bne_iff_ne]; exact hcd
        have b0 := HB4Z.out.cell 0
        have b1 := HB4Z.out.cell 1
        have b2 := HB4Z.out.cell 2
        have b3 := HB4Z.out.cell 3
        have b4 := HB4Z.out.cell 4
        have b5 := HB4Z.out.cell 5
        have q0 := HB4Z.out.free 0
        have q1 := HB4Z.out.free 1
        have q2 := HB4Z.out.free 2
        have q3 := HB4Z.out.free 3
        have q4 := HB4Z.out.free 4
        have q5 := HB4Z.out.free 5
        have e0 := HB5Z.out.cell 0
        have s0 := HB5Z.out.free 0
        gi_wp2
        refine ⟨(HKF.out _).trans ((kf_put6 _ _ _ _ _ _ _ _ _).trans ((KeepsOthers.setCell _ _ _).from _)), ⟨rfl, HF3.out hcd⟩, (blk_iz6 HB4Z.out _ _ _ _ _ _).far (p := ⟨w.heap.size + 1 + 1, 0, none⟩) (show ¬ w.heap.size + 1 = w.heap.size + 1 + 1 by omega) _, ?_, (below_iz6 HZ.out (by omega) _ _ _ _ _ _).setCell (p := ⟨w.heap.size + 1 + 1, 0, none⟩) (show w.heap.size ≤ w.heap.size + 1 + 1 by omega) _⟩
        exact (far_iz6 HB5Z.out (by omega) _ _ _ _ _ _).set_ 0 _
  case done =>
    rintro D xs W hD hxs ⟨⟨v, h1, h2, h3⟩, h4, h5, h6, h7⟩ hK
    rw [hxs] at h1
    obtain ⟨⟨kd, tr, nu, st⟩, hv⟩ : ∃ y, v = y := ⟨_, rfl⟩
    rw [hv] at h1 h3
    unfold lfC at h3
    have HF := Lib.hid h1
    have HB4 := Lib.hid h4
    have HB5 := Lib.hid h5
    have HB := Lib.hid h7
    have c0 := h3.cell 0
    have c1 := h3.cell 1
    have c2 := h3.cell 2
    have c3 := h3.cell 3
    have c4 := h3.cell 4
    have c5 := h3.cell 5
    clear h1 h2 h3 h4 h5 h6 h7 hv hxs
    gi_wp2
    refine ⟨trivial, ?_⟩
    refine (callsIn_wide.2 (copied_leaf kd tr nu st _)).mono ?_
    rintro e w5 ⟨rfl, hb⟩
    have HB4Z := Lib.hid (HB4.out.onto hb)
    have HB5Z := Lib.hid (HB5.out.onto hb)
    have HZ := Lib.hid (HB.out.trans (hb.mono HB.out.size))
    have HKD := Lib.hid (show w5.heap[D]? = some (.deferred (some [])) from (hb.block D (Array.getElem?_eq_some_iff.1 hK).1).trans hK)
    clear hb hK c0 c1 c2 c3 c4 c5
    have b0 := HB4Z.out.cell 0
    have b1 := HB4Z.out.cell 1
    have b2 := HB4Z.out.cell 2
    have b3 := HB4Z.out.cell 3
    have b4 := HB4Z.out.cell 4
    have b5 := HB4Z.out.cell 5
    have q0 := HB4Z.out.free 0
    have q1 := HB4Z.out.free 1
    have q2 := HB4Z.out.free 2
    have q3 := HB4Z.out.free 3
    have q4 := HB4Z.out.free 4
    have q5 := HB4Z.out.free 5
    have e0 := HB5Z.out.cell 0
    have s0 := HB5Z.out.free 0
    gi_wp2
    have hK9 := (KeepsFrom.trans (kf_put6 0 w5 (w.heap.size + 1) (.int .i64 kd) (.bool tr) (.int .i64 nu) (.string st) (.slice none 0 0) (.slice none 0 0)) ((KeepsOthers.setCell _ ⟨w.heap.size + 1 + 1, 0, none⟩ (.int .i64 0)).from 0)).same D _ (Nat.zero_le _) HKD.out rfl
    refine ⟨by simp, .inl ⟨_, _, rfl, run_takeDeferred hK9, ?_⟩⟩
    have k4 := blk_keep ((blk_iz6 HB4Z.out (.int .i64 kd) (.bool tr) (.int .i64 nu) (.string st) (.slice none 0 0) (.slice none 0 0)).far (p := ⟨w.heap.size + 1 + 1, 0, none⟩) (show ¬ w.heap.size + 1 = w.heap.size + 1 + 1 by omega) (.int .i64 0)) (grownBy_putObj' _ D (.deferred none)) (fun r e => by cases e; exact ⟨_, hK9, rfl⟩)
    have k5 := blk_keep (t := 34) (cs := #[.int .i64 0]) ((far_iz6 HB5Z.out (show ¬ w.heap.size + 1 + 1 = w.heap.size + 1 by omega) (.int .i64 kd) (.bool tr) (.int .i64 nu) (.string st) (.slice none 0 0) (.slice none 0 0)).set_ 0 (.int .i64 0)) (grownBy_putObj' _ D (.deferred none)) (fun r e => by cases e; exact ⟨_, hK9, rfl⟩)
    have c0 := k4.cell 0
    have c1 := k4.cell 1
    have c2 := k4.cell 2
    have c3 := k4.cell 3
    have c4 := k4.cell 4
    have c5 := k4.cell 5
    have d0 := k5.cell 0
    refine ⟨.tuple #[.agg #[.int .i64 kd, .bool tr, .int .i64 nu, .string st, .slice none 0 0, .slice none 0 0], .int .i64 0], by simp [results, Tryz.f19, go_sem, c0, c1, c2, c3, c4, c5, d0], by rw [HF.out]; exact rfl, ?_⟩
    exact ((below_iz6 HZ.out (by omega) _ _ _ _ _ _).setCell (p := ⟨w.heap.size + 1 + 1, 0, none⟩) (show w.heap.size ≤ w.heap.size + 1 + 1 by omega) _).trans (belowK_b (w := w) (Nat.le_refl _) _ D _ _ (by omega) hK9 rfl rfl)
  case stop =>
    rintro D c pre W hD ⟨k, hk, hpre⟩ ⟨⟨rfl, hnone⟩, h4, h5, h7⟩ hK
    have hall : foldB sf (bk l l.length) v0 = none := by
      obtain ⟨m, hm⟩ := bk_pre l hk
      rw [hm]
      exact foldB_none sf _ m _ (by rw [← hpre]; exact hnone)
    gi_wp2
    refine ⟨by simp, .inl ⟨_, _, rfl, run_takeDeferred hK, ?_⟩⟩
    have k4 := blk_keep h4 (grownBy_putObj' _ D (.deferred none)) (fun r e => by cases e; exact ⟨_, hK, rfl⟩)
    have k5 := blk_keep h5 (grownBy_putObj' _ D (.deferred none)) (fun r e => by cases e; exact ⟨_, hK, rfl⟩)
    have c0 := k4.cell 0
    have c1 := k4.cell 1
    have c2 := k4.cell 2
    have c3 := k4.cell 3
    have c4 := k4.cell 4
    have c5 := k4.cell 5
    have d0 := k5.cell 0
    refine ⟨.tuple #[.agg #[.int .i64 0, .bool false, .int .i64 0, .string ⟨#[]⟩, .slice none 0 0, .slice none 0 0], .int .i64 12], by simp [results, Tryz.f19, go_sem, c0, c1, c2, c3, c4, c5, d0], by rw [hall]; exact rfl, ?_⟩
    exact h7.trans (belowK_b (w := w) (Nat.le_refl _) _ D _ _ (by omega) hK rfl rfl)
end Go.Proofs.YtfiahpeajccinaaGreatDoor
namespace Go.Proofs.YtfiahpeajccinaaGreatDoor
open Go.RowKit
open Tk Ex
set_option linter.unusedVariables false
set_option linter.unusedSimpArgs false

def numF (n : Int) : Lf := ⟨2, false, n, nix⟩
def txtF (s : ByteArray) : Lf := ⟨3, false, 0, s⟩
theorem kPlus : kindN Iz.plusW = 1 := by decide +kernel
theorem kShow : kindN Iz.showW = 8 := by decide +kernel
theorem itoa7 : (⟨(Lib.itoa 7).toArray⟩ : ByteArray) = ⟨#[55]⟩ := by kernel_rfl
theorem awk_at {k : Nat} {x : Iz.Iso} (h : awkL[k]? = some x) : (k = 0 ∧ x = ⟨Iz.plusW, 2, nix⟩) ∨ (k = 1 ∧ x = ⟨Iz.showW, 0, nix⟩) := by
  unfold awkL at h
  match k, h with
  | 0, h => injection h with h; exact .inl ⟨rfl, h.symm⟩
  | 1, h => injection h with h; exact .inr ⟨rfl, h.symm⟩
  | k + 2, h => simp at h
def vsA : Nat → Lf
  | 0 => numF 5
  | 1 => numF 7
  | _ => txtF ⟨(Lib.itoa 7).toArray⟩
theorem awk_through (g o c : Nat) (w : World) (hg : g < w.heap.size) (hlc : 2 ≤ c)
    (hc : ∀ (k : Nat) (x : Iz.Iso), awkL[k]? = some x → w.cell? ⟨g, o + k * 3, none⟩ = some (.string x.name) ∧ w.cell? ⟨g, o + k * 3 + 1, none⟩ = some (.int .i64 x.n) ∧ w.cell? ⟨g, o + k * 3 + 2, none⟩ = some (.string x.key))
    (ht : Lib.TabIs Tryz.prog w "internal/strconv.uint64pow10" .u64 Lib.pow10Tab) :
    Calls Tryz.prog 17 #[.slice (some ⟨g, o, none⟩) 2 c, .agg #[.int .i64 2, .bool false, .int .i64 5, .string ⟨#[]⟩, .slice none 0 0, .slice none 0 0]] w fun e w' => e = .returned (.tuple #[.agg #[.int .i64 3, .bool false, .int .i64 0, .string ⟨#[55]⟩, .slice none 0 0, .slice none 0 0], .int .i64 0]) ∧ Below w.heap.size w w' := by
  rw [← itoa7]
  refine through_lf awkL g o c vsA w hg (by decide) hlc hc (fun k x hx => ?_) (fun k x hx w1 hb => ?_)
  · rcases awk_at hx with ⟨rfl, rfl⟩ | ⟨rfl, rfl⟩
    · rw [kPlus]; exact Go.Proofs.enters_of Tryz.func39 (by kernel_rfl) rfl
    · rw [kShow]; exact Go.Proofs.enters_of Tryz.func50 (by kernel_rfl) rfl
  · rcases awk_at hx with ⟨rfl, rfl⟩ | ⟨rfl, rfl⟩
    · rw [kPlus]; exact add_any 5 2 Iz.plusW nix w1 (by unfold In64; omega) (by unfold In64; omega) (by unfold In64; omega)
    · rw [kShow]; exact show_any 7 0 Iz.showW nix w1 (by unfold In64; omega) ((tab_of11 ht).on hb).2
def subOk (n N : Int) : Bool := decide (-9223372036854775808 ≤ n - N) && decide (n - N ≤ 9223372036854775807)
/-- where plus and show lead back, and the error -/
def sfA (x : Iz.Iso) (v : Lf) : Lf × Int :=
  if kindN x.name = 1 then
    (if v.kind = 2 then (if subOk v.num x.n = true then (numF (v.num - x.n), 0) else (⟨0, false, 0, nix⟩, 11)) else (⟨0, false, 0, nix⟩, 9))
  else if v.kind = 3 then (numF (De.numL v.str.data.toList), 0) else (⟨0, false, 0, nix⟩, 9)
def RcA (v : Lf) : Prop := (∃ n, In64 n ∧ v = numF n) ∨ (∃ n, In64 n ∧ v = txtF ⟨(Lib.itoa n).toArray⟩)
theorem numL_itoa (n : Int) : De.numL ((⟨(Lib.itoa n).toArray⟩ : ByteArray).data.toList) = n := by
  show De.numL (Lib.itoa n).toArray.toList = n
  rw [List.toList_toArray]
  exact (De.itoa_form n).2
theorem subOk_iff (n N : Int) : subOk n N = true ↔ In64 (n - N) := by
  unfold subOk In64
  simp
theorem awk_mem {x : Iz.Iso} (h : x ∈ awkL) : x = ⟨Iz.plusW, 2, nix⟩ ∨ x = ⟨Iz.showW, 0, nix⟩ := by
  unfold awkL at h
  simpa using h
theorem awk_fold : foldB sfA (bk awkL awkL.length) (txtF ⟨#[55]⟩) = some (numF 5) := by kernel_rfl
theorem awk_return (g o c : Nat) (w : World) (hg : g < w.heap.size) (hlc : 2 ≤ c)
    (hc : ∀ (k : Nat) (x : Iz.Iso), awkL[k]? = some x → w.cell? ⟨g, o + k * 3, none⟩ = some (.string x.name) ∧ w.cell? ⟨g, o + k * 3 + 1, none⟩ = some (.int .i64 x.n) ∧ w.cell? ⟨g, o + k * 3 + 2, none⟩ = some (.string x.key))
    (ht : Lib.TabIs Tryz.prog w "internal/strconv.uint64pow10" .u64 Lib.pow10Tab) :
    Calls Tryz.prog 19 #[.slice (some ⟨g, o, none⟩) 2 c, .agg #[.int .i64 3, .bool false, .int .i64 0, .string ⟨#[55]⟩, .slice none 0 0, .slice none 0 0]] w fun e w' => e = .returned (.tuple #[.agg #[.int .i64 2, .bool false, .int .i64 5, .string ⟨#[]⟩, .slice none 0 0, .slice none 0 0], .int .i64 0]) ∧ Below w.heap.size w w' := by
  have key := return_lf awkL g o c sfA RcA (txtF ⟨#[55]⟩) w hg (by decide) hlc hc (.inr ⟨7, by unfold In64; omega, by rw [itoa7]⟩) ?_ ?_ ?_
  · refine key.mono fun e w' h => ?_
    rw [awk_fold] at h
    exact h
  · intro x hx
    rcases awk_mem hx with rfl | rfl
    · rw [kPlus]; exact Go.Proofs.enters_of Tryz.func40 (by kernel_rfl) rfl
    · rw [kShow]; exact Go.Proofs.enters_of Tryz.func51 (by kernel_rfl) rfl
  · intro x hx v hv h0
    rcases awk_mem hx with rfl | rfl
    · unfold sfA at h0 ⊢
      rw [if_pos kPlus] at h0 ⊢
      split
      · rename_i h2
        rw [if_pos h2] at h0
        split
        · rename_i h3
          exact .inl ⟨_, (subOk_iff _ _).1 h3, rfl⟩
        · rename_i h3
          rw [if_neg h3] at h0
          exact absurd h0 (by decide)
      · rename_i h2
        rw [if_neg h2] at h0
        exact absurd h0 (by decide)
    · unfold sfA at h0 ⊢
      rw [if_neg (by rw [kShow]; decide)] at h0 ⊢
      rcases hv with ⟨n, hn, rfl⟩ | ⟨n, hn, rfl⟩
      · exact absurd h0 (by show ¬ (9 : Int) = 0; decide)
      · rw [if_pos (show (txtF _).kind = 3 from rfl)]
        exact .inl ⟨n, hn, congrArg numF (numL_itoa n)⟩
  · intro x hx v hv w1 hb
    rcases awk_mem hx with rfl | rfl
    · rw [kPlus]
      unfold sfA
      rw [if_pos kPlus]
      rcases hv with ⟨n, hn, rfl⟩ | ⟨n, hn, rfl⟩
      · rw [if_pos (show (numF n).kind = 2 from rfl)]
        cases h : subOk n 2 with
        | true =>
          rw [if_pos (show subOk (numF n).num 2 = true from h)]
          exact subtract_any n 2 Iz.plusW nix w1 hn (by unfold In64; omega) ((subOk_iff _ _).1 h)
        | false =>
          rw [if_neg (show ¬ subOk (numF n).num 2 = true from by rw [show (numF n).num = n from rfl, h]; decide)]
          exact subtract_over n 2 Iz.plusW nix w1 hn (by unfold In64; omega) (fun k => by rw [(subOk_iff _ _).2 k] at h; cases h)
      · rw [if_neg (by show ¬ (3 : Int) = 2; decide)]
        exact subtract_kind _ 2 Iz.plusW nix w1
    · rw [kShow]
      unfold sfA
      rw [if_neg (by rw [kShow]; decide)]
      rcases hv with ⟨n, hn, rfl⟩ | ⟨n, hn, rfl⟩
      · rw [if_neg (by show ¬ (2 : Int) = 3; decide)]
        exact read_kind n 0 Iz.showW nix w1
      · rw [if_pos (show (txtF _).kind = 3 from rfl)]
        have := read_ok n 0 Iz.showW nix w1 hn ((tab_of11 ht).on hb).2
        rw [show De.numL (txtF ⟨(Lib.itoa n).toArray⟩).str.data.toList = n from numL_itoa n]
        exact this
set_option maxRecDepth 100000 in
set_option maxHeartbeats 4000000 in
/-- the fixed fact -/
theorem awake11_any (w : World) (hr : RangeErr w) (ht : Lib.TabIs Tryz.prog w "internal/strconv.uint64pow10" .u64 Lib.pow10Tab) :
    Calls Tryz.prog 6 #[] w fun e w' => e = .returned (.bool true) ∧ Below w.heap.size w w' := by
  have HT := Lib.hid (fun w1 (hb : Below w.heap.size w w1) => ((tab_of11 ht).on hb).2)
  have HP := Lib.hid (prefix_awk w hr)
  clear hr ht
  go_enter Tryz.func6, Tryz.ntmps6
  go_wp2_with fail
  refine HP.out.mono ?_
  rintro e w1 ⟨hb1, A, c, base, _, rfl, hrow⟩
  obtain ⟨g, c', hv, hg, hlc, hcs⟩ := RowZ.cells hrow (by decide)
  injection hv with hA h2 hc'
  clear h2
  subst hA hc'
  have HB1 := Lib.hid hb1
  have HC1 := Lib.hid (show ∀ (k : Nat) (x : Iz.Iso), awkL[k]? = some x → w1.cell? ⟨g, 0 + k * 3, none⟩ = some (.string x.name) ∧ w1.cell? ⟨g, 0 + k * 3 + 1, none⟩ = some (.int .i64 x.n) ∧ w1.cell? ⟨g, 0 + k * 3 + 2, none⟩ = some (.string x.key) from fun k x hx => by
    rw [Nat.zero_add]; exact hcs k x hx)
  have hl2 : 2 ≤ c := hlc
  have HON := Lib.hid (fun w2 (hb : Below w1.heap.size w1 w2) (k : Nat) (x : Iz.Iso) (hx : awkL[k]? = some x) => show w2.cell? ⟨g, 0 + k * 3, none⟩ = some (.string x.name) ∧ w2.cell? ⟨g, 0 + k * 3 + 1, none⟩ = some (.int .i64 x.n) ∧ w2.cell? ⟨g, 0 + k * 3 + 2, none⟩ = some (.string x.key) from
    ⟨(hb.cell (p := ⟨g, 0 + k * 3, none⟩) hg).trans (HC1.out k x hx).1, (hb.cell (p := ⟨g, 0 + k * 3 + 1, none⟩) hg).trans (HC1.out k x hx).2.1, (hb.cell (p := ⟨g, 0 + k * 3 + 2, none⟩) hg).trans (HC1.out k x hx).2.2⟩)
  clear hb1 hrow hcs hlc HC1
  go_wp2_with fail
  refine (vnum_any 5 _).mono ?_
  rintro e w2 ⟨rfl, hb⟩
  have H2 := Lib.hid hb
  clear hb
  go_wp2_with fail
  refine (awk_through g 0 c _ (Nat.lt_of_lt_of_le hg H2.out.size) hl2 (HON.out _ H2.out) (HT.out _ (HB1.out.trans (H2.out.mono HB1.out.size)))).mono ?_
  rintro e w3 ⟨rfl, hb⟩
  have H3 := Lib.hid (H2.out.trans (hb.mono H2.out.size))
  clear hb
  go_upto_region 3 with fail
  refine alloc_gz (fun W4 hW4 hB4 => ?_)
  have H4 := Lib.hid (H3.out.trans (hW4.mono H3.out.size))
  have HB4 := Lib.hid hB4
  have hlt4 := hB4.lt
  clear hW4 hB4
  go_wp2_with fail
  refine (vtext_iz ⟨#[55]⟩ _).mono ?_
  rintro e w5 ⟨rfl, hb⟩
  have H5 := Lib.hid (H4.out.trans (hb.mono H4.out.size))
  have HB5 := Lib.hid (HB4.out.onto hb)
  clear hb
  go_wp2_with fail
  refine (awk_return g 0 c _ (Nat.lt_of_lt_of_le hg H5.out.size) hl2 (HON.out _ H5.out) (HT.out _ (HB1.out.trans (H5.out.mono HB1.out.size)))).mono ?_
  rintro e w6 ⟨rfl, hb⟩
  have H6 := Lib.hid (H5.out.trans (hb.mono H5.out.size))
  have HB6 := Lib.hid (HB5.out.onto hb)
  clear hb
  go_upto_region 4 with fail
  refine alloc_gz (fun W7 hW7 hB7 => ?_)
  have H7 := Lib.hid (H6.out.trans (hW7.mono H6.out.size))
  have HB7 := Lib.hid (HB6.out.onto hW7)
  have m3 := HB7.out.cell 3
  have m2 := hB7.cell 2
  clear hW7 hB7
  go_wp2_with fail
  go_ret
  exact ⟨rfl, HB1.out.trans (H7.out.mono HB1.out.size)⟩
end Go.Proofs.YtfiahpeajccinaaGreatDoor
