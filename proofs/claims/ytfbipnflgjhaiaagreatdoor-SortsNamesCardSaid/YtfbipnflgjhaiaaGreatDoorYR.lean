/- A value without parts, as the program's: contract of the law's Real of values. Rows of the program's trees that grow. A tree as the program's: contract of the law's Real, of any tree whose values have no parts. -/
import Derived.Test.YtfbipnflgjhaiaaGreatDoorYG
set_option linter.unusedVariables false
set_option maxRecDepth 100000
set_option maxHeartbeats 8000000
open Go.Lib (hid)
namespace Go.Proofs.YtfbipnflgjhaiaaGreatDoor
open Go.RowKit
open Tk Ex
theorem infoStrZ : (Tryz.prog.info? 9).map (fun i => (i.zero, i.size, i.bytes)) = some (some (.string ⟨#[]⟩), 1, 16) := by kernel_rfl
theorem append_noneZ (w : World) (ty : TypeId) (B A : Option Addr) (c a : Nat) : (Builtin.append_ #[25, 25] ty #[.slice B 0 c, .slice A 0 a]).run Tryz.prog w = .ok (.slice B 0 c) w := by
 obtain ⟨i0, hi, hz0, hz1, hz2⟩ := info_of infoStrZ
 cases A <;> cases B <;> simp [Builtin.append_, run_underlying Tryz.underlying25, sizeOf, typeInfo, hi, go_sem, storeCells]
theorem app_none {ops : Array Oper} {o : Oper} {a : Act} {K : Act → World → Prop} {Q : Exit → Act → World → Prop} {E0 : Prop} {w : World} (hgd : o.guard = none) (s x : Operand)
 (ho : o.op = .call { callee := .builtin .append, args := #[s, x], argTypes := #[25, 25] }) (B : Option Addr) (c : Nat) (A : Option Addr) (a' : Nat) (hs : a.eval s = .slice B 0 c) (hx : a.eval x = .slice A 0 a')
 (h : K (a.put o.dst (.slice B 0 c)) w) : if Region.wanted o (yielded ops a.tmps) = true then Oper.wp Tryz.prog o a w K Q else E0 := by
 have hw : Region.wanted o (yielded ops a.tmps) = true := by simp [Region.wanted, hgd]
 rw [if_pos hw]
 unfold Oper.wp execOp
 simp only [ho, resolve, invoke, builtin, Sem.run_bind, Sem.run_pure, Result.andThen_ok, List.map_toArray, List.map_cons, List.map_nil, hs, hx, append_noneZ]
 exact h
theorem put6_blk {w : World} {g : Nat} {ty : TypeId} (h : Blk w g ty #[.int .i64 0, .bool false, .int .i64 0, .string ⟨#[]⟩, .slice none 0 0, .slice none 0 0]) (v0 v1 v2 v3 v4 v5 : Value) : Blk ((((((w.setCell ⟨g, 0, none⟩ v0).setCell ⟨g, 1, none⟩ v1).setCell ⟨g, 2, none⟩ v2).setCell ⟨g, 3, none⟩ v3).setCell ⟨g, 4, none⟩ v4).setCell ⟨g, 5, none⟩ v5) g ty #[v0, v1, v2, v3, v4, v5] :=
 ((((((h.set_ 0 v0).set_ 1 v1).set_ 2 v2).set_ 3 v3).set_ 4 v4).set_ 5 v5)
theorem real_leafT (t : T) (A : Option Addr) (c : Nat) (A' : Option Addr) (c' : Nat) (w : World) :
 Calls Tryz.prog 20 #[.agg #[.int .i64 t.kind, .bool t.tr, .int .i64 t.num, .string t.str, .slice A 0 c, .slice A' 0 c']] w fun e w' => ∃ K k, e = .returned (.agg #[.int .i64 t.kind, .bool t.tr, .int .i64 t.num, .string t.str, .slice none 0 0, .slice K 0 k]) ∧ Below w.heap.size w w' := by
 go_enter Tryz.func20, Tryz.ntmps20
 go_upto_region 1 with fail
 have hW : Below w.heap.size w ((w.alloc (.cells #[.int .i64 t.kind, .bool t.tr, .int .i64 t.num, .string t.str, .slice A 0 c, .slice A' 0 c'] 27)).alloc (.cells #[.int .i64 0, .bool false, .int .i64 0, .string ⟨#[]⟩, .slice none 0 0, .slice none 0 0] 49)) := ((Below.refl _ _).alloc (Nat.le_refl _) _).alloc (by simp) _
 have kA : Blk ((w.alloc (.cells #[.int .i64 t.kind, .bool t.tr, .int .i64 t.num, .string t.str, .slice A 0 c, .slice A' 0 c'] 27)).alloc (.cells #[.int .i64 0, .bool false, .int .i64 0, .string ⟨#[]⟩, .slice none 0 0, .slice none 0 0] 49)) w.heap.size 27 #[.int .i64 t.kind, .bool t.tr, .int .i64 t.num, .string t.str, .slice A 0 c, .slice A' 0 c'] := (Blk.new w _ _).alloc _
 have kB : Blk ((w.alloc (.cells #[.int .i64 t.kind, .bool t.tr, .int .i64 t.num, .string t.str, .slice A 0 c, .slice A' 0 c'] 27)).alloc (.cells #[.int .i64 0, .bool false, .int .i64 0, .string ⟨#[]⟩, .slice none 0 0, .slice none 0 0] 49)) (w.heap.size + 1) 49 #[.int .i64 0, .bool false, .int .i64 0, .string ⟨#[]⟩, .slice none 0 0, .slice none 0 0] := by
  have := Blk.new (w.alloc (.cells #[.int .i64 t.kind, .bool t.tr, .int .i64 t.num, .string t.str, .slice A 0 c, .slice A' 0 c'] 27)) 49 #[.int .i64 0, .bool false, .int .i64 0, .string ⟨#[]⟩, .slice none 0 0, .slice none 0 0]
  simpa using this
 change Code.wp _ _ _ _ ((w.alloc (.cells #[.int .i64 t.kind, .bool t.tr, .int .i64 t.num, .string t.str, .slice A 0 c, .slice A' 0 c'] 27)).alloc (.cells #[.int .i64 0, .bool false, .int .i64 0, .string ⟨#[]⟩, .slice none 0 0, .slice none 0 0] 49))
 generalize ((w.alloc (.cells #[.int .i64 t.kind, .bool t.tr, .int .i64 t.num, .string t.str, .slice A 0 c, .slice A' 0 c'] 27)).alloc (.cells #[.int .i64 0, .bool false, .int .i64 0, .string ⟨#[]⟩, .slice none 0 0, .slice none 0 0] 49)) = W at *
 have HW := hid hW
 have HA := hid kA
 have HB := hid kB
 have hs := hW.size
 have hgs := kA.lt
 have hgB := kB.lt
 generalize hg : w.heap.size = g at *
 have HG := hid hg
 have HS := hid (show ∀ w', Below W.heap.size W w' → (w'.cell? ⟨g, 0, none⟩ = some (.int .i64 t.kind) ∧ w'.cell? ⟨g, 1, none⟩ = some (.bool t.tr) ∧ w'.cell? ⟨g, 2, none⟩ = some (.int .i64 t.num) ∧ w'.cell? ⟨g, 3, none⟩ = some (.string t.str) ∧ w'.cell? ⟨g, 5, none⟩ = some (.slice A' 0 c')) from fun w' hb => by
  have k := kA.onto hb
  exact ⟨k.cell 0, k.cell 1, k.cell 2, k.cell 3, k.cell 5⟩)
 clear hW kA kB hg
 go_cut [3] (fun s3 wx => ∃ Q K k, s3 = .pointer (some ⟨Q, 0, none⟩) ∧ Blk wx Q 49 #[.int .i64 t.kind, .bool t.tr, .int .i64 t.num, .string t.str, .slice none 0 0, .slice K 0 k] ∧ Below W.heap.size W wx)
 case first =>
  have HD := hid (show Below W.heap.size W W.drew from (Below.refl _ _).drew)
  refine wp_region_held_drew (S := fun w' => (w'.cell? ⟨g, 0, none⟩ = some (.int .i64 t.kind) ∧ w'.cell? ⟨g, 1, none⟩ = some (.bool t.tr) ∧ w'.cell? ⟨g, 2, none⟩ = some (.int .i64 t.num) ∧ w'.cell? ⟨g, 3, none⟩ = some (.string t.str) ∧ w'.cell? ⟨g, 5, none⟩ = some (.slice A' 0 c'))) (by kernel_rfl) ?_ (fun hHeld => ?_)
  · exact HS.out _ HD.out
  refine wpAnyH_take (i := 0) (v := ?_) rfl (by kernel_rfl) (by kernel_rfl) (by kernel_rfl) (fun _ _ _ h => h) (Or.inl ⟨by rfl, ?_⟩) (by assumption) ?_
  rotate_left
  ·
   intro wq hSw
   try dsimp only at hSw
   go_simp
   try (with_reducible rfl)
  try simp only [Act.put, List.getElem_toArray, List.getElem_cons_zero, List.setIfInBounds_toArray, List.set_cons_zero, List.set_cons_succ]
  refine wpAnyH_take (i := 1) (v := ?_) rfl (by kernel_rfl) (by kernel_rfl) (by kernel_rfl) (fun _ _ _ h => h) (Or.inl ⟨by rfl, ?_⟩) (by assumption) ?_
  rotate_left
  ·
   intro wq hSw
   try dsimp only at hSw
   go_simp
   try (with_reducible rfl)
  try simp only [Act.put, sqa, sqb, sqc, sqd, sqe, sqf]
  refine wpAnyH_take (i := 2) (v := ?_) rfl (by kernel_rfl) (by kernel_rfl) (by kernel_rfl) (fun _ _ _ h => h) (Or.inl ⟨by rfl, ?_⟩) (by assumption) ?_
  rotate_left
  ·
   intro wq hSw
   try dsimp only at hSw
   go_simp
   try (with_reducible rfl)
  try simp only [Act.put, sqa, sqb, sqc, sqd, sqe, sqf]
  refine wpAnyH_take (i := 3) (v := ?_) rfl (by kernel_rfl) (by kernel_rfl) (by kernel_rfl) (fun _ _ _ h => h) (Or.inl ⟨by rfl, ?_⟩) (by assumption) ?_
  rotate_left
  ·
   intro wq hSw
   try dsimp only at hSw
   go_simp
   try (with_reducible rfl)
  try simp only [Act.put, sqa, sqb, sqc, sqd, sqe, sqf]
  refine wpAnyH_take (i := 4) (v := ?_) rfl (by kernel_rfl) (by kernel_rfl) (by kernel_rfl) (fun _ _ _ h => h) (Or.inl ⟨by rfl, ?_⟩) (by assumption) ?_
  rotate_left
  ·
   intro wq hSw
   try dsimp only at hSw
   go_simp
   try (with_reducible rfl)
  try simp only [Act.put, sqa, sqb, sqc, sqd, sqe, sqf]
  refine wpAnyH_take (i := 5) (v := ?_) rfl (by kernel_rfl) (by kernel_rfl) (by kernel_rfl) (fun _ _ _ h => h) (Or.inl ⟨by rfl, ?_⟩) (by assumption) ?_
  rotate_left
  ·
   intro wq hSw
   try dsimp only at hSw
   go_simp
   try (with_reducible rfl)
  try simp only [Act.put, sqa, sqb, sqc, sqd, sqe, sqf]
  refine wpAnyH_take (i := 6) (v := ?_) rfl (by kernel_rfl) (by kernel_rfl) (by kernel_rfl) (fun _ _ _ h => h) (Or.inl ⟨by rfl, ?_⟩) (by assumption) ?_
  rotate_left
  ·
   intro wq hSw
   try dsimp only at hSw
   go_simp
   try (with_reducible rfl)
  try simp only [Act.put, sqa, sqb, sqc, sqd, sqe, sqf]
  refine wpAnyH_take (i := 7) (v := ?_) rfl (by kernel_rfl) (by kernel_rfl) (by kernel_rfl) (fun _ _ _ h => h) (Or.inl ⟨by rfl, ?_⟩) (by assumption) ?_
  rotate_left
  ·
   intro wq hSw
   try dsimp only at hSw
   go_simp
   try (with_reducible rfl)
  try simp only [Act.put, sqa, sqb, sqc, sqd, sqe, sqf]
  refine wpAnyH_take (i := 9) (v := ?_) rfl (by kernel_rfl) (by kernel_rfl) (by kernel_rfl) (fun _ _ _ h => h) (Or.inl ⟨by rfl, ?_⟩) (by assumption) ?_
  rotate_left
  ·
   intro wq hSw
   try dsimp only at hSw
   go_simp
   try (with_reducible rfl)
  try simp only [Act.put, sqa, sqb, sqc, sqd, sqe, sqf]
  refine wpAnyH_take (i := 10) (v := ?_) rfl (by kernel_rfl) (by kernel_rfl) (by kernel_rfl) (fun _ _ _ h => h) (Or.inl ⟨by rfl, ?_⟩) (by assumption) ?_
  rotate_left
  ·
   intro wq hSw
   try dsimp only at hSw
   go_simp
   try (with_reducible rfl)
  try simp only [Act.put, sqa, sqb, sqc, sqd, sqe, sqf]
  generalize W.drew = WD at *
  refine wpAnyH_ready (rs := [8, 13]) (by kernel_rfl) (by simp) ?_
  refine AllReadyH.cons rfl (fun K0 hK => ?_) (AllReadyH.cons rfl (fun K0 hK => ?_) AllReadyH.nil)
  ·
   go_simp
   have hA := hid (show Below WD.heap.size WD (WD.alloc (.cells #[] 9)) from (Below.refl _ _).alloc (Nat.le_refl _) _)
   have kA := hid (show Blk (WD.alloc (.cells #[] 9)) WD.heap.size 9 #[] from Blk.new WD _ _)
   have H1 := hid (HD.out.trans (hA.out.mono HD.out.size))
   refine hK.out _ _ ?_ (fun hHeld => ?_)
   · exact HS.out _ H1.out
   clear hK K0
   generalize (WD.alloc (.cells #[] 9)) = W1 at *
   try simp only [Act.put, sqa, sqb, sqc, sqd, sqe, sqf]
   have HEM := hid (show W.heap.size ≤ W1.heap.size from H1.out.size)
   generalize WD.heap.size = E at *
   clear hA kA HEM
   refine wpAnyH_ready (rs := [11, 13]) (by kernel_rfl) (by simp) ?_
   refine AllReadyH.cons rfl (fun K0 hK => ?_) (AllReadyH.cons rfl (fun K0 hK => ?_) AllReadyH.nil)
   ·
    refine app_none ?_ (.tmp 14) (.tmp 16) ?_ (some ⟨E, 0, none⟩) 0 A' c' ?_ ?_ ?_
    · rfl
    · rfl
    · rfl
    · rfl
    refine hK.out _ _ ?_ (fun hHeld => ?_)
    · exact HS.out _ H1.out
    clear hK K0
    try simp only [Act.put, sqa, sqb, sqc, sqd, sqe, sqf]
    refine wpAnyH_take (i := 12) (v := ?_) rfl (by kernel_rfl) (by kernel_rfl) (by kernel_rfl) (fun _ _ _ h => h) (Or.inl ⟨by rfl, ?_⟩) (by assumption) ?_
    rotate_left
    ·
     intro wq hSw
     try dsimp only at hSw
     go_simp
     try (with_reducible rfl)
    try simp only [Act.put, sqa, sqb, sqc, sqd, sqe, sqf]
    refine wpAnyH_ready (rs := [13]) (by kernel_rfl) (by simp) ?_
    refine AllReadyH.cons rfl (fun K0 hK => ?_) AllReadyH.nil
    go_simp
    have hA := hid (show Below W1.heap.size W1 (W1.alloc (.cells #[.int .i64 0, .bool false, .int .i64 0, .string ⟨#[]⟩, .slice none 0 0, .slice none 0 0] 49)) from (Below.refl _ _).alloc (Nat.le_refl _) _)
    have kA := hid (show Blk (W1.alloc (.cells #[.int .i64 0, .bool false, .int .i64 0, .string ⟨#[]⟩, .slice none 0 0, .slice none 0 0] 49)) W1.heap.size 49 #[.int .i64 0, .bool false, .int .i64 0, .string ⟨#[]⟩, .slice none 0 0, .slice none 0 0] from Blk.new W1 _ _)
    have H2 := hid (H1.out.trans (hA.out.mono H1.out.size))
    refine hK.out _ _ ?_ (fun hHeld => ?_)
    · exact HS.out _ H2.out
    clear hK K0
    have HQ := hid H1.out.size
    have KQ := hid kA.out
    generalize (W1.alloc (.cells #[.int .i64 0, .bool false, .int .i64 0, .string ⟨#[]⟩, .slice none 0 0, .slice none 0 0] 49)) = W2 at *
    try simp only [Act.put, sqa, sqb, sqc, sqd, sqe, sqf]
    generalize W1.heap.size = Q at *
    clear hA kA
    have x0 := KQ.out.free 0
    have x1 := KQ.out.free 1
    have x2 := KQ.out.free 2
    have x3 := KQ.out.free 3
    have x4 := KQ.out.free 4
    have x5 := KQ.out.free 5
    have z0 := KQ.out.cell 0
    have z1 := KQ.out.cell 1
    have z2 := KQ.out.cell 2
    have z3 := KQ.out.cell 3
    have z4 := KQ.out.cell 4
    have z5 := KQ.out.cell 5
    refine wpAnyH_ready (rs := [14]) (by kernel_rfl) (by simp) ?_
    refine AllReadyH.cons rfl (fun K0 hK => ?_) AllReadyH.nil
    go_simp
    have HF := hid (put6_blk KQ.out (.int .i64 t.kind) (.bool t.tr) (.int .i64 t.num) (.string t.str) (.slice none 0 0) (.slice (some ⟨E, 0, none⟩) 0 0))
    have HFB := hid (show Below W.heap.size W ((((((W2.setCell ⟨Q, 0, none⟩ (.int .i64 t.kind)).setCell ⟨Q, 1, none⟩ (.bool t.tr)).setCell ⟨Q, 2, none⟩ (.int .i64 t.num)).setCell ⟨Q, 3, none⟩ (.string t.str)).setCell ⟨Q, 4, none⟩ (.slice none 0 0)).setCell ⟨Q, 5, none⟩ (.slice (some ⟨E, 0, none⟩) 0 0)) from ((((((H2.out.setCell HQ.out _).setCell HQ.out _).setCell HQ.out _).setCell HQ.out _).setCell HQ.out _).setCell HQ.out _))
    clear x0 x1 x2 x3 x4 x5 z0 z1 z2 z3 z4 z5
    generalize ((((((W2.setCell ⟨Q, 0, none⟩ (.int .i64 t.kind)).setCell ⟨Q, 1, none⟩ (.bool t.tr)).setCell ⟨Q, 2, none⟩ (.int .i64 t.num)).setCell ⟨Q, 3, none⟩ (.string t.str)).setCell ⟨Q, 4, none⟩ (.slice none 0 0)).setCell ⟨Q, 5, none⟩ (.slice (some ⟨E, 0, none⟩) 0 0)) = WF at *
    refine hK.out _ _ ?_ (fun hHeld => ?_)
    · exact HS.out _ HFB.out
    clear hK K0
    try simp only [Act.put, sqa, sqb, sqc, sqd, sqe, sqf]
    refine wpAnyH_done (by kernel_rfl) ?_ _
    go_wp2_with fail
    go_meet
    exact ⟨Q, _, _, rfl, HF.out, HFB.out⟩
   ·
    go_simp
    have hA := hid (show Below W1.heap.size W1 (W1.alloc (.cells #[.int .i64 0, .bool false, .int .i64 0, .string ⟨#[]⟩, .slice none 0 0, .slice none 0 0] 49)) from (Below.refl _ _).alloc (Nat.le_refl _) _)
    have kA := hid (show Blk (W1.alloc (.cells #[.int .i64 0, .bool false, .int .i64 0, .string ⟨#[]⟩, .slice none 0 0, .slice none 0 0] 49)) W1.heap.size 49 #[.int .i64 0, .bool false, .int .i64 0, .string ⟨#[]⟩, .slice none 0 0, .slice none 0 0] from Blk.new W1 _ _)
    have H2 := hid (H1.out.trans (hA.out.mono H1.out.size))
    refine hK.out _ _ ?_ (fun hHeld => ?_)
    · exact HS.out _ H2.out
    clear hK K0
    have HQ := hid H1.out.size
    have KQ := hid kA.out
    generalize (W1.alloc (.cells #[.int .i64 0, .bool false, .int .i64 0, .string ⟨#[]⟩, .slice none 0 0, .slice none 0 0] 49)) = W2 at *
    try simp only [Act.put, sqa, sqb, sqc, sqd, sqe, sqf]
    generalize W1.heap.size = Q at *
    clear hA kA
    refine wpAnyH_ready (rs := [11]) (by kernel_rfl) (by simp) ?_
    refine AllReadyH.cons rfl (fun K0 hK => ?_) AllReadyH.nil
    refine app_none ?_ (.tmp 14) (.tmp 16) ?_ (some ⟨E, 0, none⟩) 0 A' c' ?_ ?_ ?_
    · rfl
    · rfl
    · rfl
    · rfl
    refine hK.out _ _ ?_ (fun hHeld => ?_)
    · exact HS.out _ H2.out
    clear hK K0
    try simp only [Act.put, sqa, sqb, sqc, sqd, sqe, sqf]
    refine wpAnyH_take (i := 12) (v := ?_) rfl (by kernel_rfl) (by kernel_rfl) (by kernel_rfl) (fun _ _ _ h => h) (Or.inl ⟨by rfl, ?_⟩) (by assumption) ?_
    rotate_left
    ·
     intro wq hSw
     try dsimp only at hSw
     go_simp
     try (with_reducible rfl)
    try simp only [Act.put, sqa, sqb, sqc, sqd, sqe, sqf]
    have x0 := KQ.out.free 0
    have x1 := KQ.out.free 1
    have x2 := KQ.out.free 2
    have x3 := KQ.out.free 3
    have x4 := KQ.out.free 4
    have x5 := KQ.out.free 5
    have z0 := KQ.out.cell 0
    have z1 := KQ.out.cell 1
    have z2 := KQ.out.cell 2
    have z3 := KQ.out.cell 3
    have z4 := KQ.out.cell 4
    have z5 := KQ.out.cell 5
    refine wpAnyH_ready (rs := [14]) (by kernel_rfl) (by simp) ?_
    refine AllReadyH.cons rfl (fun K0 hK => ?_) AllReadyH.nil
    go_simp
    have HF := hid (put6_blk KQ.out (.int .i64 t.kind) (.bool t.tr) (.int .i64 t.num) (.string t.str) (.slice none 0 0) (.slice (some ⟨E, 0, none⟩) 0 0))
    have HFB := hid (show Below W.heap.size W ((((((W2.setCell ⟨Q, 0, none⟩ (.int .i64 t.kind)).setCell ⟨Q, 1, none⟩ (.bool t.tr)).setCell ⟨Q, 2, none⟩ (.int .i64 t.num)).setCell ⟨Q, 3, none⟩ (.string t.str)).setCell ⟨Q, 4, none⟩ (.slice none 0 0)).setCell ⟨Q, 5, none⟩ (.slice (some ⟨E, 0, none⟩) 0 0)) from ((((((H2.out.setCell HQ.out _).setCell HQ.out _).setCell HQ.out _).setCell HQ.out _).setCell HQ.out _).setCell HQ.out _))
    clear x0 x1 x2 x3 x4 x5 z0 z1 z2 z3 z4 z5
    generalize ((((((W2.setCell ⟨Q, 0, none⟩ (.int .i64 t.kind)).setCell ⟨Q, 1, none⟩ (.bool t.tr)).setCell ⟨Q, 2, none⟩ (.int .i64 t.num)).setCell ⟨Q, 3, none⟩ (.string t.str)).setCell ⟨Q, 4, none⟩ (.slice none 0 0)).setCell ⟨Q, 5, none⟩ (.slice (some ⟨E, 0, none⟩) 0 0)) = WF at *
    refine hK.out _ _ ?_ (fun hHeld => ?_)
    · exact HS.out _ HFB.out
    clear hK K0
    try simp only [Act.put, sqa, sqb, sqc, sqd, sqe, sqf]
    refine wpAnyH_done (by kernel_rfl) ?_ _
    go_wp2_with fail
    go_meet
    exact ⟨Q, _, _, rfl, HF.out, HFB.out⟩
  ·
   go_simp
   have hA := hid (show Below WD.heap.size WD (WD.alloc (.cells #[.int .i64 0, .bool false, .int .i64 0, .string ⟨#[]⟩, .slice none 0 0, .slice none 0 0] 49)) from (Below.refl _ _).alloc (Nat.le_refl _) _)
   have kA := hid (show Blk (WD.alloc (.cells #[.int .i64 0, .bool false, .int .i64 0, .string ⟨#[]⟩, .slice none 0 0, .slice none 0 0] 49)) WD.heap.size 49 #[.int .i64 0, .bool false, .int .i64 0, .string ⟨#[]⟩, .slice none 0 0, .slice none 0 0] from Blk.new WD _ _)
   have H1 := hid (HD.out.trans (hA.out.mono HD.out.size))
   refine hK.out _ _ ?_ (fun hHeld => ?_)
   · exact HS.out _ H1.out
   clear hK K0
   have HQ := hid HD.out.size
   have KQ := hid kA.out
   generalize (WD.alloc (.cells #[.int .i64 0, .bool false, .int .i64 0, .string ⟨#[]⟩, .slice none 0 0, .slice none 0 0] 49)) = W1 at *
   try simp only [Act.put, sqa, sqb, sqc, sqd, sqe, sqf]
   generalize WD.heap.size = Q at *
   clear hA kA
   refine wpAnyH_ready (rs := [8]) (by kernel_rfl) (by simp) ?_
   refine AllReadyH.cons rfl (fun K0 hK => ?_) AllReadyH.nil
   go_simp
   have hA := hid (show Below W1.heap.size W1 (W1.alloc (.cells #[] 9)) from (Below.refl _ _).alloc (Nat.le_refl _) _)
   have kA := hid (show Blk (W1.alloc (.cells #[] 9)) W1.heap.size 9 #[] from Blk.new W1 _ _)
   have H2 := hid (H1.out.trans (hA.out.mono H1.out.size))
   refine hK.out _ _ ?_ (fun hHeld => ?_)
   · exact HS.out _ H2.out
   clear hK K0
   have KQ2 := hid (KQ.out.onto hA.out)
   generalize (W1.alloc (.cells #[] 9)) = W2 at *
   try simp only [Act.put, sqa, sqb, sqc, sqd, sqe, sqf]
   generalize W1.heap.size = E at *
   clear hA kA
   refine wpAnyH_ready (rs := [11]) (by kernel_rfl) (by simp) ?_
   refine AllReadyH.cons rfl (fun K0 hK => ?_) AllReadyH.nil
   refine app_none ?_ (.tmp 14) (.tmp 16) ?_ (some ⟨E, 0, none⟩) 0 A' c' ?_ ?_ ?_
   · rfl
   · rfl
   · rfl
   · rfl
   refine hK.out _ _ ?_ (fun hHeld => ?_)
   · exact HS.out _ H2.out
   clear hK K0
   try simp only [Act.put, sqa, sqb, sqc, sqd, sqe, sqf]
   refine wpAnyH_take (i := 12) (v := ?_) rfl (by kernel_rfl) (by kernel_rfl) (by kernel_rfl) (fun _ _ _ h => h) (Or.inl ⟨by rfl, ?_⟩) (by assumption) ?_
   rotate_left
   ·
    intro wq hSw
    try dsimp only at hSw
    go_simp
    try (with_reducible rfl)
   try simp only [Act.put, sqa, sqb, sqc, sqd, sqe, sqf]
   have x0 := KQ2.out.free 0
   have x1 := KQ2.out.free 1
   have x2 := KQ2.out.free 2
   have x3 := KQ2.out.free 3
   have x4 := KQ2.out.free 4
   have x5 := KQ2.out.free 5
   have z0 := KQ2.out.cell 0
   have z1 := KQ2.out.cell 1
   have z2 := KQ2.out.cell 2
   have z3 := KQ2.out.cell 3
   have z4 := KQ2.out.cell 4
   have z5 := KQ2.out.cell 5
   refine wpAnyH_ready (rs := [14]) (by kernel_rfl) (by simp) ?_
   refine AllReadyH.cons rfl (fun K0 hK => ?_) AllReadyH.nil
   go_simp
   have HF := hid (put6_blk KQ2.out (.int .i64 t.kind) (.bool t.tr) (.int .i64 t.num) (.string t.str) (.slice none 0 0) (.slice (some ⟨E, 0, none⟩) 0 0))
   have HFB := hid (show Below W.heap.size W ((((((W2.setCell ⟨Q, 0, none⟩ (.int .i64 t.kind)).setCell ⟨Q, 1, none⟩ (.bool t.tr)).setCell ⟨Q, 2, none⟩ (.int .i64 t.num)).setCell ⟨Q, 3, none⟩ (.string t.str)).setCell ⟨Q, 4, none⟩ (.slice none 0 0)).setCell ⟨Q, 5, none⟩ (.slice (some ⟨E, 0, none⟩) 0 0)) from ((((((H2.out.setCell HQ.out _).setCell HQ.out _).setCell HQ.out _).setCell HQ.out _).setCell HQ.out _).setCell HQ.out _))
   clear x0 x1 x2 x3 x4 x5 z0 z1 z2 z3 z4 z5
   generalize ((((((W2.setCell ⟨Q, 0, none⟩ (.int .i64 t.kind)).setCell ⟨Q, 1, none⟩ (.bool t.tr)).setCell ⟨Q, 2, none⟩ (.int .i64 t.num)).setCell ⟨Q, 3, none⟩ (.string t.str)).setCell ⟨Q, 4, none⟩ (.slice none 0 0)).setCell ⟨Q, 5, none⟩ (.slice (some ⟨E, 0, none⟩) 0 0)) = WF at *
   refine hK.out _ _ ?_ (fun hHeld => ?_)
   · exact HS.out _ HFB.out
   clear hK K0
   try simp only [Act.put, sqa, sqb, sqc, sqd, sqe, sqf]
   refine wpAnyH_done (by kernel_rfl) ?_ _
   go_wp2_with fail
   go_meet
   exact ⟨Q, _, _, rfl, HF.out, HFB.out⟩
 case rest =>
  obtain ⟨Q, K, k, rfl, kq, hbw⟩ := hcut
  have hB2 := HB.out.onto hbw
  have a4 := (HA.out.onto hbw).cell 4
  have HB2 := hid hB2
  have HQ := hid kq
  have HW2 := hid (HW.out.trans (hbw.mono (by have := HW.out.size; rw [HG.out] at this; omega)))
  clear hB2 kq hbw
  go_wp2_with fail
  clear a4
  go_loopw [22] (fun x wr => x = .int .i64 0 ∧ wr = wc) (fun _ _ => 0)
  case atStart => exact ⟨rfl, rfl⟩
  case round =>
   obtain ⟨rfl, rfl⟩ := hrel
   have c0 := HQ.out.cell 0
   have r0 := HB2.out.cell 0
   have x0 := HB2.out.free 0
   have c1 := HQ.out.cell 1
   have r1 := HB2.out.cell 1
   have x1 := HB2.out.free 1
   have c2 := HQ.out.cell 2
   have r2 := HB2.out.cell 2
   have x2 := HB2.out.free 2
   have c3 := HQ.out.cell 3
   have r3 := HB2.out.cell 3
   have x3 := HB2.out.free 3
   have c4 := HQ.out.cell 4
   have r4 := HB2.out.cell 4
   have x4 := HB2.out.free 4
   have c5 := HQ.out.cell 5
   have r5 := HB2.out.cell 5
   have x5 := HB2.out.free 5
   go_wp2_with fail
   refine bodyPost_ret (v := .agg #[.int .i64 t.kind, .bool t.tr, .int .i64 t.num, .string t.str, .slice none 0 0, .slice K 0 k]) (by simp [results, Tryz.results20, go_sem, r0, r1, r2, r3, r4, r5]) rfl ⟨K, k, rfl, ?_⟩
   have hq : w.heap.size ≤ g + 1 := by rw [HG.out]; exact Nat.le_succ _
   have h3 : Below w.heap.size w wr := by rw [HG.out]; exact HW2.out
   exact (((((h3.setCell hq _).setCell hq _).setCell hq _).setCell hq _).setCell hq _).setCell hq _
open Go.RowKit
open Tk Ex
theorem infoXE : (Tryz.prog.info? 52).map (fun i => (i.zero, i.size, i.bytes)) = some (some (.agg #[.string ⟨#[]⟩, .string ⟨#[]⟩, .int .i64 0, .bool false, .int .i64 0, .string ⟨#[]⟩, .slice none 0 0, .slice none 0 0, .slice none 0 0]), 9, 144) := by kernel_rfl
def RowX (w : World) (base : Nat) (v : Value) (l : List (E × Hd)) : Prop := w.ownsRow base 52 9 v l.length (flat9 l)
theorem RowX.nil (w : World) (base : Nat) : RowX w base (.slice none 0 0) [] := World.ownsRow_nil _ _ _ _
theorem RowX.below {w w' : World} {base : Nat} {v : Value} {l : List (E × Hd)} (h : RowX w base v l) (hb : Below w.heap.size w w') : RowX w' base v l :=
 World.ownsRow.kept h (row := none) ⟨hb.os, hb.tape, hb.output, hb.size, fun k hk hn => hb.block k hk⟩ (by
  cases hv : v.ownBlock with
  | none => exact .inl rfl
  | some k => exact .inr (by simp))
theorem RowX.other {w w' : World} {base g : Nat} {v : Value} {l : List (E × Hd)} (h : RowX w base v l) (ha : Aside g w w') (hg : v.ownBlock ≠ some g) : RowX w' base v l :=
 World.ownsRow.kept h (row := some g) ⟨ha.os, ha.tape, ha.output, ha.size, fun k hk hn => ha.block k hk (by intro e; exact hn (by rw [e]))⟩ (by
  cases hv : v.ownBlock with
  | none => exact .inl rfl
  | some k => exact .inr (by rw [hv] at hg; exact hg))
theorem RowX.shape {w : World} {base : Nat} {v : Value} {l : List (E × Hd)} (h : RowX w base v l) : ∃ A c, v = .slice A l.length c ∧ l.length ≤ c := by
 rcases h.2 with ⟨rfl, h0⟩ | ⟨g, cap, cur, rfl, hb, hh, hle, hm, hs, ht⟩
 · exact ⟨none, 0, by rw [h0], by omega⟩
 · exact ⟨_, _, rfl, hle⟩
theorem RowX.cells {w : World} {base : Nat} {A : Option Addr} {n c : Nat} {l : List (E × Hd)} (h : RowX w base (.slice A n c) l) (hn : l ≠ []) :
 ∃ b, A = some ⟨b, 0, none⟩ ∧ base ≤ b ∧ b < w.heap.size ∧ ∀ i x, l[i]? = some x → Nine w b (0 + i * 9) x.1 x.2 := by
 rcases h.2 with ⟨_, h0⟩ | ⟨g, cap, cur, he, hb, hh, hle, hm, hs, ht⟩
 · exact absurd (List.eq_nil_of_length_eq_zero h0) hn
 ·
  injection he with e1 e2 e3
  refine ⟨g, e1, hb, (Array.getElem?_eq_some_iff.1 hh).1, fun i x hx => ?_⟩
  have hi := (List.getElem?_eq_some_iff.1 hx).1
  have key : ∀ j, j < 9 → w.cell? ⟨g, 0 + i * 9 + j, none⟩ = (e9 x)[j]? := by
   intro j hj
   rw [cell_of_row w g _ cur 52 _ hh, ← flat9_get l i x j hx hj, ← ht, List.getElem?_take_of_lt (by omega), Array.getElem?_toList, Nat.zero_add]
  exact ⟨key 0 (by omega), key 1 (by omega), ⟨key 2 (by omega), key 3 (by omega), key 4 (by omega), key 5 (by omega), key 6 (by omega), key 7 (by omega)⟩, key 8 (by omega)⟩
theorem grownX {wA w4 w5 : World} {base : Nat} {y : E} {q : Hd} {l : List (E × Hd)} {v v' : Value} (hrow : RowX wA base v l) (hl : EVs wA (fun k => base ≤ k ∧ k < wA.heap.size ∧ some k ≠ v.ownBlock) l) (hb : Below wA.heap.size wA w4) (hbw : base ≤ wA.heap.size)
 (hy : EV w4 (fun k => wA.heap.size ≤ k ∧ k < w4.heap.size) y q) (hg : w4.grownBy w5 v.ownBlock) (ho : v'.ownBlock = v.ownBlock ∨ v'.ownBlock = some (w4.heap.size + 1)) :
 EVs w5 (fun k => base ≤ k ∧ k < w5.heap.size ∧ some k ≠ v'.ownBlock) (l ++ [(y, q)]) := by
 have key : ∀ k, k < w4.heap.size → some k ≠ v.ownBlock → some k ≠ v'.ownBlock := by
  intro k h1 h2
  rcases ho with h | h
  · rw [h]; exact h2
  · rw [h]; intro e; injection e with e; omega
 intro x hx
 rcases List.mem_append.1 hx with hx | hx
 · exact (((hl x hx).keep fun k hk => hb.block k hk.2.1).keep fun k hk => hg.block k (Nat.lt_of_lt_of_le hk.2.1 hb.size) hk.2.2).wide fun k hk => ⟨hk.1, Nat.lt_of_lt_of_le hk.2.1 (Nat.le_trans hb.size hg.size), key k (Nat.lt_of_lt_of_le hk.2.1 hb.size) hk.2.2⟩
 ·
  obtain rfl := List.mem_singleton.1 hx
  have hne : ∀ k, wA.heap.size ≤ k → some k ≠ v.ownBlock := by
   intro k hk e
   have := (World.ownsRow.lt hrow k e.symm).2
   omega
  exact (hy.keep fun k hk => hg.block k hk.2 (hne k hk.1)).wide fun k hk => ⟨by omega, Nat.lt_of_lt_of_le hk.2 hg.size, key k hk.2 (hne k hk.1)⟩
theorem EV.ofRowX {w : World} {base n c cL cM : Nat} {A L M : Option Addr} {l : List (E × Hd)} {o m : ByteArray} {t : T} (h1 : t.items = []) (h2 : t.keys = []) (hrow : RowX w base (.slice A n c) l) (hl : EVs w (fun k => base ≤ k ∧ k < w.heap.size ∧ some k ≠ (Value.slice A n c).ownBlock) l) (hc : l.length ≤ c) :
 EV w (fun k => base ≤ k ∧ k < w.heap.size) (.mk o m t (l.map (·.1))) ⟨L, cL, M, cM, A, c⟩ := by
 refine EV.of (TV.of (by rw [show (E.mk o m t (l.map (·.1))).lit = t from rfl, h1]; exact Nat.zero_le _) (by rw [show (E.mk o m t (l.map (·.1))).lit = t from rfl, h2]; exact Nat.zero_le _) (fun h => absurd h1 h) (by rw [show (E.mk o m t (l.map (·.1))).lit = t from rfl, h2]; exact SReads.none_ _ _ _)) (by show (l.map (·.1)).length ≤ c; rw [List.length_map]; exact hc) (fun hn => ?_)
 have hn' : l ≠ [] := by intro e; subst e; exact hn rfl
 obtain ⟨b, e1, h1, h2, h9⟩ := hrow.cells hn'
 refine ⟨b, 0, e1, ⟨h1, h2⟩, fun i x hx => ?_⟩
 have hx' : (l.map (·.1))[i]? = some x := hx
 rw [List.getElem?_map] at hx'
 cases hq : l[i]? with
 | none => rw [hq] at hx'; cases hx'
 | some z =>
  rw [hq] at hx'
  injection hx' with hx'
  subst hx'
  exact ⟨z.2, h9 i z hq, (hl z (List.mem_of_getElem? hq)).wide fun k hk => ⟨hk.1, hk.2.1⟩⟩
open Go.RowKit
open Tk Ex
theorem app_xS {ops : Array Oper} {o : Oper} {a : Act} {K : Act → World → Prop} {Q : Exit → Act → World → Prop} {E0 : Prop} {w : World} (hgd : o.guard = none) (s x : Operand)
 (ho : o.op = .call { callee := .builtin .append, args := #[s, x], argTypes := #[50, 50] })
 (base : Nat) (v : Value) (l : List (E × Hd)) (y : E) (q : Hd) (hs : a.eval s = v) (hx : a.eval x = .slice (some ⟨w.heap.size, 0, none⟩) 1 1)
 (hown : RowX w base v l) (hn : l.length ≤ 100000) (hbase : base ≤ w.heap.size)
 (h : ∀ (v' : Value) (w' : World), RowX w' base v' (l ++ [(y, q)]) → (∀ W, Below base W w → Below base W w') → w.grownBy w' v.ownBlock → (v'.ownBlock = v.ownBlock ∨ v'.ownBlock = some (w.heap.size + 1)) → K (a.put o.dst v') w') :
 if Region.wanted o (yielded ops a.tmps) = true then Oper.wp Tryz.prog o a (w.alloc (.cells #[.string y.op, .string y.name, .int .i64 y.lit.kind, .bool y.lit.tr, .int .i64 y.lit.num, .string y.lit.str, .slice q.L y.lit.items.length q.l, .slice q.L' y.lit.keys.length q.l', .slice q.A y.args.length q.c] 52)) K Q else E0 := by
 have hw : Region.wanted o (yielded ops a.tmps) = true := by simp [Region.wanted, hgd]
 rw [if_pos hw]
 obtain ⟨i0, hi, hz0, hz1, hz2⟩ := info_of infoXE
 unfold RowX at hown
 obtain ⟨v', w', hr, h1, h2, _, h5⟩ := run_append_own_at (P := Tryz.prog) (w := w.alloc (.cells #[.string y.op, .string y.name, .int .i64 y.lit.kind, .bool y.lit.tr, .int .i64 y.lit.num, .string y.lit.str, .slice q.L y.lit.items.length q.l, .slice q.L' y.lit.keys.length q.l', .slice q.A y.args.length q.c] 52)) base 50 o.type 52 i0 _ 9 144 Tryz.underlying50 hi hz0 hz1 hz2 rfl (by decide) v _ _ (hown.alloc _) ⟨w.heap.size, 0, none⟩ 1 1 (e9 (y, q)) rfl (by
  intro j u hu
  have hadd : (⟨w.heap.size, 0, none⟩ : Addr).add j = ⟨w.heap.size, j, none⟩ := by unfold Addr.add; split <;> simp_all
  rw [hadd, cell_of_row _ _ j _ 52 (0, 0) (heap_alloc_new w _), ← hu, ← Array.getElem?_toList]
  rfl) (by intro u hu; simp [e9] at hu; rcases hu with h | h | h | h | h | h | h | h | h <;> subst h <;> rfl) (by unfold maxLen; omega) (by omega) (by simp; omega)
 unfold Oper.wp execOp
 simp only [ho, resolve, invoke, builtin, Sem.run_bind, Sem.run_pure, Result.andThen_ok, List.map_toArray, List.map_cons, List.map_nil, hs, hx, hr]
 refine h v' w' ?_ (fun W hW => ?_) ?_ ?_
 · unfold RowX; rw [List.length_append, flat9_app]; exact h1
 · exact (hW.alloc hbase _).grown h2 (by simp; omega) (fun k hk => (hown.lt k hk).1)
 · exact ⟨h2.os, h2.tape, h2.output, Nat.le_trans (by simp) h2.size, fun k hk hne => (h2.block k (by simp; omega) hne).trans (heap_alloc_old w _ hk)⟩
 · simpa using h5
theorem take_argsX {l : List E} {k : Nat} {x : E} (h : l[k]? = some x) : l.take (k + 1) = l.take k ++ [x] := by
 rw [List.take_add_one, h]; rfl
theorem l8real_step (o n : ByteArray) (t : T) (l : List E) (hit : t.items = []) (hkt : t.keys = []) (hlen : l.length ≤ 100000) (ih : ∀ x ∈ l, ∀ (q2 : Hd) (w : World) (S : Nat → Prop), (∀ j, S j → j < w.heap.size) → EV w S x q2 → Calls Tryz.prog 9 #[.agg #[.string x.op, .string x.name, .int .i64 x.lit.kind, .bool x.lit.tr, .int .i64 x.lit.num, .string x.lit.str, .slice q2.L x.lit.items.length q2.l, .slice q2.L' x.lit.keys.length q2.l', .slice q2.A x.args.length q2.c]] w fun en w' => ∃ K2 k2 P2 p2, en = .returned (.agg #[.string x.op, .string x.name, .int .i64 x.lit.kind, .bool x.lit.tr, .int .i64 x.lit.num, .string x.lit.str, .slice none x.lit.items.length 0, .slice K2 x.lit.keys.length k2, .slice P2 x.args.length p2]) ∧ EV w' (fun j => w.heap.size ≤ j ∧ j < w'.heap.size) x ⟨none, 0, K2, k2, P2, p2⟩ ∧ Below w.heap.size w w')
 (A : Option Addr) (c : Nat) (A' : Option Addr) (c' : Nat) (P : Option Addr) (q : Nat) (w : World) (S : Nat → Prop) (hS : ∀ j, S j → j < w.heap.size) (hev : EV w S (.mk o n t l) ⟨A, c, A', c', P, q⟩) :
 Calls Tryz.prog 9 #[.agg #[.string o, .string n, .int .i64 t.kind, .bool t.tr, .int .i64 t.num, .string t.str, .slice A 0 c, .slice A' 0 c', .slice P l.length q]] w fun en w' => ∃ K' k' P2 p2, en = .returned (.agg #[.string o, .string n, .int .i64 t.kind, .bool t.tr, .int .i64 t.num, .string t.str, .slice none 0 0, .slice K' 0 k', .slice P2 l.length p2]) ∧ EV w' (fun j => w.heap.size ≤ j ∧ j < w'.heap.size) (.mk o n t l) ⟨none, 0, K', k', P2, p2⟩ ∧ Below w.heap.size w w' := by
 have HIH := hid ih
 have HE := hid hev
 have HS := hid hS
 have HIT := hid hit
 have HKT := hid hkt
 clear ih hev hS hit hkt
 go_enter Tryz.func9, Tryz.ntmps9
 go_upto_region 1 with fail
 have hW : Below w.heap.size w ((w.alloc (.cells #[.string o, .string n, .int .i64 t.kind, .bool t.tr, .int .i64 t.num, .string t.str, .slice A 0 c, .slice A' 0 c', .slice P l.length q] 30)).alloc (.cells #[.string ⟨#[]⟩, .string ⟨#[]⟩, .int .i64 0, .bool false, .int .i64 0, .string ⟨#[]⟩, .slice none 0 0, .slice none 0 0, .slice none 0 0] 52)) := ((Below.refl _ _).alloc (Nat.le_refl _) _).alloc (by simp) _
 have kA : Blk ((w.alloc (.cells #[.string o, .string n, .int .i64 t.kind, .bool t.tr, .int .i64 t.num, .string t.str, .slice A 0 c, .slice A' 0 c', .slice P l.length q] 30)).alloc (.cells #[.string ⟨#[]⟩, .string ⟨#[]⟩, .int .i64 0, .bool false, .int .i64 0, .string ⟨#[]⟩, .slice none 0 0, .slice none 0 0, .slice none 0 0] 52)) w.heap.size 30 #[.string o, .string n, .int .i64 t.kind, .bool t.tr, .int .i64 t.num, .string t.str, .slice A 0 c, .slice A' 0 c', .slice P l.length q] := (Blk.new w _ _).alloc _
 have kB : Blk ((w.alloc (.cells #[.string o, .string n, .int .i64 t.kind, .bool t.tr, .int .i64 t.num, .string t.str, .slice A 0 c, .slice A' 0 c', .slice P l.length q] 30)).alloc (.cells #[.string ⟨#[]⟩, .string ⟨#[]⟩, .int .i64 0, .bool false, .int .i64 0, .string ⟨#[]⟩, .slice none 0 0, .slice none 0 0, .slice none 0 0] 52)) (w.heap.size + 1) 52 nul9 := by
  have := Blk.new (w.alloc (.cells #[.string o, .string n, .int .i64 t.kind, .bool t.tr, .int .i64 t.num, .string t.str, .slice A 0 c, .slice A' 0 c', .slice P l.length q] 30)) 52 nul9
  simpa [nul9] using this
 change Code.wp _ _ _ _ ((w.alloc (.cells #[.string o, .string n, .int .i64 t.kind, .bool t.tr, .int .i64 t.num, .string t.str, .slice A 0 c, .slice A' 0 c', .slice P l.length q] 30)).alloc (.cells #[.string ⟨#[]⟩, .string ⟨#[]⟩, .int .i64 0, .bool false, .int .i64 0, .string ⟨#[]⟩, .slice none 0 0, .slice none 0 0, .slice none 0 0] 52))
 generalize ((w.alloc (.cells #[.string o, .string n, .int .i64 t.kind, .bool t.tr, .int .i64 t.num, .string t.str, .slice A 0 c, .slice A' 0 c', .slice P l.length q] 30)).alloc (.cells #[.string ⟨#[]⟩, .string ⟨#[]⟩, .int .i64 0, .bool false, .int .i64 0, .string ⟨#[]⟩, .slice none 0 0, .slice none 0 0, .slice none 0 0] 52)) = W at *
 have HW := hid hW
 have HA := hid kA
 have HB := hid kB
 have hs := hW.size
 have HSS := hid (show ∀ w', Below W.heap.size W w' → (w'.cell? ⟨w.heap.size, 0, none⟩ = some (.string o) ∧ w'.cell? ⟨w.heap.size, 1, none⟩ = some (.string n) ∧ w'.cell? ⟨w.heap.size, 2, none⟩ = some (.int .i64 t.kind) ∧ w'.cell? ⟨w.heap.size, 3, none⟩ = some (.bool t.tr) ∧ w'.cell? ⟨w.heap.size, 4, none⟩ = some (.int .i64 t.num) ∧ w'.cell? ⟨w.heap.size, 5, none⟩ = some (.string t.str) ∧ w'.cell? ⟨w.heap.size, 6, none⟩ = some (.slice A 0 c) ∧ w'.cell? ⟨w.heap.size, 7, none⟩ = some (.slice A' 0 c')) from fun w' hb => by
  have k := kA.onto hb
  exact ⟨k.cell 0, k.cell 1, k.cell 2, k.cell 3, k.cell 4, k.cell 5, k.cell 6, k.cell 7⟩)
 have hgs := kA.lt
 have hgB := kB.lt
 generalize hg : w.heap.size = g at *
 have HG := hid hg
 clear hW kA kB hg
 refine wp_region_held_drew (S := fun w' => (w'.cell? ⟨g, 0, none⟩ = some (.string o) ∧ w'.cell? ⟨g, 1, none⟩ = some (.string n) ∧ w'.cell? ⟨g, 2, none⟩ = some (.int .i64 t.kind) ∧ w'.cell? ⟨g, 3, none⟩ = some (.bool t.tr) ∧ w'.cell? ⟨g, 4, none⟩ = some (.int .i64 t.num) ∧ w'.cell? ⟨g, 5, none⟩ = some (.string t.str) ∧ w'.cell? ⟨g, 6, none⟩ = some (.slice A 0 c) ∧ w'.cell? ⟨g, 7, none⟩ = some (.slice A' 0 c'))) (by kernel_rfl) ?_ (fun hHeld => ?_)
 · exact HSS.out _ (Below.refl _ _).drew
 refine wpAnyH_take (i := 0) (v := ?_) rfl (by kernel_rfl) (by kernel_rfl) (by kernel_rfl) (fun _ _ _ h => h) (Or.inl ⟨by rfl, ?_⟩) (by assumption) ?_
 rotate_left
 ·
  intro wq hSw
  try dsimp only at hSw
  go_simp
  try (with_reducible rfl)
 try simp only [Act.put, List.getElem_toArray, List.getElem_cons_zero, List.setIfInBounds_toArray, List.set_cons_zero, List.set_cons_succ]
 refine wpAnyH_take (i := 1) (v := ?_) rfl (by kernel_rfl) (by kernel_rfl) (by kernel_rfl) (fun _ _ _ h => h) (Or.inl ⟨by rfl, ?_⟩) (by assumption) ?_
 rotate_left
 ·
  intro wq hSw
  try dsimp only at hSw
  go_simp
  try (with_reducible rfl)
 try simp only [Act.put, sqa, sqb, sqc, sqd, sqe, sqf]
 refine wpAnyH_take (i := 2) (v := ?_) rfl (by kernel_rfl) (by kernel_rfl) (by kernel_rfl) (fun _ _ _ h => h) (Or.inl ⟨by rfl, ?_⟩) (by assumption) ?_
 rotate_left
 ·
  intro wq hSw
  try dsimp only at hSw
  go_simp
  try (with_reducible rfl)
 try simp only [Act.put, sqa, sqb, sqc, sqd, sqe, sqf]
 refine wpAnyH_take (i := 3) (v := ?_) rfl (by kernel_rfl) (by kernel_rfl) (by kernel_rfl) (fun _ _ _ h => h) (Or.inl ⟨by rfl, ?_⟩) (by assumption) ?_
 rotate_left
 ·
  intro wq hSw
  try dsimp only at hSw
  go_simp
  try (with_reducible rfl)
 try simp only [Act.put, sqa, sqb, sqc, sqd, sqe, sqf]
 refine wpAnyH_take (i := 4) (v := ?_) rfl (by kernel_rfl) (by kernel_rfl) (by kernel_rfl) (fun _ _ _ h => h) (Or.inl ⟨by rfl, ?_⟩) (by assumption) ?_
 rotate_left
 ·
  intro wq hSw
  try dsimp only at hSw
  go_simp
  try (with_reducible rfl)
 try simp only [Act.put, sqa, sqb, sqc, sqd, sqe, sqf]
 refine wpAnyH_take (i := 5) (v := ?_) rfl (by kernel_rfl) (by kernel_rfl) (by kernel_rfl) (fun _ _ _ h => h) (Or.inl ⟨by rfl, ?_⟩) (by assumption) ?_
 rotate_left
 ·
  intro wq hSw
  try dsimp only at hSw
  go_simp
  try (with_reducible rfl)
 try simp only [Act.put, sqa, sqb, sqc, sqd, sqe, sqf]
 have HD := hid (show Below W.heap.size W W.drew from (Below.refl _ _).drew)
 refine wpAnyH_ready (rs := [6, 8]) (by kernel_rfl) (by simp) ?_
 refine AllReadyH.cons rfl (fun K0 hK => ?_) (AllReadyH.cons rfl (fun K0 hK => ?_) AllReadyH.nil)
 go_simp
 refine (real_leafT t A c A' c' _).mono ?_
 rintro e w2 ⟨K', k', rfl, hb2⟩
 have H2 := hid (HD.out.trans hb2)
 clear hb2
 go_wp2_with fail
 refine hK.out _ _ ?_ (fun hHeld => ?_)
 · exact HSS.out _ H2.out
 clear hK K0
 try simp only [Act.put, sqa, sqb, sqc, sqd, sqe, sqf]
 refine wpAnyH_take (i := 7) (v := ?_) rfl (by kernel_rfl) (by kernel_rfl) (by kernel_rfl) (fun _ _ _ h => h) (Or.inl ⟨by rfl, ?_⟩) (by assumption) ?_
 rotate_left
 ·
  intro wq hSw
  try dsimp only at hSw
  go_simp
  try (with_reducible rfl)
 try simp only [Act.put, sqa, sqb, sqc, sqd, sqe, sqf]
 refine wpAnyH_ready (rs := [8]) (by kernel_rfl) (by simp) ?_
 refine AllReadyH.cons rfl (fun K0 hK => ?_) AllReadyH.nil
 go_simp
 have H3 := hid (show Below W.heap.size W (w2.alloc (.cells #[.string ⟨#[]⟩, .string ⟨#[]⟩, .int .i64 0, .bool false, .int .i64 0, .string ⟨#[]⟩, .slice none 0 0, .slice none 0 0, .slice none 0 0] 52)) from H2.out.alloc H2.out.size _)
 have K3 := hid (show Blk (w2.alloc (.cells #[.string ⟨#[]⟩, .string ⟨#[]⟩, .int .i64 0, .bool false, .int .i64 0, .string ⟨#[]⟩, .slice none 0 0, .slice none 0 0, .slice none 0 0] 52)) w2.heap.size 52 nul9 from Blk.new w2 _ _)
 have HQ := hid (show W.heap.size ≤ w2.heap.size from H2.out.size)
 refine hK.out _ _ ?_ (fun hHeld => ?_)
 · exact HSS.out _ H3.out
 clear hK K0
 try simp only [Act.put, sqa, sqb, sqc, sqd, sqe, sqf]
 generalize (w2.alloc (.cells #[.string ⟨#[]⟩, .string ⟨#[]⟩, .int .i64 0, .bool false, .int .i64 0, .string ⟨#[]⟩, .slice none 0 0, .slice none 0 0, .slice none 0 0] 52)) = W3 at *
 generalize w2.heap.size = Q at *
 obtain ⟨y0, y1, y2, y3, y4, y5, y6, y7, y8, z0, z1, z2, z3, z4, z5, z6, z7, z8, x0, x1, x2, x3, x4, x5, x6, x7, x8⟩ := old9 K3.out
 have hqs := K3.out.lt
 refine wpAnyH_ready (rs := [9]) (by kernel_rfl) (by simp) ?_
 refine AllReadyH.cons rfl (fun K0 hK => ?_) AllReadyH.nil
 go_simp
 refine put9_gen K3.out _ _ _ _ _ _ _ _ _ (fun WF hf0 hf1 hf2 hf3 => ?_)
 have HF := hid hf0
 have HFB := hid ((hf1 _ _ H3.out HQ.out))
 clear hf0 hf1 hf2 hf3
 refine hK.out _ _ ?_ (fun hHeld => ?_)
 · exact HSS.out _ HFB.out
 clear hK K0 z0 x0 z1 x1 z2 x2 z3 x3 z4 x4 z5 x5 z6 x6 z7 x7 z8 x8
 try simp only [Act.put, sqa, sqb, sqc, sqd, sqe, sqf]
 refine wpAnyH_done (by kernel_rfl) ?_ _
 have kA := HA.out.onto HFB.out
 have kB := HB.out.onto HFB.out
 have a8 := kA.cell 8
 have HBF := hid kB
 have HWF := hid (HW.out.trans (HFB.out.mono hs))
 clear kA kB
 go_wp2_with fail
 clear a8
 rotate_left
 go_simp
 have H3 := hid (show Below W.heap.size W (W.alloc (.cells #[.string ⟨#[]⟩, .string ⟨#[]⟩, .int .i64 0, .bool false, .int .i64 0, .string ⟨#[]⟩, .slice none 0 0, .slice none 0 0, .slice none 0 0] 52)).drew from ((Below.refl _ _).alloc (Nat.le_refl _) _).drew)
 have K3 := hid (show Blk (W.alloc (.cells #[.string ⟨#[]⟩, .string ⟨#[]⟩, .int .i64 0, .bool false, .int .i64 0, .string ⟨#[]⟩, .slice none 0 0, .slice none 0 0, .slice none 0 0] 52)).drew W.heap.size 52 nul9 from Blk.new W _ _)
 have HQ := hid (show W.heap.size ≤ W.heap.size from Nat.le_refl _)
 refine hK.out _ _ ?_ (fun hHeld => ?_)
 · exact HSS.out _ H3.out
 clear hK K0
 try simp only [Act.put, sqa, sqb, sqc, sqd, sqe, sqf]
 generalize (W.alloc (.cells #[.string ⟨#[]⟩, .string ⟨#[]⟩, .int .i64 0, .bool false, .int .i64 0, .string ⟨#[]⟩, .slice none 0 0, .slice none 0 0, .slice none 0 0] 52)).drew = W2 at *
 obtain ⟨Q, hQ⟩ : ∃ Q, Q = W.heap.size := ⟨_, rfl⟩
 rw [← hQ] at K3
 have HQ := hid (show W.heap.size ≤ Q from Nat.le_of_eq hQ.symm)
 rw [← hQ]
 clear hQ
 refine wpAnyH_ready (rs := [6]) (by kernel_rfl) (by simp) ?_
 refine AllReadyH.cons rfl (fun K0 hK => ?_) AllReadyH.nil
 go_simp
 refine (real_leafT t A c A' c' _).mono ?_
 rintro e W3 ⟨K', k', rfl, hb2⟩
 have K4 := hid (K3.out.onto hb2)
 have H4 := hid (H3.out.trans (hb2.mono H3.out.size))
 clear hb2 K3 H3
 go_wp2_with fail
 refine hK.out _ _ ?_ (fun hHeld => ?_)
 · exact HSS.out _ H4.out
 clear hK K0
 try simp only [Act.put, sqa, sqb, sqc, sqd, sqe, sqf]
 refine wpAnyH_take (i := 7) (v := ?_) rfl (by kernel_rfl) (by kernel_rfl) (by kernel_rfl) (fun _ _ _ h => h) (Or.inl ⟨by rfl, ?_⟩) (by assumption) ?_
 rotate_left
 ·
  intro wq hSw
  try dsimp only at hSw
  go_simp
  try (with_reducible rfl)
 try simp only [Act.put, sqa, sqb, sqc, sqd, sqe, sqf]
 obtain ⟨y0, y1, y2, y3, y4, y5, y6, y7, y8, z0, z1, z2, z3, z4, z5, z6, z7, z8, x0, x1, x2, x3, x4, x5, x6, x7, x8⟩ := old9 K4.out
 have hqs := K4.out.lt
 refine wpAnyH_ready (rs := [9]) (by kernel_rfl) (by simp) ?_
 refine AllReadyH.cons rfl (fun K0 hK => ?_) AllReadyH.nil
 go_simp
 refine put9_gen K4.out _ _ _ _ _ _ _ _ _ (fun WF hf0 hf1 hf2 hf3 => ?_)
 have HF := hid hf0
 have HFB := hid ((hf1 _ _ H4.out HQ.out))
 clear hf0 hf1 hf2 hf3
 refine hK.out _ _ ?_ (fun hHeld => ?_)
 · exact HSS.out _ HFB.out
 clear hK K0 z0 x0 z1 x1 z2 x2 z3 x3 z4 x4 z5 x5 z6 x6 z7 x7 z8 x8
 try simp only [Act.put, sqa, sqb, sqc, sqd, sqe, sqf]
 refine wpAnyH_done (by kernel_rfl) ?_ _
 have kA := HA.out.onto HFB.out
 have kB := HB.out.onto HFB.out
 have a8 := kA.cell 8
 have HBF := hid kB
 have HWF := hid (HW.out.trans (HFB.out.mono hs))
 clear kA kB
 go_wp2_with fail
 clear a8
 all_goals
  go_loopw [17] (fun x wr => ∃ (rr : List (E × Hd)) (A2 : Option Addr) (m2 : Nat), x = .int .i64 (rr.length : Nat) ∧ rr.length ≤ l.length ∧ rr.map (·.1) = l.take rr.length ∧ rr.length ≤ m2 ∧ RowX wr (Q + 1) (.slice A2 rr.length m2) rr ∧ EVs wr (fun j => Q + 1 ≤ j ∧ j < wr.heap.size ∧ some j ≠ (Value.slice A2 rr.length m2).ownBlock) rr ∧ Blk wr Q 52 #[.string o, .string n, .int .i64 t.kind, .bool t.tr, .int .i64 t.num, .string t.str, .slice none 0 0, .slice K' 0 k', .slice A2 rr.length m2] ∧ Blk wr (g + 1) 52 nul9 ∧ Below g w wr) (fun x _ => l.length - (intOf x).toNat)
  case atStart => exact ⟨[], none, 0, rfl, Nat.zero_le _, rfl, Nat.le_refl _, RowX.nil _ _, fun x hx => absurd hx (by simp), HF.out, HBF.out, HWF.out⟩
  case round =>
   obtain ⟨rr, A2, m2, rfl, hrl, hmap, hrm, hrow, hevs, kq, kb, hbw⟩ := hrel
   have HMAP := hid hmap
   have HRM := hid hrm
   have HROW := hid hrow
   have HEVS := hid hevs
   have KQ := hid kq
   have KB := hid kb
   have HBW := hid hbw
   have hgb : g ≤ wr.heap.size := by have := hbw.size; rw [HG.out] at this; exact this
   have hqw := kq.lt
   have hQg : g + 1 < Q := by have := HQ.out; omega
   clear hmap hrow hevs kq kb HF HFB HBF HWF
   by_cases hlt : rr.length < l.length
   ·
    have u1 : decide (rr.length < l.length) = true := decide_eq_true hlt
    have u2 : decide ((rr.length : Int) < (l.length : Int)) = true := decide_eq_true (by omega)
    have i1 : (rr.length : Int) < (l.length : Int) := by omega
    have i2 : (0 : Int) ≤ (rr.length : Int) := by omega
    have hev2 := HE.out.keep (w' := wr) (fun j hj => hbw.block j (HS.out j hj))
    obtain ⟨b, oo, x, q2, hAe, hSb, hx, h9, hex⟩ := hev2.at_ (i := rr.length) hlt
    dsimp only at hAe
    subst hAe
    obtain ⟨p0, p1, p2, p3, p4, p5, p6, p7, p8⟩ := h9.cells
    have HEX := hid hex
    have HX := hid (show l[rr.length]? = some x from hx)
    clear hex hev2 h9 hbw hx
    go_upto_region 5 with fail
    refine alloc_gn (fun W5 hA5 kX5 => ?_)
    have hXW := kX5.lt
    obtain ⟨X, hX⟩ : ∃ X, X = wr.heap.size := ⟨_, rfl⟩
    rw [← hX] at kX5 hXW ⊢
    have HXE := hid hX
    have hqX : Q < X := by omega
    clear hX
    have HSO := hid (show ∀ w', Blk w' X 30 #[.string x.op, .string x.name, .int .i64 x.lit.kind, .bool x.lit.tr, .int .i64 x.lit.num, .string x.lit.str, .slice q2.L x.lit.items.length q2.l, .slice q2.L' x.lit.keys.length q2.l', .slice q2.A x.args.length q2.c] → (w'.cell? ⟨X, 0, none⟩ = some (.string x.op) ∧ w'.cell? ⟨X, 1, none⟩ = some (.string x.name) ∧ w'.cell? ⟨X, 2, none⟩ = some (.int .i64 x.lit.kind) ∧ w'.cell? ⟨X, 3, none⟩ = some (.bool x.lit.tr) ∧ w'.cell? ⟨X, 4, none⟩ = some (.int .i64 x.lit.num) ∧ w'.cell? ⟨X, 5, none⟩ = some (.string x.lit.str) ∧ w'.cell? ⟨X, 6, none⟩ = some (.slice q2.L x.lit.items.length q2.l) ∧ w'.cell? ⟨X, 7, none⟩ = some (.slice q2.L' x.lit.keys.length q2.l') ∧ w'.cell? ⟨X, 8, none⟩ = some (.slice q2.A x.args.length q2.c)) from fun w' k => ⟨k.cell 0, k.cell 1, k.cell 2, k.cell 3, k.cell 4, k.cell 5, k.cell 6, k.cell 7, k.cell 8⟩)
    have hD : Below W5.heap.size W5 W5.drew := (Below.refl _ _).drew
    have HX6 := hid (kX5.onto hD)
    have HU6 := hid (hA5.trans (hD.mono hA5.size))
    have HB6 := hid (HBW.out.trans (HU6.out.mono hgb))
    have KQ6 := hid (KQ.out.onto HU6.out)
    have KB6 := hid (KB.out.onto HU6.out)
    have HE6 := hid (HEX.out.keep (w' := W5.drew) (fun j hj => HU6.out.block j (by have := HS.out j hj; omega)))
    have HM6 := hid (List.mem_of_getElem? HX.out)
    clear hD hA5 kX5 p0 p1 p2 p3 p4 p5 p6 p7 p8
    refine wp_region_held_drew (S := fun w' => (w'.cell? ⟨X, 0, none⟩ = some (.string x.op) ∧ w'.cell? ⟨X, 1, none⟩ = some (.string x.name) ∧ w'.cell? ⟨X, 2, none⟩ = some (.int .i64 x.lit.kind) ∧ w'.cell? ⟨X, 3, none⟩ = some (.bool x.lit.tr) ∧ w'.cell? ⟨X, 4, none⟩ = some (.int .i64 x.lit.num) ∧ w'.cell? ⟨X, 5, none⟩ = some (.string x.lit.str) ∧ w'.cell? ⟨X, 6, none⟩ = some (.slice q2.L x.lit.items.length q2.l) ∧ w'.cell? ⟨X, 7, none⟩ = some (.slice q2.L' x.lit.keys.length q2.l') ∧ w'.cell? ⟨X, 8, none⟩ = some (.slice q2.A x.args.length q2.c))) (by kernel_rfl) ?_ (fun hHeld => ?_)
    · exact HSO.out _ HX6.out
    generalize W5.drew = W6 at *
    have hg6 : g ≤ W6.heap.size := by have := HU6.out.size; omega
    have HI := hid (show Calls Tryz.prog 9 #[.agg #[.string x.op, .string x.name, .int .i64 x.lit.kind, .bool x.lit.tr, .int .i64 x.lit.num, .string x.lit.str, .slice q2.L x.lit.items.length q2.l, .slice q2.L' x.lit.keys.length q2.l', .slice q2.A x.args.length q2.c]] W6 (fun en w' => ∃ K2 k2 P2 p2, en = .returned (.agg #[.string x.op, .string x.name, .int .i64 x.lit.kind, .bool x.lit.tr, .int .i64 x.lit.num, .string x.lit.str, .slice none x.lit.items.length 0, .slice K2 x.lit.keys.length k2, .slice P2 x.args.length p2]) ∧ EV w' (fun j => W6.heap.size ≤ j ∧ j < w'.heap.size) x ⟨none, 0, K2, k2, P2, p2⟩ ∧ Below W6.heap.size W6 w') from HIH.out x HM6.out q2 W6 S (fun j hj => by have h1 := HS.out j hj; omega) HE6.out)
    have q8 : W6.cell? ⟨Q, 8, none⟩ = some (.slice A2 rr.length m2) := KQ6.out.cell 8
    refine wpAnyH_take (i := 0) (v := ?_) rfl (by kernel_rfl) (by kernel_rfl) (by kernel_rfl) (fun _ _ _ h => h) (Or.inl ⟨by rfl, ?_⟩) (by assumption) ?_
    rotate_left
    ·
     intro wq hSw
     try dsimp only at hSw
     go_simp
     try (with_reducible rfl)
    try simp only [Act.put, List.getElem_toArray, List.getElem_cons_zero, List.setIfInBounds_toArray, List.set_cons_zero, List.set_cons_succ]
    refine wpAnyH_take (i := 2) (v := ?_) rfl (by kernel_rfl) (by kernel_rfl) (by kernel_rfl) (fun _ _ _ h => h) (Or.inl ⟨by rfl, ?_⟩) (by assumption) ?_
    rotate_left
    ·
     intro wq hSw
     try dsimp only at hSw
     go_simp
     try (with_reducible rfl)
    try simp only [Act.put, sqa, sqb, sqc, sqd, sqe, sqf]
    refine wpAnyH_ready (rs := [1, 3]) (by kernel_rfl) (by simp) ?_
    refine AllReadyH.cons rfl (fun K0 hK => ?_) (AllReadyH.cons rfl (fun K0 hK => ?_) AllReadyH.nil)
    go_simp
    refine hK.out _ _ ?_ (fun hHeld => ?_)
    · exact HSO.out _ HX6.out
    clear hK K0
    try simp only [Act.put, sqa, sqb, sqc, sqd, sqe, sqf]
    refine wpAnyH_ready (rs := [3]) (by kernel_rfl) (by simp) ?_
    refine AllReadyH.cons rfl (fun K0 hK => ?_) AllReadyH.nil
    go_simp
    refine HI.out.mono ?_
    rintro en w2 ⟨K2, k2, P2, p2, rfl, hev2, hb2⟩
    have hs6 := HU6.out.size
    have HX2 := hid (HX6.out.onto hb2)
    have HU2 := hid (HU6.out.trans (hb2.mono hs6))
    have HB2 := hid (HB6.out.trans (hb2.mono hg6))
    have KQ2 := hid (KQ6.out.onto hb2)
    have KB2 := hid (KB6.out.onto hb2)
    have HE2 := hid (show EV w2 (fun j => wr.heap.size ≤ j ∧ j < w2.heap.size) x ⟨none, 0, K2, k2, P2, p2⟩ from hev2.wide fun j hj => ⟨Nat.le_trans hs6 hj.1, hj.2⟩)
    have q8' : w2.cell? ⟨Q, 8, none⟩ = some (.slice A2 rr.length m2) := KQ2.out.cell 8
    clear hb2 hev2 q8
    go_wp2_with fail
    refine hK.out _ _ ?_ (fun hHeld => ?_)
    · exact HSO.out _ HX2.out
    clear hK K0
    try simp only [Act.put, sqa, sqb, sqc, sqd, sqe, sqf]
    refine wpAnyH_ready (rs := [4]) (by kernel_rfl) (by simp) ?_
    refine AllReadyH.cons rfl (fun K0 hK => ?_) AllReadyH.nil
    go_simp
    have q8a : (w2.alloc (.cells #[.string x.op, .string x.name, .int .i64 x.lit.kind, .bool x.lit.tr, .int .i64 x.lit.num, .string x.lit.str, .slice none x.lit.items.length 0, .slice K2 x.lit.keys.length k2, .slice P2 x.args.length p2] 52)).cell? ⟨Q, 8, none⟩ = some (.slice A2 rr.length m2) := (KQ2.out.alloc _).cell 8
    refine hK.out _ _ ?_ (fun hHeld => ?_)
    · exact HSO.out _ (HX2.out.alloc _)
    clear hK K0
    try simp only [Act.put, sqa, sqb, sqc, sqd, sqe, sqf]
    rotate_left
    go_simp
    refine HI.out.mono ?_
    rintro en w2 ⟨K2, k2, P2, p2, rfl, hev2, hb2⟩
    have hs6 := HU6.out.size
    have HX2 := hid (HX6.out.onto hb2)
    have HU2 := hid (HU6.out.trans (hb2.mono hs6))
    have HB2 := hid (HB6.out.trans (hb2.mono hg6))
    have KQ2 := hid (KQ6.out.onto hb2)
    have KB2 := hid (KB6.out.onto hb2)
    have HE2 := hid (show EV w2 (fun j => wr.heap.size ≤ j ∧ j < w2.heap.size) x ⟨none, 0, K2, k2, P2, p2⟩ from hev2.wide fun j hj => ⟨Nat.le_trans hs6 hj.1, hj.2⟩)
    have q8' : w2.cell? ⟨Q, 8, none⟩ = some (.slice A2 rr.length m2) := KQ2.out.cell 8
    clear hb2 hev2 q8
    go_wp2_with fail
    refine hK.out _ _ ?_ (fun hHeld => ?_)
    · exact HSO.out _ HX2.out
    clear hK K0
    try simp only [Act.put, sqa, sqb, sqc, sqd, sqe, sqf]
    refine wpAnyH_ready (rs := [1, 4]) (by kernel_rfl) (by simp) ?_
    refine AllReadyH.cons rfl (fun K0 hK => ?_) (AllReadyH.cons rfl (fun K0 hK => ?_) AllReadyH.nil)
    go_simp
    refine hK.out _ _ ?_ (fun hHeld => ?_)
    · exact HSO.out _ HX2.out
    clear hK K0
    try simp only [Act.put, sqa, sqb, sqc, sqd, sqe, sqf]
    refine wpAnyH_ready (rs := [4]) (by kernel_rfl) (by simp) ?_
    refine AllReadyH.cons rfl (fun K0 hK => ?_) AllReadyH.nil
    go_simp
    have q8a : (w2.alloc (.cells #[.string x.op, .string x.name, .int .i64 x.lit.kind, .bool x.lit.tr, .int .i64 x.lit.num, .string x.lit.str, .slice none x.lit.items.length 0, .slice K2 x.lit.keys.length k2, .slice P2 x.args.length p2] 52)).cell? ⟨Q, 8, none⟩ = some (.slice A2 rr.length m2) := (KQ2.out.alloc _).cell 8
    refine hK.out _ _ ?_ (fun hHeld => ?_)
    · exact HSO.out _ (HX2.out.alloc _)
    clear hK K0
    try simp only [Act.put, sqa, sqb, sqc, sqd, sqe, sqf]
    rotate_left
    go_simp
    have q8a : (w2.alloc (.cells #[.string x.op, .string x.name, .int .i64 x.lit.kind, .bool x.lit.tr, .int .i64 x.lit.num, .string x.lit.str, .slice none x.lit.items.length 0, .slice K2 x.lit.keys.length k2, .slice P2 x.args.length p2] 52)).cell? ⟨Q, 8, none⟩ = some (.slice A2 rr.length m2) := (KQ2.out.alloc _).cell 8
    refine hK.out _ _ ?_ (fun hHeld => ?_)
    · exact HSO.out _ (HX2.out.alloc _)
    clear hK K0
    try simp only [Act.put, sqa, sqb, sqc, sqd, sqe, sqf]
    refine wpAnyH_ready (rs := [1]) (by kernel_rfl) (by simp) ?_
    refine AllReadyH.cons rfl (fun K0 hK => ?_) AllReadyH.nil
    go_simp
    refine hK.out _ _ ?_ (fun hHeld => ?_)
    · exact HSO.out _ (HX2.out.alloc _)
    clear hK K0
    try simp only [Act.put, sqa, sqb, sqc, sqd, sqe, sqf]
    all_goals
     refine wpAnyH_ready (rs := [5]) (by kernel_rfl) (by simp) ?_
     refine AllReadyH.cons rfl (fun K0 hK => ?_) AllReadyH.nil
     have HROW2 := hid (HROW.out.below HU2.out)
     have HNL := hid (show rr.length ≤ 100000 by omega)
     have hs2 := HU2.out.size
     refine app_xS rfl (.tmp 22) (.tmp 25) rfl (Q + 1) _ _ x ⟨none, 0, K2, k2, P2, p2⟩ rfl rfl HROW2.out HNL.out (by omega) ?_
     intro v7 w7 hrow7 hb7 hg7 ho7
     have hev7 := grownX HROW.out HEVS.out HU2.out (by omega) HE2.out hg7 ho7
     obtain ⟨A3, m3, rfl, hlm⟩ := hrow7.shape
     have hb7' := hb7 w2 (Below.refl _ _)
     have hneX : some X ≠ (Value.slice A2 rr.length m2).ownBlock := by
      intro e
      have := (World.ownsRow.lt HROW.out X e.symm).2
      have := HXE.out
      omega
     have HX7 := hid (show Blk w7 X 30 #[.string x.op, .string x.name, .int .i64 x.lit.kind, .bool x.lit.tr, .int .i64 x.lit.num, .string x.lit.str, .slice q2.L x.lit.items.length q2.l, .slice q2.L' x.lit.keys.length q2.l', .slice q2.A x.args.length q2.c] from (hg7.block X HX2.out.lt hneX).trans HX2.out)
     have KQ7 := hid (KQ2.out.on hb7' (by omega))
     have KB7 := hid (KB2.out.on hb7' (by omega))
     have HB7 := hid (HB2.out.trans (hb7'.mono (by omega)))
     have hln : (rr ++ [(x, (⟨none, 0, K2, k2, P2, p2⟩ : Hd))]).length = rr.length + 1 := by simp
     have hmp : (rr ++ [(x, (⟨none, 0, K2, k2, P2, p2⟩ : Hd))]).map (·.1) = l.take (rr.length + 1) := by rw [take_argsX HX.out, ← HMAP.out]; simp
     rw [← hln] at hmp
     generalize (rr ++ [(x, (⟨none, 0, K2, k2, P2, p2⟩ : Hd))]) = l2 at *
     have HLN := hid hln
     have HMP := hid hmp
     have HLM := hid hlm
     have HROW7 := hid hrow7
     have HEVS7 := hid hev7
     clear hrow7 hb7 hg7 ho7 hb7' hev7 hlm hmp hln
     refine hK.out _ _ ?_ (fun hHeld => ?_)
     · exact HSO.out _ HX7.out
     clear hK K0
     try simp only [Act.put, sqa, sqb, sqc, sqd, sqe, sqf]
     refine wpAnyH_take (i := 6) (v := ?_) rfl (by kernel_rfl) (by kernel_rfl) (by kernel_rfl) (fun _ _ _ h => h) (Or.inl ⟨by rfl, ?_⟩) (by assumption) ?_
     rotate_left
     ·
      intro wq hSw
      try dsimp only at hSw
      go_simp
      try (with_reducible rfl)
     try simp only [Act.put, sqa, sqb, sqc, sqd, sqe, sqf]
     have x8 := KQ7.out.free 8
     obtain ⟨y8, z8⟩ : ∃ u, w7.cell? ⟨Q, 8, none⟩ = some u := ⟨_, KQ7.out.cell 8⟩
     refine wpAnyH_ready (rs := [7]) (by kernel_rfl) (by simp) ?_
     refine AllReadyH.cons rfl (fun K0 hK => ?_) AllReadyH.nil
     go_simp
     have hneQ : (Value.slice A3 l2.length m3).ownBlock ≠ some Q := by
      intro e
      have := (World.ownsRow.lt HROW7.out Q e).1
      omega
     have ha8 : Aside Q w7 (w7.setCell ⟨Q, 8, none⟩ (.slice A3 l2.length m3)) := (Aside.of (Below.refl _ _)).set _
     have HROW8 := hid (HROW7.out.other ha8 hneQ)
     have HEVS8 := hid (show EVs (w7.setCell ⟨Q, 8, none⟩ (.slice A3 l2.length m3)) (fun j => Q + 1 ≤ j ∧ j < (w7.setCell ⟨Q, 8, none⟩ (.slice A3 l2.length m3)).heap.size ∧ some j ≠ (Value.slice A3 l2.length m3).ownBlock) l2 from fun z hz => ((HEVS7.out z hz).keep fun k hk => ha8.block k hk.2.1 (by have := hk.1; omega)).wide fun k hk => ⟨hk.1, by rw [World.size_setCell]; exact hk.2.1, hk.2.2⟩)
     have KB8 := hid (KB7.out.far (p := ⟨Q, 8, none⟩) (show g + 1 ≠ Q by omega) (.slice A3 l2.length m3))
     have KQ8 := hid (show Blk (w7.setCell ⟨Q, 8, none⟩ (.slice A3 l2.length m3)) Q 52 #[.string o, .string n, .int .i64 t.kind, .bool t.tr, .int .i64 t.num, .string t.str, .slice none 0 0, .slice K' 0 k', .slice A3 l2.length m3] from KQ7.out.set_ 8 _)
     have HX8 := hid (HX7.out.far (p := ⟨Q, 8, none⟩) (show X ≠ Q by omega) (.slice A3 l2.length m3))
     have HB8 := hid (HB7.out.setCell (p := ⟨Q, 8, none⟩) (show g ≤ Q by omega) (.slice A3 l2.length m3))
     clear ha8 hneQ
     generalize (w7.setCell ⟨Q, 8, none⟩ (.slice A3 l2.length m3)) = w8 at *
     refine hK.out _ _ ?_ (fun hHeld => ?_)
     · exact HSO.out _ HX8.out
     clear hK K0 x8 z8
     try simp only [Act.put, sqa, sqb, sqc, sqd, sqe, sqf]
     refine wpAnyH_done (by kernel_rfl) ?_ _
     clear q8' q8a
     have hl2 : l2.length ≤ l.length := by rw [HLN.out]; omega
     have e2 : (rr.length : Int) + 1 = (l2.length : Nat) := by rw [HLN.out]; push_cast; rfl
     go_wp2_with fail
     go_roundw
     case rel => exact ⟨l2, A3, m3, by rw [HLN.out], hl2, HMP.out, HLM.out, HROW8.out, HEVS8.out, KQ8.out, KB8.out, HB8.out⟩
     case measure => simp only [intOf, Int.toNat_natCast]; have := HLN.out; go_num
   ·
    have hle : rr.length = l.length := by omega
    have HLE := hid hle
    have u1 : decide (rr.length < l.length) = false := decide_eq_false (by omega)
    have u2 : decide ((rr.length : Int) < (l.length : Int)) = false := decide_eq_false (by omega)
    clear hle
    obtain ⟨c0, c1, c2, c3, c4, c5, c6, c7, c8⟩ := all9 KQ.out
    obtain ⟨y0, y1, y2, y3, y4, y5, y6, y7, y8, z0, z1, z2, z3, z4, z5, z6, z7, z8, x0, x1, x2, x3, x4, x5, x6, x7, x8⟩ := old9 KB.out
    have HEE := hid (show EV wr (fun j => Q + 1 ≤ j ∧ j < wr.heap.size) (.mk o n t l) ⟨none, 0, K', k', A2, m2⟩ from by
     have h := EV.ofRowX (L := none) (cL := 0) (M := K') (cM := k') (o := o) (m := n) HIT.out HKT.out HROW.out HEVS.out HRM.out
     rw [HMAP.out, HLE.out, List.take_length] at h
     exact h)
    clear hbw hrl hrm hlt
    go_wp2_with fail
    refine put9_gen KB.out _ _ _ _ _ _ _ _ _ (fun WZ hf0 hf1 hf2 hf3 => ?_)
    have hsz : WZ.heap.size = wr.heap.size := hf3
    have HF2 := hid hf0
    have HFB2 := hid ((hf1 _ _ HBW.out (show g ≤ g + 1 from Nat.le_succ g)))
    have HEF := hid (show EV WZ (fun j => g ≤ j ∧ j < WZ.heap.size) (.mk o n t l) ⟨none, 0, K', k', A2, m2⟩ from (HEE.out.keep (fun j hj => (hf2 _ (by have := hj.1; omega)))).wide (fun j hj => ⟨by have := hj.1; omega, by rw [hsz]; exact hj.2⟩))
    clear z0 x0 z1 x1 z2 x2 z3 x3 z4 x4 z5 x5 z6 x6 z7 x7 z8 x8 c0 c1 c2 c3 c4 c5 c6 c7 c8 hsz
    clear hf0 hf1 hf2 hf3
    obtain ⟨c0, c1, c2, c3, c4, c5, c6, c7, c8⟩ := all9 HF2.out
    refine bodyPost_ret (v := .agg #[.string o, .string n, .int .i64 t.kind, .bool t.tr, .int .i64 t.num, .string t.str, .slice none 0 0, .slice K' 0 k', .slice A2 rr.length m2]) (by simp [results, Tryz.results9, go_sem, c0, c1, c2, c3, c4, c5, c6, c7, c8]) rfl ⟨K', k', A2, m2, ?_, ?_, ?_⟩
    · rw [HLE.out]
    · rw [HG.out]; exact HEF.out
    · rw [HG.out]; exact HFB2.out
theorem l8real_any : ∀ e : E, e.size ≤ 100000 → Lf e → ∀ (q2 : Hd) (w : World) (S : Nat → Prop), (∀ j, S j → j < w.heap.size) → EV w S e q2 → Calls Tryz.prog 9 #[.agg (ecs e q2)] w fun en w' => ∃ K2 k2 P2 p2, en = .returned (.agg (ecs e ⟨none, 0, K2, k2, P2, p2⟩)) ∧ EV w' (fun j => w.heap.size ≤ j ∧ j < w'.heap.size) e ⟨none, 0, K2, k2, P2, p2⟩ ∧ Below w.heap.size w w' := by
 refine E.ind ?_
 intro e ih hsz hlf q2 w S hS hev
 have hal := args_len e
 have hms := fun x (hx : x ∈ e.args) => (show x.size ≤ 100000 from by have := E.mem_size hx; have := E.size_eq e; omega)
 have hi := hlf.i
 have hk := hlf.k
 have hla := hlf.a
 obtain ⟨o, n, t, l⟩ := e
 obtain ⟨A, c, A', c', P, q⟩ := q2
 have hi' : t.items = [] := hi
 have hk' : t.keys = [] := hk
 have h := l8real_step o n t l hi' hk' (by have : l.length < _ := hal; omega) (fun x hx q2 w S hS hev => ih x hx (hms x hx) (hla x hx) q2 w S hS hev) A c A' c' P q w S hS hev
 unfold ecs
 dsimp only [E.op, E.name, E.lit, E.args]
 rw [hi', hk']
 exact h
end Go.Proofs.YtfbipnflgjhaiaaGreatDoor
