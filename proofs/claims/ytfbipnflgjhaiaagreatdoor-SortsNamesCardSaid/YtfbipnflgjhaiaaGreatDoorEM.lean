/- What a call answers: contracts of the program's parser. What a call answers, where there is a tree: contracts of the program's parser. -/
import Derived.Test.YtfbipnflgjhaiaaGreatDoorEL
set_option linter.unusedVariables false
set_option maxRecDepth 100000
set_option maxHeartbeats 8000000
open Go.Lib (hid)
namespace Go.Proofs.YtfbipnflgjhaiaaGreatDoor
open Go.RowKit
open Tk Ex
def nul9 : Array Value := #[.string ⟨#[]⟩, .string ⟨#[]⟩, .int .i64 0, .bool false, .int .i64 0, .string ⟨#[]⟩, .slice none 0 0, .slice none 0 0, .slice none 0 0]
theorem put9_blk {w : World} {g : Nat} {ty : TypeId} (h : Blk w g ty nul9) (v0 v1 v2 v3 v4 v5 v6 v7 v8 : Value) : Blk (((((((((w.setCell ⟨g, 0, none⟩ v0).setCell ⟨g, 1, none⟩ v1).setCell ⟨g, 2, none⟩ v2).setCell ⟨g, 3, none⟩ v3).setCell ⟨g, 4, none⟩ v4).setCell ⟨g, 5, none⟩ v5).setCell ⟨g, 6, none⟩ v6).setCell ⟨g, 7, none⟩ v7).setCell ⟨g, 8, none⟩ v8) g ty #[v0, v1, v2, v3, v4, v5, v6, v7, v8] := by
 have h2 := ((((((((h.set_ 0 v0).set_ 1 v1).set_ 2 v2).set_ 3 v3).set_ 4 v4).set_ 5 v5).set_ 6 v6).set_ 7 v7).set_ 8 v8
 have e : ((((((((nul9.setIfInBounds 0 v0).setIfInBounds 1 v1).setIfInBounds 2 v2).setIfInBounds 3 v3).setIfInBounds 4 v4).setIfInBounds 5 v5).setIfInBounds 6 v6).setIfInBounds 7 v7).setIfInBounds 8 v8 = #[v0, v1, v2, v3, v4, v5, v6, v7, v8] := by
  simp only [nul9, List.setIfInBounds_toArray, List.set_cons_zero, List.set_cons_succ]
 rw [e] at h2
 exact h2
theorem xanswer_nil (b : Nat) (s : ByteArray) (p : Nat) (c : Int) (w : World) (h : Noted w b s p c) (pl dp : Int) : Calls Tryz.prog 24 #[.pointer (some ⟨b, 0, none⟩), .pointer (padr none), .int .i64 pl, .int .i64 dp] w fun e w' => e = .returned (.tuple #[.agg nul9, .int .i64 p, .int .i64 c]) ∧ Below w.heap.size w w' := by
 obtain ⟨i2, h⟩ := h
 have n1 := run_nilL none
 have n3 := run_nilR none
 have n2 : (none : Option Nat).isNone = true := rfl
 have hW : Below w.heap.size w (w.alloc (.cells #[.string ⟨#[]⟩, .string ⟨#[]⟩, .int .i64 0, .bool false, .int .i64 0, .string ⟨#[]⟩, .slice none 0 0, .slice none 0 0, .slice none 0 0] 52)) := (Below.refl _ _).alloc (Nat.le_refl _) _
 have hB : Blk (w.alloc (.cells #[.string ⟨#[]⟩, .string ⟨#[]⟩, .int .i64 0, .bool false, .int .i64 0, .string ⟨#[]⟩, .slice none 0 0, .slice none 0 0, .slice none 0 0] 52)) w.heap.size 52 nul9 := Blk.new w _ _
 have hbl := h.lt
 have h1 := h.onto hW
 go_enter Tryz.func24, Tryz.ntmps24
 go_upto_region 2 with fail
 change Code.wp _ _ _ _ (w.alloc (.cells #[.string ⟨#[]⟩, .string ⟨#[]⟩, .int .i64 0, .bool false, .int .i64 0, .string ⟨#[]⟩, .slice none 0 0, .slice none 0 0, .slice none 0 0] 52))
 have HG := hid (show w.heap.size ≠ b by omega)
 have HW := hid hW
 generalize hWe : (w.alloc (.cells #[.string ⟨#[]⟩, .string ⟨#[]⟩, .int .i64 0, .bool false, .int .i64 0, .string ⟨#[]⟩, .slice none 0 0, .slice none 0 0, .slice none 0 0] 52)) = W at *
 generalize hGe : w.heap.size = G at *
 have HS := hid (show ∀ w' : World, w'.heap[b]? = W.heap[b]? → w'.cell? ⟨b, 2, none⟩ = some (.int .i64 p) ∧ w'.cell? ⟨b, 3, none⟩ = some (.int .i64 c) from fun w' e => ⟨(World.cell?_of_block e).trans (h1.cell 2), (World.cell?_of_block e).trans (h1.cell 3)⟩)
 have HB := hid hB
 have HGE := hid hGe
 clear hB h1 hW hWe hGe h
 refine wp_region_held_drew (S := fun w' => w'.cell? ⟨b, 2, none⟩ = some (.int .i64 p) ∧ w'.cell? ⟨b, 3, none⟩ = some (.int .i64 c)) (by kernel_rfl) ?_ (fun hHeld => ?_)
 · exact HS.out _ rfl
 refine wpAnyH_take (i := 0) (v := ?_) rfl (by kernel_rfl) (by kernel_rfl) (by kernel_rfl) (fun _ _ _ h => h) (Or.inl ⟨by rfl, ?_⟩) (by assumption) ?_
 rotate_left
 ·
  intro wq hSw
  try dsimp only at hSw
  go_simp
  try (with_reducible rfl)
 try simp only [Act.put, List.getElem_toArray, List.getElem_cons_zero, List.setIfInBounds_toArray, List.set_cons_zero, List.set_cons_succ]
 refine wpAnyH_take (i := 1) (v := ?_) rfl (by kernel_rfl) (by kernel_rfl) (by kernel_rfl) (fun _ _ _ h => h) (Or.inl ⟨by rfl, ?_⟩) (by assumption) ?_
 rotate_left
 ·
  intro wq hSw
  try dsimp only at hSw
  go_simp
  try (with_reducible rfl)
 try simp only [Act.put, sqa, sqb, sqc, sqd, sqe, sqf]
 refine wpAnyH_take (i := 2) (v := ?_) rfl (by kernel_rfl) (by kernel_rfl) (by kernel_rfl) (fun _ _ _ h => h) (Or.inl ⟨by rfl, ?_⟩) (by assumption) ?_
 rotate_left
 ·
  intro wq hSw
  try dsimp only at hSw
  go_simp
  try (with_reducible rfl)
 try simp only [Act.put, sqa, sqb, sqc, sqd, sqe, sqf]
 refine wpAnyH_take (i := 3) (v := ?_) rfl (by kernel_rfl) (by kernel_rfl) (by kernel_rfl) (fun _ _ _ h => h) (Or.inl ⟨by rfl, ?_⟩) (by assumption) ?_
 rotate_left
 ·
  intro wq hSw
  try dsimp only at hSw
  go_simp
  try (with_reducible rfl)
 try simp only [Act.put, sqa, sqb, sqc, sqd, sqe, sqf]
 refine wpAnyH_take (i := 4) (v := ?_) rfl (by kernel_rfl) (by kernel_rfl) (by kernel_rfl) (fun _ _ _ h => h) (Or.inl ⟨by rfl, ?_⟩) (by assumption) ?_
 rotate_left
 ·
  intro wq hSw
  try dsimp only at hSw
  go_simp
  try (with_reducible rfl)
 try simp only [Act.put, sqa, sqb, sqc, sqd, sqe, sqf]
 refine wpAnyH_take (i := 5) (v := ?_) rfl (by kernel_rfl) (by kernel_rfl) (by kernel_rfl) (fun _ _ _ h => h) (Or.inl ⟨by rfl, ?_⟩) (by assumption) ?_
 rotate_left
 ·
  intro wq hSw
  try dsimp only at hSw
  go_simp
  try (with_reducible rfl)
 try simp only [Act.put, sqa, sqb, sqc, sqd, sqe, sqf]
 refine wpAnyH_take (i := 6) (v := ?_) rfl (by kernel_rfl) (by kernel_rfl) (by kernel_rfl) (fun _ _ _ h => h) (Or.inl ⟨by rfl, ?_⟩) (by assumption) ?_
 rotate_left
 ·
  intro wq hSw
  try dsimp only at hSw
  go_simp
  try (with_reducible rfl)
 try simp only [Act.put, sqa, sqb, sqc, sqd, sqe, sqf]
 refine wpAnyH_take (i := 7) (v := ?_) rfl (by kernel_rfl) (by kernel_rfl) (by kernel_rfl) (fun _ _ _ h => h) (Or.inl ⟨by rfl, ?_⟩) (by assumption) ?_
 rotate_left
 ·
  intro wq hSw
  try dsimp only at hSw
  go_simp
  try (with_reducible rfl)
 try simp only [Act.put, sqa, sqb, sqc, sqd, sqe, sqf]
 refine wpAnyH_take (i := 8) (v := ?_) rfl (by kernel_rfl) (by kernel_rfl) (by kernel_rfl) (fun _ _ _ h => h) (Or.inl ⟨by rfl, ?_⟩) (by assumption) ?_
 rotate_left
 ·
  intro wq hSw
  try dsimp only at hSw
  go_simp
  try (with_reducible rfl)
 try simp only [Act.put, sqa, sqb, sqc, sqd, sqe, sqf]
 obtain ⟨y0, y1, y2, y3, y4, y5, y6, y7, y8, z0, z1, z2, z3, z4, z5, z6, z7, z8, x0, x1, x2, x3, x4, x5, x6, x7, x8⟩ := old9 HB.out
 refine wpAnyH_ready (rs := [9]) (by kernel_rfl) (by simp) ?_
 refine AllReadyH.cons rfl (fun K0 hK => ?_) AllReadyH.nil
 go_simp
 refine hK.out _ _ ?_ (fun hHeld => ?_)
 · exact HS.out _ (put9_drew (Ne.symm HG.out) _ _ _ _ _ _ _ _ _)
 clear hK K0
 try simp only [Act.put, sqa, sqb, sqc, sqd, sqe, sqf]
 refine wpAnyH_take (i := 10) (v := ?_) rfl (by kernel_rfl) (by kernel_rfl) (by kernel_rfl) (fun _ _ _ h => h) (Or.inl ⟨by rfl, ?_⟩) (by assumption) ?_
 rotate_left
 ·
  intro wq hSw
  try dsimp only at hSw
  go_simp
  try (with_reducible rfl)
 try simp only [Act.put, sqa, sqb, sqc, sqd, sqe, sqf]
 refine wpAnyH_take (i := 11) (v := ?_) rfl (by kernel_rfl) (by kernel_rfl) (by kernel_rfl) (fun _ _ _ h => h) (Or.inl ⟨by rfl, ?_⟩) (by assumption) ?_
 rotate_left
 ·
  intro wq hSw
  try dsimp only at hSw
  go_simp
  try (with_reducible rfl)
 try simp only [Act.put, sqa, sqb, sqc, sqd, sqe, sqf]
 refine wpAnyH_done (by kernel_rfl) ?_ _
 have HBF := hid (show Blk (((((((((W.setCell ⟨G, 0, none⟩ (.string ⟨#[]⟩)).setCell ⟨G, 1, none⟩ (.string ⟨#[]⟩)).setCell ⟨G, 2, none⟩ (.int .i64 0)).setCell ⟨G, 3, none⟩ (.bool false)).setCell ⟨G, 4, none⟩ (.int .i64 0)).setCell ⟨G, 5, none⟩ (.string ⟨#[]⟩)).setCell ⟨G, 6, none⟩ (.slice none 0 0)).setCell ⟨G, 7, none⟩ (.slice none 0 0)).setCell ⟨G, 8, none⟩ (.slice none 0 0)) G 52 nul9 from put9_blk HB.out _ _ _ _ _ _ _ _ _)
 have HBG := hid (put9_below (o := 0) HW.out (Nat.le_refl G) (.string ⟨#[]⟩) (.string ⟨#[]⟩) (.int .i64 0) (.bool false) (.int .i64 0) (.string ⟨#[]⟩) (.slice none 0 0) (.slice none 0 0) (.slice none 0 0))
 clear z0 z1 z2 z3 z4 z5 z6 z7 z8 x0 x1 x2 x3 x4 x5 x6 x7 x8
 generalize (((((((((W.setCell ⟨G, 0, none⟩ (.string ⟨#[]⟩)).setCell ⟨G, 1, none⟩ (.string ⟨#[]⟩)).setCell ⟨G, 2, none⟩ (.int .i64 0)).setCell ⟨G, 3, none⟩ (.bool false)).setCell ⟨G, 4, none⟩ (.int .i64 0)).setCell ⟨G, 5, none⟩ (.string ⟨#[]⟩)).setCell ⟨G, 6, none⟩ (.slice none 0 0)).setCell ⟨G, 7, none⟩ (.slice none 0 0)).setCell ⟨G, 8, none⟩ (.slice none 0 0)) = WF at *
 obtain ⟨b0, b1, b2, b3, b4, b5, b6, b7, b8⟩ := all9 HBF.out
 have HBZ := hid (HBG.out.drew)
 go_wp2_with fail
 refine bodyPost_ret (v := .tuple #[.agg nul9, .int .i64 p, .int .i64 c]) (by simp [results, Tryz.results24, go_sem, nul9, b0, b1, b2, b3, b4, b5, b6, b7, b8]) rfl ⟨rfl, ?_⟩
 rw [HGE.out]
 exact HBZ.out
open Go.RowKit
open Tk Ex
theorem xanswer_deep (b g : Nat) (d : Nat) (w : World) (hg : w.cell? ⟨g, 9, none⟩ = some (.int .i64 d)) (hd : 32 < d) (hd2 : d ≤ 1000000) (pl dp : Int) : Calls Tryz.prog 24 #[.pointer (some ⟨b, 0, none⟩), .pointer (padr (some g)), .int .i64 pl, .int .i64 dp] w fun e w' => e = .returned (.tuple #[.agg nul9, .int .i64 dp, .int .i64 6]) ∧ Below w.heap.size w w' := by
 have n1 := run_nilL (some g)
 have n3 := run_nilR (some g)
 have n2 : (some g).isNone = false := rfl
 have hW : Below w.heap.size w (w.alloc (.cells #[.string ⟨#[]⟩, .string ⟨#[]⟩, .int .i64 0, .bool false, .int .i64 0, .string ⟨#[]⟩, .slice none 0 0, .slice none 0 0, .slice none 0 0] 52)) := (Below.refl _ _).alloc (Nat.le_refl _) _
 have hB : Blk (w.alloc (.cells #[.string ⟨#[]⟩, .string ⟨#[]⟩, .int .i64 0, .bool false, .int .i64 0, .string ⟨#[]⟩, .slice none 0 0, .slice none 0 0, .slice none 0 0] 52)) w.heap.size 52 nul9 := Blk.new w _ _
 have hgl : g < w.heap.size := cell_lt5 hg
 have h9 : (w.alloc (.cells #[.string ⟨#[]⟩, .string ⟨#[]⟩, .int .i64 0, .bool false, .int .i64 0, .string ⟨#[]⟩, .slice none 0 0, .slice none 0 0, .slice none 0 0] 52)).cell? ⟨g, 9, none⟩ = some (.int .i64 d) := (World.cell?_alloc_lt _ _ _ hgl).trans hg
 have u1 : decide ((d : Int) > 32) = true := decide_eq_true (by omega)
 have u2 : decide ((32 : Int) < (d : Int)) = true := decide_eq_true (by omega)
 have u3 : decide (32 < d) = true := decide_eq_true (by omega)
 go_enter Tryz.func24, Tryz.ntmps24
 go_upto_region 3 with fail
 change Code.wp _ _ _ _ (w.alloc (.cells #[.string ⟨#[]⟩, .string ⟨#[]⟩, .int .i64 0, .bool false, .int .i64 0, .string ⟨#[]⟩, .slice none 0 0, .slice none 0 0, .slice none 0 0] 52))
 have HW := hid hW
 rw [show padr (some g) = some ⟨g, 0, none⟩ from rfl]
 clear n1 n2 n3
 generalize hWe : (w.alloc (.cells #[.string ⟨#[]⟩, .string ⟨#[]⟩, .int .i64 0, .bool false, .int .i64 0, .string ⟨#[]⟩, .slice none 0 0, .slice none 0 0, .slice none 0 0] 52)) = W at *
 generalize hGe : w.heap.size = G at *
 have HB := hid hB
 have HGE := hid hGe
 clear hB hW hWe hGe hg
 obtain ⟨y0, y1, y2, y3, y4, y5, y6, y7, y8, z0, z1, z2, z3, z4, z5, z6, z7, z8, x0, x1, x2, x3, x4, x5, x6, x7, x8⟩ := old9 HB.out
 go_wp2_with fail
 refine put9_gen HB.out _ _ _ _ _ _ _ _ _ (fun WF hf0 hf1 hf2 hf3 => ?_)
 have HBF := hid (show Blk WF G 52 nul9 from hf0)
 have HBG := hid ((hf1 _ _ HW.out (Nat.le_refl G)))
 clear z0 x0 z1 x1 z2 x2 z3 x3 z4 x4 z5 x5 z6 x6 z7 x7 z8 x8 h9
 clear hf0 hf1 hf2 hf3
 obtain ⟨b0, b1, b2, b3, b4, b5, b6, b7, b8⟩ := all9 HBF.out
 refine bodyPost_ret (v := .tuple #[.agg nul9, .int .i64 dp, .int .i64 6]) (by simp [results, Tryz.results24, go_sem, nul9, b0, b1, b2, b3, b4, b5, b6, b7, b8]) rfl ⟨rfl, ?_⟩
 rw [HGE.out]
 exact HBG.out
theorem xanswer_ok (b g : Nat) (e : E) (w : World) (S : Nat → Prop) (hS : ∀ q, S q → q < w.heap.size) (hpa : PartAt w S g e) (hd : e.depth ≤ 32) (pl dp : Int) : Calls Tryz.prog 24 #[.pointer (some ⟨b, 0, none⟩), .pointer (padr (some g)), .int .i64 pl, .int .i64 dp] w fun en w' => ∃ h, en = .returned (.tuple #[.agg (ecs e h), .int .i64 pl, .int .i64 0]) ∧ EV w' S e h ∧ Below w.heap.size w w' := by
 have n1 := run_nilL (some g)
 have n3 := run_nilR (some g)
 have n2 : (some g).isNone = false := rfl
 have hW : Below w.heap.size w (w.alloc (.cells #[.string ⟨#[]⟩, .string ⟨#[]⟩, .int .i64 0, .bool false, .int .i64 0, .string ⟨#[]⟩, .slice none 0 0, .slice none 0 0, .slice none 0 0] 52)) := (Below.refl _ _).alloc (Nat.le_refl _) _
 have hB : Blk (w.alloc (.cells #[.string ⟨#[]⟩, .string ⟨#[]⟩, .int .i64 0, .bool false, .int .i64 0, .string ⟨#[]⟩, .slice none 0 0, .slice none 0 0, .slice none 0 0] 52)) w.heap.size 52 nul9 := Blk.new w _ _
 obtain ⟨hSg, h, hh⟩ := hpa
 rw [if_pos hd] at hh
 obtain ⟨hev, hblk⟩ := hh
 have HEV := hid hev
 have HH := hid (Eq.refl h)
 obtain ⟨hL, hl1, hL', hl2, hA1, hc1⟩ := h
 dsimp only at hblk
 have hgl := hblk.lt
 have hblk2 := hblk.onto hW
 have HBK := hid hblk2
 have p0 := hblk2.cell 0
 have p1 := hblk2.cell 1
 have p2 := hblk2.cell 2
 have p3 := hblk2.cell 3
 have p4 := hblk2.cell 4
 have p5 := hblk2.cell 5
 have p6 := hblk2.cell 6
 have p7 := hblk2.cell 7
 have p8 := hblk2.cell 8
 have p9 := hblk2.cell 9
 have u1 : decide ((e.depth : Int) > 32) = false := decide_eq_false (by omega)
 have u2 : decide ((32 : Int) < (e.depth : Int)) = false := decide_eq_false (by omega)
 have u3 : decide (32 < e.depth) = false := decide_eq_false (by omega)
 have u4 : (0 : Int) ≤ (e.depth : Int) := by omega
 have HKP := hid (show Keeps S w (w.alloc (.cells #[.string ⟨#[]⟩, .string ⟨#[]⟩, .int .i64 0, .bool false, .int .i64 0, .string ⟨#[]⟩, .slice none 0 0, .slice none 0 0, .slice none 0 0] 52)) from fun q hq => hW.block q (hS q hq))
 clear hblk2 hblk hev HH
 go_enter Tryz.func24, Tryz.ntmps24
 go_upto_region 3 with fail
 change Code.wp _ _ _ _ (w.alloc (.cells #[.string ⟨#[]⟩, .string ⟨#[]⟩, .int .i64 0, .bool false, .int .i64 0, .string ⟨#[]⟩, .slice none 0 0, .slice none 0 0, .slice none 0 0] 52))
 have HW := hid hW
 rw [show padr (some g) = some ⟨g, 0, none⟩ from rfl]
 clear n1 n2 n3
 generalize hWe : (w.alloc (.cells #[.string ⟨#[]⟩, .string ⟨#[]⟩, .int .i64 0, .bool false, .int .i64 0, .string ⟨#[]⟩, .slice none 0 0, .slice none 0 0, .slice none 0 0] 52)) = W at *
 generalize hGe : w.heap.size = G at *
 have HB := hid hB
 have HGE := hid hGe
 have HSG := hid hS
 clear hB hW hWe hGe hS
 obtain ⟨y0, y1, y2, y3, y4, y5, y6, y7, y8, z0, z1, z2, z3, z4, z5, z6, z7, z8, x0, x1, x2, x3, x4, x5, x6, x7, x8⟩ := old9 HB.out
 go_wp2_with fail
 refine put9_gen HB.out _ _ _ _ _ _ _ _ _ (fun WF hf0 hf1 hf2 hf3 => ?_)
 have HBF := hid hf0
 have HBG := hid ((hf1 _ _ HW.out (Nat.le_refl G)))
 have HKF := hid (show Keeps S W WF from fun q hq => (hf2 _ (Nat.ne_of_lt (HSG.out q hq))))
 clear z0 x0 z1 x1 z2 x2 z3 x3 z4 x4 z5 x5 z6 x6 z7 x7 z8 x8 p0 p1 p2 p3 p4 p5 p6 p7 p8 p9
 clear hf0 hf1 hf2 hf3
 obtain ⟨b0, b1, b2, b3, b4, b5, b6, b7, b8⟩ := all9 HBF.out
 refine bodyPost_ret (v := .tuple #[.agg #[.string e.op, .string e.name, .int .i64 e.lit.kind, .bool e.lit.tr, .int .i64 e.lit.num, .string e.lit.str, .slice hL e.lit.items.length hl1, .slice hL' e.lit.keys.length hl2, .slice hA1 e.args.length hc1], .int .i64 pl, .int .i64 0]) (by simp [results, Tryz.results24, go_sem, b0, b1, b2, b3, b4, b5, b6, b7, b8]) rfl ⟨_, rfl, (HEV.out.keep HKP.out).keep HKF.out, ?_⟩
 rw [HGE.out]
 exact HBG.out
end Go.Proofs.YtfbipnflgjhaiaaGreatDoor
