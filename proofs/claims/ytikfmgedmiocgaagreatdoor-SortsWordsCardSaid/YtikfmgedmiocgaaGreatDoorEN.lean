/- Parse: contract of the program's function. -/
import Derived.Test.YtikfmgedmiocgaaGreatDoorEM
namespace Go.Proofs.YtikfmgedmiocgaaGreatDoor
open Go.RowKit
open Tk Ex
set_option linter.unusedVariables false

/-- what a call that reads answers -/
def ReadP (R : Res) (w : World) (e : Ending) (w' : World) : Prop := match R with
  | .out => True
  | .ok x p => ∃ h, e = .returned (.tuple #[.agg (ecs x h), .int .i64 p, .int .i64 0]) ∧ EV w' (fun q => w.heap.size ≤ q ∧ q < w'.heap.size) x h ∧ Below w.heap.size w w'
  | .err p c => e = .returned (.tuple #[.agg nul9, .int .i64 p, .int .i64 c]) ∧ Below w.heap.size w w'
theorem below_aside {G b : Nat} {w w1 w2 : World} (h : Below G w w1) (ha : Aside b w1 w2) (hb : G ≤ b) (hG : G ≤ w1.heap.size) : Below G w w2 :=
  ⟨ha.os.trans h.os, ha.tape.trans h.tape, ha.output.trans h.output, Nat.le_trans h.size ha.size, fun k hk => (ha.block k (by omega) (by omega)).trans (h.block k hk)⟩
set_option maxRecDepth 100000 in
set_option maxHeartbeats 4000000 in
theorem xparse_long (s : ByteArray) (w : World) (hs : 2048 < s.size) (hs2 : s.size ≤ maxLen) : Calls Tryz.prog 8 #[.string s] w (ReadP (.err 0 7) w) := by
  have hB : Blk (w.alloc (.cells #[.string ⟨#[]⟩, .string ⟨#[]⟩, .int .i64 0, .bool false, .int .i64 0, .string ⟨#[]⟩, .slice none 0 0, .slice none 0 0, .slice none 0 0] 30)) w.heap.size 30 nul9 := Blk.new w _ _
  have hW : Below w.heap.size w (w.alloc (.cells #[.string ⟨#[]⟩, .string ⟨#[]⟩, .int .i64 0, .bool false, .int .i64 0, .string ⟨#[]⟩, .slice none 0 0, .slice none 0 0, .slice none 0 0] 30)) := (Below.refl _ _).alloc (Nat.le_refl _) _
  have u1 : decide ((s.size : Int) > 2048) = true := decide_eq_true (by omega)
  have u2 : decide ((2048 : Int) < (s.size : Int)) = true := decide_eq_true (by omega)
  have u3 : decide (2048 < s.size) = true := decide_eq_true (by omega)
  go_enter Tryz.func8, Tryz.ntmps8
  go_upto_region 2 with fail
  change Code.wp _ _ _ _ (w.alloc (.cells #[.string ⟨#[]⟩, .string ⟨#[]⟩, .int .i64 0, .bool false, .int .i64 0, .string ⟨#[]⟩, .slice none 0 0, .slice none 0 0, .slice none 0 0] 30))
  have HW := Lib.hid hW
  generalize hWe : (w.alloc (.cells #[.string ⟨#[]⟩, .string ⟨#[]⟩, .int .i64 0, .bool false, .int .i64 0, .string ⟨#[]⟩, .slice none 0 0, .slice none 0 0, .slice none 0 0] 30)) = W at *
  generalize hGe : w.heap.size = G at *
  have HB := Lib.hid hB
  have HGE := Lib.hid hGe
  clear hB hW hWe hGe
  obtain ⟨y0, z0⟩ : ∃ u, W.cell? ⟨G, 0, none⟩ = some u := ⟨.string ⟨#[]⟩, HB.out.cell 0⟩
  obtain ⟨y1, z1⟩ : ∃ u, W.cell? ⟨G, 1, none⟩ = some u := ⟨.string ⟨#[]⟩, HB.out.cell 1⟩
  obtain ⟨y2, z2⟩ : ∃ u, W.cell? ⟨G, 2, none⟩ = some u := ⟨.int .i64 0, HB.out.cell 2⟩
  obtain ⟨y3, z3⟩ : ∃ u, W.cell? ⟨G, 3, none⟩ = some u := ⟨.bool false, HB.out.cell 3⟩
  obtain ⟨y4, z4⟩ : ∃ u, W.cell? ⟨G, 4, none⟩ = some u := ⟨.int .i64 0, HB.out.cell 4⟩
  obtain ⟨y5, z5⟩ : ∃ u, W.cell? ⟨G, 5, none⟩ = some u := ⟨.string ⟨#[]⟩, HB.out.cell 5⟩
  obtain ⟨y6, z6⟩ : ∃ u, W.cell? ⟨G, 6, none⟩ = some u := ⟨.slice none 0 0, HB.out.cell 6⟩
  obtain ⟨y7, z7⟩ : ∃ u, W.cell? ⟨G, 7, none⟩ = some u := ⟨.slice none 0 0, HB.out.cell 7⟩
  obtain ⟨y8, z8⟩ : ∃ u, W.cell? ⟨G, 8, none⟩ = some u := ⟨.slice none 0 0, HB.out.cell 8⟩
  have x0 := HB.out.free 0
  have x1 := HB.out.free 1
  have x2 := HB.out.free 2
  have x3 := HB.out.free 3
  have x4 := HB.out.free 4
  have x5 := HB.out.free 5
  have x6 := HB.out.free 6
  have x7 := HB.out.free 7
  have x8 := HB.out.free 8
  go_wp2_with fail
  have HBF := Lib.hid (show Blk (((((((((W.setCell ⟨G, 0, none⟩ (.string ⟨#[]⟩)).setCell ⟨G, 1, none⟩ (.string ⟨#[]⟩)).setCell ⟨G, 2, none⟩ (.int .i64 0)).setCell ⟨G, 3, none⟩ (.bool false)).setCell ⟨G, 4, none⟩ (.int .i64 0)).setCell ⟨G, 5, none⟩ (.string ⟨#[]⟩)).setCell ⟨G, 6, none⟩ (.slice none 0 0)).setCell ⟨G, 7, none⟩ (.slice none 0 0)).setCell ⟨G, 8, none⟩ (.slice none 0 0)) G 30 #[.string ⟨#[]⟩, .string ⟨#[]⟩, .int .i64 0, .bool false, .int .i64 0, .string ⟨#[]⟩, .slice none 0 0, .slice none 0 0, .slice none 0 0] from put9_blk HB.out _ _ _ _ _ _ _ _ _)
  have HBG := Lib.hid (put9_below (o := 0) HW.out (Nat.le_refl G) (.string ⟨#[]⟩) (.string ⟨#[]⟩) (.int .i64 0) (.bool false) (.int .i64 0) (.string ⟨#[]⟩) (.slice none 0 0) (.slice none 0 0) (.slice none 0 0))
  clear z0 x0 z1 x1 z2 x2 z3 x3 z4 x4 z5 x5 z6 x6 z7 x7 z8 x8
  generalize (((((((((W.setCell ⟨G, 0, none⟩ (.string ⟨#[]⟩)).setCell ⟨G, 1, none⟩ (.string ⟨#[]⟩)).setCell ⟨G, 2, none⟩ (.int .i64 0)).setCell ⟨G, 3, none⟩ (.bool false)).setCell ⟨G, 4, none⟩ (.int .i64 0)).setCell ⟨G, 5, none⟩ (.string ⟨#[]⟩)).setCell ⟨G, 6, none⟩ (.slice none 0 0)).setCell ⟨G, 7, none⟩ (.slice none 0 0)).setCell ⟨G, 8, none⟩ (.slice none 0 0)) = WF at *
  have b0 := HBF.out.cell 0
  have b1 := HBF.out.cell 1
  have b2 := HBF.out.cell 2
  have b3 := HBF.out.cell 3
  have b4 := HBF.out.cell 4
  have b5 := HBF.out.cell 5
  have b6 := HBF.out.cell 6
  have b7 := HBF.out.cell 7
  have b8 := HBF.out.cell 8
  refine bodyPost_ret (v := .tuple #[.agg #[.string ⟨#[]⟩, .string ⟨#[]⟩, .int .i64 0, .bool false, .int .i64 0, .string ⟨#[]⟩, .slice none 0 0, .slice none 0 0, .slice none 0 0], .int .i64 0, .int .i64 7]) (by simp [results, Tryz.results8, go_sem, b0, b1, b2, b3, b4, b5, b6, b7, b8]) rfl ?_
  refine ⟨rfl, ?_⟩
  rw [HGE.out]
  exact HBG.out
set_option maxRecDepth 100000 in
set_option maxHeartbeats 8000000 in
theorem xparse_short (s : ByteArray) (w : World) (hs : s.size ≤ 2048) (hE : RangeErr w) (R : Res) (hRR : parse s = R) : Calls Tryz.prog 8 #[.string s] w (ReadP R w) := by
  have hB : Blk (w.alloc (.cells #[.string ⟨#[]⟩, .string ⟨#[]⟩, .int .i64 0, .bool false, .int .i64 0, .string ⟨#[]⟩, .slice none 0 0, .slice none 0 0, .slice none 0 0] 30)) w.heap.size 30 nul9 := Blk.new w _ _
  have hW : Below w.heap.size w (w.alloc (.cells #[.string ⟨#[]⟩, .string ⟨#[]⟩, .int .i64 0, .bool false, .int .i64 0, .string ⟨#[]⟩, .slice none 0 0, .slice none 0 0, .slice none 0 0] 30)) := (Below.refl _ _).alloc (Nat.le_refl _) _
  have hsz : (w.alloc (.cells #[.string ⟨#[]⟩, .string ⟨#[]⟩, .int .i64 0, .bool false, .int .i64 0, .string ⟨#[]⟩, .slice none 0 0, .slice none 0 0, .slice none 0 0] 30)).heap.size = w.heap.size + 1 := by simp
  have u1 : decide ((s.size : Int) > 2048) = false := decide_eq_false (by omega)
  have u2 : decide ((2048 : Int) < (s.size : Int)) = false := decide_eq_false (by omega)
  have u3 : decide (2048 < s.size) = false := decide_eq_false (by omega)
  have hR1 : R = match top s 0 with
    | .ok e p => if bl s p < s.size then .err (bl s p) 1 else if 32 < e.depth then .err 0 6 else .ok e 0
    | .err p c => .err p c
    | .out => .out := by rw [← hRR]; unfold parse; rw [if_neg (by omega)]; cases top s 0 <;> rfl
  have HR1 := Lib.hid hR1
  clear hR1 hRR
  go_enter Tryz.func8, Tryz.ntmps8
  go_upto_region 3 with fail
  change Code.wp _ _ _ _ (w.alloc (.cells #[.string ⟨#[]⟩, .string ⟨#[]⟩, .int .i64 0, .bool false, .int .i64 0, .string ⟨#[]⟩, .slice none 0 0, .slice none 0 0, .slice none 0 0] 30))
  have HW := Lib.hid hW
  generalize hWe : (w.alloc (.cells #[.string ⟨#[]⟩, .string ⟨#[]⟩, .int .i64 0, .bool false, .int .i64 0, .string ⟨#[]⟩, .slice none 0 0, .slice none 0 0, .slice none 0 0] 30)) = W at *
  have hB1 : Blk (W.alloc (.cells #[.string s, .int .i64 0, .int .i64 0, .int .i64 0] 69)) W.heap.size 69 #[.string s, .int .i64 0, .int .i64 0, .int .i64 0] := Blk.new W _ _
  have hW1 : Below W.heap.size W (W.alloc (.cells #[.string s, .int .i64 0, .int .i64 0, .int .i64 0] 69)) := (Below.refl _ _).alloc (Nat.le_refl _) _
  have hB0 := hB.onto hW1
  have hgw := hW.trans (hW1.mono hW.size)
  have hE8 : Err8 W.heap.size (W.alloc (.cells #[.string s, .int .i64 0, .int .i64 0, .int .i64 0] 69)) := ⟨w, hE, by omega, hgw⟩
  have hpx : Px (W.alloc (.cells #[.string s, .int .i64 0, .int .i64 0, .int .i64 0] 69)) W.heap.size s 0 := ⟨0, 0, hB1⟩
  have hGb : w.heap.size < W.heap.size := by omega
  clear hsz
  have hbs : W.heap.size < (W.alloc (.cells #[.string s, .int .i64 0, .int .i64 0, .int .i64 0] 69)).heap.size := hB1.lt
  go_upto_region 4 with fail
  change Code.wp _ _ _ _ (W.alloc (.cells #[.string s, .int .i64 0, .int .i64 0, .int .i64 0] 69))
  generalize (W.alloc (.cells #[.string s, .int .i64 0, .int .i64 0, .int .i64 0] 69)) = W1 at *
  generalize hbe : W.heap.size = b at *
  generalize hGe : w.heap.size = G at *
  have HT := Lib.hid (xtop_any s (by omega) 0 b W1 hpx hE8 (Nat.zero_le _))
  have HB0 := Lib.hid hB0
  have HGW := Lib.hid hgw
  have HGE := Lib.hid hGe
  have HNX := Lib.hid (fun (p : Nat) w2 (h : Px w2 b s p) (hp : p ≤ s.size) => xnext_any b s p w2 (by omega) h.c0 h.c1 hp)
  have HLE := Lib.hid (fun e p (h : top s 0 = .ok e p) => top_le (Nat.zero_le _) h)
  have HDP := Lib.hid (fun e p (h : top s 0 = .ok e p) => (show e.depth ≤ p from by have := lev_dp (by decide) (Nat.zero_le _) h; omega))
  clear hB hW hWe hB1 hW1 hB0 hgw hE8 hpx hbe hGe
  go_wp2_with fail
  refine HT.out.mono ?_
  intro e w2 hl
  cases hx : top s 0 with
  | out =>
    have hR2 : R = .out := by rw [HR1.out, hx]
    exact absurd hx (fun h => by
      have := (enough s (many s)).1 0 0 (by decide) (Nat.zero_le _)
      exact this.1 (by unfold many; omega) h)
  | err p c =>
    have HR2 := Lib.hid (show R = .err p c by rw [HR1.out, hx])
    rw [hx] at hl
    obtain ⟨rfl, h2, h3⟩ := hl
    have hb2 := HB0.out
    have HB2 := Lib.hid (show Blk w2 G 30 nul9 from (h2.block G (by omega) (by omega)).trans hb2)
    have HBL := Lib.hid (below_aside HGW.out h2 (by omega) (by omega))
    have HN := Lib.hid h3
    have n1 := run_nilN none
    have n2 : (!(none : Option Nat).isNone) = false := rfl
    have hw2 := h2.size
    clear h2 h3 hx hb2 HT HLE HDP
    go_wp2_with fail
    refine (xanswer_nil b s p c w2 HN.out 0 0).mono ?_
    rintro e w3 ⟨rfl, hb3⟩
    have HB3 := Lib.hid (HB2.out.onto hb3)
    have HBL3 := Lib.hid (HBL.out.trans (hb3.mono (by omega)))
    clear hb3
    unfold nul9
    obtain ⟨y0, z0⟩ : ∃ u, w3.cell? ⟨G, 0, none⟩ = some u := ⟨.string ⟨#[]⟩, HB3.out.cell 0⟩
    obtain ⟨y1, z1⟩ : ∃ u, w3.cell? ⟨G, 1, none⟩ = some u := ⟨.string ⟨#[]⟩, HB3.out.cell 1⟩
    obtain ⟨y2, z2⟩ : ∃ u, w3.cell? ⟨G, 2, none⟩ = some u := ⟨.int .i64 0, HB3.out.cell 2⟩
    obtain ⟨y3, z3⟩ : ∃ u, w3.cell? ⟨G, 3, none⟩ = some u := ⟨.bool false, HB3.out.cell 3⟩
    obtain ⟨y4, z4⟩ : ∃ u, w3.cell? ⟨G, 4, none⟩ = some u := ⟨.int .i64 0, HB3.out.cell 4⟩
    obtain ⟨y5, z5⟩ : ∃ u, w3.cell? ⟨G, 5, none⟩ = some u := ⟨.string ⟨#[]⟩, HB3.out.cell 5⟩
    obtain ⟨y6, z6⟩ : ∃ u, w3.cell? ⟨G, 6, none⟩ = some u := ⟨.slice none 0 0, HB3.out.cell 6⟩
    obtain ⟨y7, z7⟩ : ∃ u, w3.cell? ⟨G, 7, none⟩ = some u := ⟨.slice none 0 0, HB3.out.cell 7⟩
    obtain ⟨y8, z8⟩ : ∃ u, w3.cell? ⟨G, 8, none⟩ = some u := ⟨.slice none 0 0, HB3.out.cell 8⟩
    have x0 := HB3.out.free 0
    have x1 := HB3.out.free 1
    have x2 := HB3.out.free 2
    have x3 := HB3.out.free 3
    have x4 := HB3.out.free 4
    have x5 := HB3.out.free 5
    have x6 := HB3.out.free 6
    have x7 := HB3.out.free 7
    have x8 := HB3.out.free 8
    go_wp2_with fail
    have HBF := Lib.hid (show Blk (((((((((w3.setCell ⟨G, 0, none⟩ (.string ⟨#[]⟩)).setCell ⟨G, 1, none⟩ (.string ⟨#[]⟩)).setCell ⟨G, 2, none⟩ (.int .i64 0)).setCell ⟨G, 3, none⟩ (.bool false)).setCell ⟨G, 4, none⟩ (.int .i64 0)).setCell ⟨G, 5, none⟩ (.string ⟨#[]⟩)).setCell ⟨G, 6, none⟩ (.slice none 0 0)).setCell ⟨G, 7, none⟩ (.slice none 0 0)).setCell ⟨G, 8, none⟩ (.slice none 0 0)) G 30 #[.string ⟨#[]⟩, .string ⟨#[]⟩, .int .i64 0, .bool false, .int .i64 0, .string ⟨#[]⟩, .slice none 0 0, .slice none 0 0, .slice none 0 0] from put9_blk HB3.out _ _ _ _ _ _ _ _ _)
    have HBG := Lib.hid (put9_below (o := 0) HBL3.out (Nat.le_refl G) (.string ⟨#[]⟩) (.string ⟨#[]⟩) (.int .i64 0) (.bool false) (.int .i64 0) (.string ⟨#[]⟩) (.slice none 0 0) (.slice none 0 0) (.slice none 0 0))
    clear z0 x0 z1 x1 z2 x2 z3 x3 z4 x4 z5 x5 z6 x6 z7 x7 z8 x8
    generalize (((((((((w3.setCell ⟨G, 0, none⟩ (.string ⟨#[]⟩)).setCell ⟨G, 1, none⟩ (.string ⟨#[]⟩)).setCell ⟨G, 2, none⟩ (.int .i64 0)).setCell ⟨G, 3, none⟩ (.bool false)).setCell ⟨G, 4, none⟩ (.int .i64 0)).setCell ⟨G, 5, none⟩ (.string ⟨#[]⟩)).setCell ⟨G, 6, none⟩ (.slice none 0 0)).setCell ⟨G, 7, none⟩ (.slice none 0 0)).setCell ⟨G, 8, none⟩ (.slice none 0 0)) = WF at *
    have b0 := HBF.out.cell 0
    have b1 := HBF.out.cell 1
    have b2 := HBF.out.cell 2
    have b3 := HBF.out.cell 3
    have b4 := HBF.out.cell 4
    have b5 := HBF.out.cell 5
    have b6 := HBF.out.cell 6
    have b7 := HBF.out.cell 7
    have b8 := HBF.out.cell 8
    refine bodyPost_ret (v := .tuple #[.agg #[.string ⟨#[]⟩, .string ⟨#[]⟩, .int .i64 0, .bool false, .int .i64 0, .string ⟨#[]⟩, .slice none 0 0, .slice none 0 0, .slice none 0 0], .int .i64 p, .int .i64 c]) (by simp [results, Tryz.results8, go_sem, b0, b1, b2, b3, b4, b5, b6, b7, b8]) rfl ?_
    rw [HR2.out]
    refine ⟨rfl, ?_⟩
    rw [HGE.out]
    exact HBG.out
  | ok x p =>
    obtain ⟨hp1, hp2⟩ := HLE.out x p hx
    have hdx := HDP.out x p hx
    have HR2 := Lib.hid (show R = if bl s p < s.size then .err (bl s p) 1 else if 32 < x.depth then .err 0 6 else .ok x 0 by rw [HR1.out, hx])
    rw [hx] at hl
    obtain ⟨g, rfl, h2, h3, h4⟩ := hl
    have hb2 := HB0.out
    have HB2 := Lib.hid (show Blk w2 G 30 nul9 from (h3.block G (by omega) (by omega)).trans hb2)
    have HBL := Lib.hid (below_aside HGW.out h3 (by omega) (by omega))
    have HPA := Lib.hid h2
    have HP := Lib.hid h4
    have n1 := run_nilN (some g)
    have n2 : (!(some g).isNone) = true := rfl
    have hw2 := h3.size
    have hz := bl_le hp2
    have i1 : (0 : Int) ≤ (bl s p : Int) := by omega
    clear h2 h3 h4 hx hb2 HT HLE HDP
    obtain ⟨z, hze⟩ : ∃ z, bl s p = z := ⟨_, rfl⟩
    have HNX2 := Lib.hid (HNX.out p)
    rw [hze] at HR2 HNX2 hz i1
    clear hze HNX
    by_cases hlt : z < s.size
    · have v1 : decide ((z : Int) < (s.size : Int)) = true := decide_eq_true (by omega)
      have v2 : decide (z < s.size) = true := decide_eq_true hlt
      have HR3 := Lib.hid (HR2.out.trans (if_pos hlt))
      go_wp2_with fail
      refine (HNX2.out w2 HP.out hp2).mono ?_
      rintro e w3 ⟨rfl, hb3⟩
      have HB3 := Lib.hid (HB2.out.onto hb3)
      have HBL3 := Lib.hid (HBL.out.trans (hb3.mono (by omega)))
      have HP3 := Lib.hid (HP.out.onto hb3)
      have hw3 := hb3.size
      clear hb3
      go_wp2_with fail
      refine (HNX2.out w3 HP3.out hp2).mono ?_
      rintro e w4 ⟨rfl, hb4⟩
      have HB4 := Lib.hid (HB3.out.onto hb4)
      have HBL4 := Lib.hid (HBL3.out.trans (hb4.mono (by omega)))
      have HP4 := Lib.hid (HP3.out.onto hb4)
      have hw4 := hb4.size
      clear hb4 HR2
      go_wp2_with fail
      refine (xfail_any b s p z 1 w4 HP4.out).mono ?_
      rintro e w5 ⟨rfl, ha5, hn5⟩
      have HB5 := Lib.hid (show Blk w5 G 30 nul9 from (ha5.block G (by omega) (by omega)).trans HB4.out)
      have HBL5 := Lib.hid (below_aside HBL4.out ha5 (by omega) (by omega))
      have HN := Lib.hid hn5
      have hw5 := ha5.size
      clear ha5 hn5
      go_wp2_with fail
      refine (xanswer_nil b s z 1 w5 HN.out 0 0).mono ?_
      rintro e w6 ⟨rfl, hb6⟩
      have HB6 := Lib.hid (HB5.out.onto hb6)
      have HBL6 := Lib.hid (HBL5.out.trans (hb6.mono (by omega)))
      clear hb6
      unfold nul9
      obtain ⟨y0, z0⟩ : ∃ u, w6.cell? ⟨G, 0, none⟩ = some u := ⟨.string ⟨#[]⟩, HB6.out.cell 0⟩
      obtain ⟨y1, z1⟩ : ∃ u, w6.cell? ⟨G, 1, none⟩ = some u := ⟨.string ⟨#[]⟩, HB6.out.cell 1⟩
      obtain ⟨y2, z2⟩ : ∃ u, w6.cell? ⟨G, 2, none⟩ = some u := ⟨.int .i64 0, HB6.out.cell 2⟩
      obtain ⟨y3, z3⟩ : ∃ u, w6.cell? ⟨G, 3, none⟩ = some u := ⟨.bool false, HB6.out.cell 3⟩
      obtain ⟨y4, z4⟩ : ∃ u, w6.cell? ⟨G, 4, none⟩ = some u := ⟨.int .i64 0, HB6.out.cell 4⟩
      obtain ⟨y5, z5⟩ : ∃ u, w6.cell? ⟨G, 5, none⟩ = some u := ⟨.string ⟨#[]⟩, HB6.out.cell 5⟩
      obtain ⟨y6, z6⟩ : ∃ u, w6.cell? ⟨G, 6, none⟩ = some u := ⟨.slice none 0 0, HB6.out.cell 6⟩
      obtain ⟨y7, z7⟩ : ∃ u, w6.cell? ⟨G, 7, none⟩ = some u := ⟨.slice none 0 0, HB6.out.cell 7⟩
      obtain ⟨y8, z8⟩ : ∃ u, w6.cell? ⟨G, 8, none⟩ = some u := ⟨.slice none 0 0, HB6.out.cell 8⟩
      have x0 := HB6.out.free 0
      have x1 := HB6.out.free 1
      have x2 := HB6.out.free 2
      have x3 := HB6.out.free 3
      have x4 := HB6.out.free 4
      have x5 := HB6.out.free 5
      have x6 := HB6.out.free 6
      have x7 := HB6.out.free 7
      have x8 := HB6.out.free 8
      go_wp2_with fail
      have HBF := Lib.hid (show Blk (((((((((w6.setCell ⟨G, 0, none⟩ (.string ⟨#[]⟩)).setCell ⟨G, 1, none⟩ (.string ⟨#[]⟩)).setCell ⟨G, 2, none⟩ (.int .i64 0)).setCell ⟨G, 3, none⟩ (.bool false)).setCell ⟨G, 4, none⟩ (.int .i64 0)).setCell ⟨G, 5, none⟩ (.string ⟨#[]⟩)).setCell ⟨G, 6, none⟩ (.slice none 0 0)).setCell ⟨G, 7, none⟩ (.slice none 0 0)).setCell ⟨G, 8, none⟩ (.slice none 0 0)) G 30 #[.string ⟨#[]⟩, .string ⟨#[]⟩, .int .i64 0, .bool false, .int .i64 0, .string ⟨#[]⟩, .slice none 0 0, .slice none 0 0, .slice none 0 0] from put9_blk HB6.out _ _ _ _ _ _ _ _ _)
      have HBG := Lib.hid (put9_below (o := 0) HBL6.out (Nat.le_refl G) (.string ⟨#[]⟩) (.string ⟨#[]⟩) (.int .i64 0) (.bool false) (.int .i64 0) (.string ⟨#[]⟩) (.slice none 0 0) (.slice none 0 0) (.slice none 0 0))
      clear z0 x0 z1 x1 z2 x2 z3 x3 z4 x4 z5 x5 z6 x6 z7 x7 z8 x8
      generalize (((((((((w6.setCell ⟨G, 0, none⟩ (.string ⟨#[]⟩)).setCell ⟨G, 1, none⟩ (.string ⟨#[]⟩)).setCell ⟨G, 2, none⟩ (.int .i64 0)).setCell ⟨G, 3, none⟩ (.bool false)).setCell ⟨G, 4, none⟩ (.int .i64 0)).setCell ⟨G, 5, none⟩ (.string ⟨#[]⟩)).setCell ⟨G, 6, none⟩ (.slice none 0 0)).setCell ⟨G, 7, none⟩ (.slice none 0 0)).setCell ⟨G, 8, none⟩ (.slice none 0 0)) = WF at *
      have b0 := HBF.out.cell 0
      have b1 := HBF.out.cell 1
      have b2 := HBF.out.cell 2
      have b3 := HBF.out.cell 3
      have b4 := HBF.out.cell 4
      have b5 := HBF.out.cell 5
      have b6 := HBF.out.cell 6
      have b7 := HBF.out.cell 7
      have b8 := HBF.out.cell 8
      refine bodyPost_ret (v := .tuple #[.agg #[.string ⟨#[]⟩, .string ⟨#[]⟩, .int .i64 0, .bool false, .int .i64 0, .string ⟨#[]⟩, .slice none 0 0, .slice none 0 0, .slice none 0 0], .int .i64 z, .int .i64 1]) (by simp [results, Tryz.results8, go_sem, b0, b1, b2, b3, b4, b5, b6, b7, b8]) rfl ?_
      rw [HR3.out]
      refine ⟨rfl, ?_⟩
      rw [HGE.out]
      exact HBG.out
    · have v1 : decide ((z : Int) < (s.size : Int)) = false := decide_eq_false (by omega)
      have v2 : decide (z < s.size) = false := decide_eq_false hlt
      have HR3 := Lib.hid (HR2.out.trans (if_neg hlt))
      clear HR2
      go_wp2_with fail
      refine (HNX2.out w2 HP.out hp2).mono ?_
      rintro e w3 ⟨rfl, hb3⟩
      have HB3 := Lib.hid (HB2.out.onto hb3)
      have HBL3 := Lib.hid (HBL.out.trans (hb3.mono (by omega)))
      have HPA3 := Lib.hid ((HPA.out.keep fun q hq => hb3.block q hq.2).wide (S' := fun q => b < q ∧ q < w3.heap.size) fun q hq => ⟨by omega, Nat.lt_of_lt_of_le hq.2 hb3.size⟩)
      have hw3 := hb3.size
      clear hb3
      go_wp2_with fail
      by_cases hd : 32 < x.depth
      · have HR4 := Lib.hid (HR3.out.trans (if_pos hd))
        refine (xanswer_deep b g x.depth w3 HPA3.out.deep hd (by omega) 0 0).mono ?_
        rintro e w4 ⟨rfl, hb4⟩
        have HB4 := Lib.hid (HB3.out.onto hb4)
        have HBL4 := Lib.hid (HBL3.out.trans (hb4.mono (by omega)))
        clear hb4 HR3
        unfold nul9
        obtain ⟨y0, z0⟩ : ∃ u, w4.cell? ⟨G, 0, none⟩ = some u := ⟨.string ⟨#[]⟩, HB4.out.cell 0⟩
        obtain ⟨y1, z1⟩ : ∃ u, w4.cell? ⟨G, 1, none⟩ = some u := ⟨.string ⟨#[]⟩, HB4.out.cell 1⟩
        obtain ⟨y2, z2⟩ : ∃ u, w4.cell? ⟨G, 2, none⟩ = some u := ⟨.int .i64 0, HB4.out.cell 2⟩
        obtain ⟨y3, z3⟩ : ∃ u, w4.cell? ⟨G, 3, none⟩ = some u := ⟨.bool false, HB4.out.cell 3⟩
        obtain ⟨y4, z4⟩ : ∃ u, w4.cell? ⟨G, 4, none⟩ = some u := ⟨.int .i64 0, HB4.out.cell 4⟩
        obtain ⟨y5, z5⟩ : ∃ u, w4.cell? ⟨G, 5, none⟩ = some u := ⟨.string ⟨#[]⟩, HB4.out.cell 5⟩
        obtain ⟨y6, z6⟩ : ∃ u, w4.cell? ⟨G, 6, none⟩ = some u := ⟨.slice none 0 0, HB4.out.cell 6⟩
        obtain ⟨y7, z7⟩ : ∃ u, w4.cell? ⟨G, 7, none⟩ = some u := ⟨.slice none 0 0, HB4.out.cell 7⟩
        obtain ⟨y8, z8⟩ : ∃ u, w4.cell? ⟨G, 8, none⟩ = some u := ⟨.slice none 0 0, HB4.out.cell 8⟩
        have x0 := HB4.out.free 0
        have x1 := HB4.out.free 1
        have x2 := HB4.out.free 2
        have x3 := HB4.out.free 3
        have x4 := HB4.out.free 4
        have x5 := HB4.out.free 5
        have x6 := HB4.out.free 6
        have x7 := HB4.out.free 7
        have x8 := HB4.out.free 8
        go_wp2_with fail
        have HBF := Lib.hid (show Blk (((((((((w4.setCell ⟨G, 0, none⟩ (.string ⟨#[]⟩)).setCell ⟨G, 1, none⟩ (.string ⟨#[]⟩)).setCell ⟨G, 2, none⟩ (.int .i64 0)).setCell ⟨G, 3, none⟩ (.bool false)).setCell ⟨G, 4, none⟩ (.int .i64 0)).setCell ⟨G, 5, none⟩ (.string ⟨#[]⟩)).setCell ⟨G, 6, none⟩ (.slice none 0 0)).setCell ⟨G, 7, none⟩ (.slice none 0 0)).setCell ⟨G, 8, none⟩ (.slice none 0 0)) G 30 #[.string ⟨#[]⟩, .string ⟨#[]⟩, .int .i64 0, .bool false, .int .i64 0, .string ⟨#[]⟩, .slice none 0 0, .slice none 0 0, .slice none 0 0] from put9_blk HB4.out _ _ _ _ _ _ _ _ _)
        have HBG := Lib.hid (put9_below (o := 0) HBL4.out (Nat.le_refl G) (.string ⟨#[]⟩) (.string ⟨#[]⟩) (.int .i64 0) (.bool false) (.int .i64 0) (.string ⟨#[]⟩) (.slice none 0 0) (.slice none 0 0) (.slice none 0 0))
        clear z0 x0 z1 x1 z2 x2 z3 x3 z4 x4 z5 x5 z6 x6 z7 x7 z8 x8
        generalize (((((((((w4.setCell ⟨G, 0, none⟩ (.string ⟨#[]⟩)).setCell ⟨G, 1, none⟩ (.string ⟨#[]⟩)).setCell ⟨G, 2, none⟩ (.int .i64 0)).setCell ⟨G, 3, none⟩ (.bool false)).setCell ⟨G, 4, none⟩ (.int .i64 0)).setCell ⟨G, 5, none⟩ (.string ⟨#[]⟩)).setCell ⟨G, 6, none⟩ (.slice none 0 0)).setCell ⟨G, 7, none⟩ (.slice none 0 0)).setCell ⟨G, 8, none⟩ (.slice none 0 0)) = WF at *
        have b0 := HBF.out.cell 0
        have b1 := HBF.out.cell 1
        have b2 := HBF.out.cell 2
        have b3 := HBF.out.cell 3
        have b4 := HBF.out.cell 4
        have b5 := HBF.out.cell 5
        have b6 := HBF.out.cell 6
        have b7 := HBF.out.cell 7
        have b8 := HBF.out.cell 8
        refine bodyPost_ret (v := .tuple #[.agg #[.string ⟨#[]⟩, .string ⟨#[]⟩, .int .i64 0, .bool false, .int .i64 0, .string ⟨#[]⟩, .slice none 0 0, .slice none 0 0, .slice none 0 0], .int .i64 0, .int .i64 6]) (by simp [results, Tryz.results8, go_sem, b0, b1, b2, b3, b4, b5, b6, b7, b8]) rfl ?_
        rw [HR4.out]
        refine ⟨rfl, ?_⟩
        rw [HGE.out]
        exact HBG.out
      · have HR4 := Lib.hid (HR3.out.trans (if_neg hd))
        refine (xanswer_ok b g x w3 _ (fun q hq => hq.2) HPA3.out (by omega) 0 0).mono ?_
        rintro e w4 ⟨h, rfl, hev, hb4⟩
        have HB4 := Lib.hid (HB3.out.onto hb4)
        have HBL4 := Lib.hid (HBL3.out.trans (hb4.mono (by omega)))
        have HEV := Lib.hid (hev.wide (S' := fun q => q ≠ G ∧ G < q ∧ q < w4.heap.size) fun q hq => ⟨by omega, by omega, Nat.lt_of_lt_of_le hq.2 hb4.size⟩)
        clear hb4 HR3 hev
        unfold ecs
        obtain ⟨y0, z0⟩ : ∃ u, w4.cell? ⟨G, 0, none⟩ = some u := ⟨.string ⟨#[]⟩, HB4.out.cell 0⟩
        obtain ⟨y1, z1⟩ : ∃ u, w4.cell? ⟨G, 1, none⟩ = some u := ⟨.string ⟨#[]⟩, HB4.out.cell 1⟩
        obtain ⟨y2, z2⟩ : ∃ u, w4.cell? ⟨G, 2, none⟩ = some u := ⟨.int .i64 0, HB4.out.cell 2⟩
        obtain ⟨y3, z3⟩ : ∃ u, w4.cell? ⟨G, 3, none⟩ = some u := ⟨.bool false, HB4.out.cell 3⟩
        obtain ⟨y4, z4⟩ : ∃ u, w4.cell? ⟨G, 4, none⟩ = some u := ⟨.int .i64 0, HB4.out.cell 4⟩
        obtain ⟨y5, z5⟩ : ∃ u, w4.cell? ⟨G, 5, none⟩ = some u := ⟨.string ⟨#[]⟩, HB4.out.cell 5⟩
        obtain ⟨y6, z6⟩ : ∃ u, w4.cell? ⟨G, 6, none⟩ = some u := ⟨.slice none 0 0, HB4.out.cell 6⟩
        obtain ⟨y7, z7⟩ : ∃ u, w4.cell? ⟨G, 7, none⟩ = some u := ⟨.slice none 0 0, HB4.out.cell 7⟩
        obtain ⟨y8, z8⟩ : ∃ u, w4.cell? ⟨G, 8, none⟩ = some u := ⟨.slice none 0 0, HB4.out.cell 8⟩
        have x0 := HB4.out.free 0
        have x1 := HB4.out.free 1
        have x2 := HB4.out.free 2
        have x3 := HB4.out.free 3
        have x4 := HB4.out.free 4
        have x5 := HB4.out.free 5
        have x6 := HB4.out.free 6
        have x7 := HB4.out.free 7
        have x8 := HB4.out.free 8
        go_wp2_with fail
        have HBF := Lib.hid (show Blk (((((((((w4.setCell ⟨G, 0, none⟩ (.string x.op)).setCell ⟨G, 1, none⟩ (.string x.name)).setCell ⟨G, 2, none⟩ (.int .i64 x.lit.kind)).setCell ⟨G, 3, none⟩ (.bool x.lit.tr)).setCell ⟨G, 4, none⟩ (.int .i64 x.lit.num)).setCell ⟨G, 5, none⟩ (.string x.lit.str)).setCell ⟨G, 6, none⟩ (.slice h.L x.lit.items.length h.l)).setCell ⟨G, 7, none⟩ (.slice h.L' x.lit.keys.length h.l')).setCell ⟨G, 8, none⟩ (.slice h.A x.args.length h.c)) G 30 #[.string x.op, .string x.name, .int .i64 x.lit.kind, .bool x.lit.tr, .int .i64 x.lit.num, .string x.lit.str, .slice h.L x.lit.items.length h.l, .slice h.L' x.lit.keys.length h.l', .slice h.A x.args.length h.c] from put9_blk HB4.out _ _ _ _ _ _ _ _ _)
        have HBG := Lib.hid (put9_below (o := 0) HBL4.out (Nat.le_refl G) (.string x.op) (.string x.name) (.int .i64 x.lit.kind) (.bool x.lit.tr) (.int .i64 x.lit.num) (.string x.lit.str) (.slice h.L x.lit.items.length h.l) (.slice h.L' x.lit.keys.length h.l') (.slice h.A x.args.length h.c))
        have HSZ := Lib.hid (show (((((((((w4.setCell ⟨G, 0, none⟩ (.string x.op)).setCell ⟨G, 1, none⟩ (.string x.name)).setCell ⟨G, 2, none⟩ (.int .i64 x.lit.kind)).setCell ⟨G, 3, none⟩ (.bool x.lit.tr)).setCell ⟨G, 4, none⟩ (.int .i64 x.lit.num)).setCell ⟨G, 5, none⟩ (.string x.lit.str)).setCell ⟨G, 6, none⟩ (.slice h.L x.lit.items.length h.l)).setCell ⟨G, 7, none⟩ (.slice h.L' x.lit.keys.length h.l')).setCell ⟨G, 8, none⟩ (.slice h.A x.args.length h.c)).heap.size = w4.heap.size by simp)
        have HKF := Lib.hid (show Keeps (fun q => q ≠ G) w4 (((((((((w4.setCell ⟨G, 0, none⟩ (.string x.op)).setCell ⟨G, 1, none⟩ (.string x.name)).setCell ⟨G, 2, none⟩ (.int .i64 x.lit.kind)).setCell ⟨G, 3, none⟩ (.bool x.lit.tr)).setCell ⟨G, 4, none⟩ (.int .i64 x.lit.num)).setCell ⟨G, 5, none⟩ (.string x.lit.str)).setCell ⟨G, 6, none⟩ (.slice h.L x.lit.items.length h.l)).setCell ⟨G, 7, none⟩ (.slice h.L' x.lit.keys.length h.l')).setCell ⟨G, 8, none⟩ (.slice h.A x.args.length h.c)) from fun q hq => put9_heap hq _ _ _ _ _ _ _ _ _)
        clear z0 x0 z1 x1 z2 x2 z3 x3 z4 x4 z5 x5 z6 x6 z7 x7 z8 x8
        generalize (((((((((w4.setCell ⟨G, 0, none⟩ (.string x.op)).setCell ⟨G, 1, none⟩ (.string x.name)).setCell ⟨G, 2, none⟩ (.int .i64 x.lit.kind)).setCell ⟨G, 3, none⟩ (.bool x.lit.tr)).setCell ⟨G, 4, none⟩ (.int .i64 x.lit.num)).setCell ⟨G, 5, none⟩ (.string x.lit.str)).setCell ⟨G, 6, none⟩ (.slice h.L x.lit.items.length h.l)).setCell ⟨G, 7, none⟩ (.slice h.L' x.lit.keys.length h.l')).setCell ⟨G, 8, none⟩ (.slice h.A x.args.length h.c)) = WF at *
        have b0 := HBF.out.cell 0
        have b1 := HBF.out.cell 1
        have b2 := HBF.out.cell 2
        have b3 := HBF.out.cell 3
        have b4 := HBF.out.cell 4
        have b5 := HBF.out.cell 5
        have b6 := HBF.out.cell 6
        have b7 := HBF.out.cell 7
        have b8 := HBF.out.cell 8
        refine bodyPost_ret (v := .tuple #[.agg #[.string x.op, .string x.name, .int .i64 x.lit.kind, .bool x.lit.tr, .int .i64 x.lit.num, .string x.lit.str, .slice h.L x.lit.items.length h.l, .slice h.L' x.lit.keys.length h.l', .slice h.A x.args.length h.c], .int .i64 0, .int .i64 0]) (by simp [results, Tryz.results8, go_sem, b0, b1, b2, b3, b4, b5, b6, b7, b8]) rfl ?_
        rw [HR4.out]
        have hsz4 := HBG.out.size
        refine ⟨h, rfl, ?_, ?_⟩
        · have := (HEV.out.keep (fun q hq => HKF.out q hq.1)).wide (S' := fun q => w.heap.size ≤ q ∧ q < WF.heap.size) fun q hq => ⟨by rw [HGE.out]; omega, by have := hq.2.2; rw [HSZ.out]; exact this⟩
          exact this
        · rw [HGE.out]; exact HBG.out
end Go.Proofs.YtikfmgedmiocgaaGreatDoor
