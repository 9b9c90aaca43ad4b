/- Parse: contract of the program's function. -/
import Derived.Test.YtfbipnflgjhaiaaGreatDoorEM
set_option linter.unusedVariables false
set_option maxRecDepth 100000
set_option maxHeartbeats 8000000
open Go.Lib (hid)
namespace Go.Proofs.YtfbipnflgjhaiaaGreatDoor
open Go.RowKit
open Tk Ex
def ReadP (R : Res) (w : World) (e : Ending) (w' : World) : Prop := match R with
 | .out => True
 | .ok x p => ∃ h, e = .returned (.tuple #[.agg (ecs x h), .int .i64 p, .int .i64 0]) ∧ EV w' (fun q => w.heap.size ≤ q ∧ q < w'.heap.size) x h ∧ Below w.heap.size w w'
 | .err p c => e = .returned (.tuple #[.agg nul9, .int .i64 p, .int .i64 c]) ∧ Below w.heap.size w w'
theorem below_aside {G b : Nat} {w w1 w2 : World} (h : Below G w w1) (ha : Aside b w1 w2) (hb : G ≤ b) (hG : G ≤ w1.heap.size) : Below G w w2 :=
 ⟨ha.os.trans h.os, ha.tape.trans h.tape, ha.output.trans h.output, Nat.le_trans h.size ha.size, fun k hk => (ha.block k (by omega) (by omega)).trans (h.block k hk)⟩
theorem xparse_short (s : ByteArray) (w : World) (hs : s.size ≤ 2048) (hE : RangeErr w) (R : Res) (hRR : parse s = R) : Calls Tryz.prog 11 #[.string s] w (ReadP R w) := by
 have hW : Below w.heap.size w (w.alloc (.cells #[.string ⟨#[]⟩, .string ⟨#[]⟩, .int .i64 0, .bool false, .int .i64 0, .string ⟨#[]⟩, .slice none 0 0, .slice none 0 0, .slice none 0 0] 52)) := (Below.refl _ _).alloc (Nat.le_refl _) _
 have hB : Blk (w.alloc (.cells #[.string ⟨#[]⟩, .string ⟨#[]⟩, .int .i64 0, .bool false, .int .i64 0, .string ⟨#[]⟩, .slice none 0 0, .slice none 0 0, .slice none 0 0] 52)) w.heap.size 52 nul9 := Blk.new w _ _
 have hsz : (w.alloc (.cells #[.string ⟨#[]⟩, .string ⟨#[]⟩, .int .i64 0, .bool false, .int .i64 0, .string ⟨#[]⟩, .slice none 0 0, .slice none 0 0, .slice none 0 0] 52)).heap.size = w.heap.size + 1 := by simp
 have u1 : decide ((s.size : Int) > 2048) = false := decide_eq_false (by omega)
 have u2 : decide ((2048 : Int) < (s.size : Int)) = false := decide_eq_false (by omega)
 have u3 : decide (2048 < s.size) = false := decide_eq_false (by omega)
 have hR1 : R = match top s 0 with
  | .ok e p => if bl s p < s.size then .err (bl s p) 1 else if 32 < e.depth then .err 0 6 else .ok e 0
  | .err p c => .err p c
  | .out => .out := by rw [← hRR]; unfold parse; rw [if_neg (by omega)]; cases top s 0 <;> rfl
 have HR1 := hid hR1
 clear hR1 hRR
 go_enter Tryz.func11, Tryz.ntmps11
 go_upto_region 3 with fail
 change Code.wp _ _ _ _ (w.alloc (.cells #[.string ⟨#[]⟩, .string ⟨#[]⟩, .int .i64 0, .bool false, .int .i64 0, .string ⟨#[]⟩, .slice none 0 0, .slice none 0 0, .slice none 0 0] 52))
 have HW := hid hW
 generalize hWe : (w.alloc (.cells #[.string ⟨#[]⟩, .string ⟨#[]⟩, .int .i64 0, .bool false, .int .i64 0, .string ⟨#[]⟩, .slice none 0 0, .slice none 0 0, .slice none 0 0] 52)) = W at *
 have hW1 : Below W.heap.size W (W.alloc (.cells #[.string s, .int .i64 0, .int .i64 0, .int .i64 0] 73)) := (Below.refl _ _).alloc (Nat.le_refl _) _
 have hB1 : Blk (W.alloc (.cells #[.string s, .int .i64 0, .int .i64 0, .int .i64 0] 73)) W.heap.size 73 #[.string s, .int .i64 0, .int .i64 0, .int .i64 0] := Blk.new W _ _
 have hB0 := hB.onto hW1
 have hgw := hW.trans (hW1.mono hW.size)
 have hE8 : Err8 W.heap.size (W.alloc (.cells #[.string s, .int .i64 0, .int .i64 0, .int .i64 0] 73)) := ⟨w, hE, by omega, hgw⟩
 have hpx : Px (W.alloc (.cells #[.string s, .int .i64 0, .int .i64 0, .int .i64 0] 73)) W.heap.size s 0 := ⟨0, 0, hB1⟩
 have hGb : w.heap.size < W.heap.size := by omega
 clear hsz
 have hbs : W.heap.size < (W.alloc (.cells #[.string s, .int .i64 0, .int .i64 0, .int .i64 0] 73)).heap.size := hB1.lt
 go_upto_region 4 with fail
 change Code.wp _ _ _ _ (W.alloc (.cells #[.string s, .int .i64 0, .int .i64 0, .int .i64 0] 73))
 generalize (W.alloc (.cells #[.string s, .int .i64 0, .int .i64 0, .int .i64 0] 73)) = W1 at *
 generalize hbe : W.heap.size = b at *
 generalize hGe : w.heap.size = G at *
 have HT := hid (xtop_any s (by omega) 0 b W1 hpx hE8 (Nat.zero_le _))
 have HB0 := hid hB0
 have HGW := hid hgw
 have HGE := hid hGe
 have HNX := hid (fun (p : Nat) w2 (h : Px w2 b s p) (hp : p ≤ s.size) => xnext_any b s p w2 (by omega) h.c0 h.c1 hp)
 have HLE := hid (fun e p (h : top s 0 = .ok e p) => top_le (Nat.zero_le _) h)
 have HDP := hid (fun e p (h : top s 0 = .ok e p) => (show e.depth ≤ p from by have := lev_dp (by decide) (Nat.zero_le _) h; omega))
 clear hB hW hWe hB1 hW1 hB0 hgw hE8 hpx hbe hGe
 go_wp2_with fail
 refine HT.out.mono ?_
 intro e w2 hl
 cases hx : top s 0 with
 | out =>
  have hR2 : R = .out := by rw [HR1.out, hx]
  exact absurd hx (fun h => by
   have := (enough s (many s)).1 0 0 (by decide) (Nat.zero_le _)
   exact this.1 (by unfold many; omega) h)
 | err p c =>
  have HR2 := hid (show R = .err p c by rw [HR1.out, hx])
  rw [hx] at hl
  obtain ⟨rfl, h2, h3⟩ := hl
  have hb2 := HB0.out
  have HB2 := hid (show Blk w2 G 52 nul9 from (h2.block G (by omega) (by omega)).trans hb2)
  have HBL := hid (below_aside HGW.out h2 (by omega) (by omega))
  have HN := hid h3
  have n1 := run_nilN none
  have n2 : (!(none : Option Nat).isNone) = false := rfl
  have hw2 := h2.size
  clear h2 h3 hx hb2 HT HLE HDP
  go_wp2_with fail
  refine (xanswer_nil b s p c w2 HN.out 0 0).mono ?_
  rintro e w3 ⟨rfl, hb3⟩
  have HB3 := hid (HB2.out.onto hb3)
  have HBL3 := hid (HBL.out.trans (hb3.mono (by omega)))
  clear hb3
  unfold nul9
  obtain ⟨y0, y1, y2, y3, y4, y5, y6, y7, y8, z0, z1, z2, z3, z4, z5, z6, z7, z8, x0, x1, x2, x3, x4, x5, x6, x7, x8⟩ := old9 HB3.out
  go_wp2_with fail
  refine put9_gen HB3.out _ _ _ _ _ _ _ _ _ (fun WF hf0 hf1 hf2 hf3 => ?_)
  have HBF := hid hf0
  have HBG := hid ((hf1 _ _ HBL3.out (Nat.le_refl G)))
  clear z0 x0 z1 x1 z2 x2 z3 x3 z4 x4 z5 x5 z6 x6 z7 x7 z8 x8
  clear hf0 hf1 hf2 hf3
  obtain ⟨b0, b1, b2, b3, b4, b5, b6, b7, b8⟩ := all9 HBF.out
  refine bodyPost_ret (v := .tuple #[.agg #[.string ⟨#[]⟩, .string ⟨#[]⟩, .int .i64 0, .bool false, .int .i64 0, .string ⟨#[]⟩, .slice none 0 0, .slice none 0 0, .slice none 0 0], .int .i64 p, .int .i64 c]) (by simp [results, Tryz.results11, go_sem, b0, b1, b2, b3, b4, b5, b6, b7, b8]) rfl ?_
  rw [HR2.out]
  refine ⟨rfl, ?_⟩
  rw [HGE.out]
  exact HBG.out
 | ok x p =>
  obtain ⟨hp1, hp2⟩ := HLE.out x p hx
  have hdx := HDP.out x p hx
  have HR2 := hid (show R = if bl s p < s.size then .err (bl s p) 1 else if 32 < x.depth then .err 0 6 else .ok x 0 by rw [HR1.out, hx])
  rw [hx] at hl
  obtain ⟨g, rfl, h2, h3, h4⟩ := hl
  have hb2 := HB0.out
  have HB2 := hid (show Blk w2 G 52 nul9 from (h3.block G (by omega) (by omega)).trans hb2)
  have HBL := hid (below_aside HGW.out h3 (by omega) (by omega))
  have HPA := hid h2
  have HP := hid h4
  have n1 := run_nilN (some g)
  have n2 : (!(some g).isNone) = true := rfl
  have hw2 := h3.size
  have hz := bl_le hp2
  have i1 : (0 : Int) ≤ (bl s p : Int) := by omega
  clear h2 h3 h4 hx hb2 HT HLE HDP
  obtain ⟨z, hze⟩ : ∃ z, bl s p = z := ⟨_, rfl⟩
  have HNX2 := hid (HNX.out p)
  rw [hze] at HR2 HNX2 hz i1
  clear hze HNX
  by_cases hlt : z < s.size
  ·
   have v1 : decide ((z : Int) < (s.size : Int)) = true := decide_eq_true (by omega)
   have v2 : decide (z < s.size) = true := decide_eq_true hlt
   have HR3 := hid (HR2.out.trans (if_pos hlt))
   go_wp2_with fail
   refine (HNX2.out w2 HP.out hp2).mono ?_
   rintro e w3 ⟨rfl, hb3⟩
   have HB3 := hid (HB2.out.onto hb3)
   have HBL3 := hid (HBL.out.trans (hb3.mono (by omega)))
   have HP3 := hid (HP.out.onto hb3)
   have hw3 := hb3.size
   clear hb3
   go_wp2_with fail
   refine (HNX2.out w3 HP3.out hp2).mono ?_
   rintro e w4 ⟨rfl, hb4⟩
   have HB4 := hid (HB3.out.onto hb4)
   have HBL4 := hid (HBL3.out.trans (hb4.mono (by omega)))
   have HP4 := hid (HP3.out.onto hb4)
   have hw4 := hb4.size
   clear hb4 HR2
   go_wp2_with fail
   refine (xfail_any b s p z 1 w4 HP4.out).mono ?_
   rintro e w5 ⟨rfl, ha5, hn5⟩
   have HB5 := hid (show Blk w5 G 52 nul9 from (ha5.block G (by omega) (by omega)).trans HB4.out)
   have HBL5 := hid (below_aside HBL4.out ha5 (by omega) (by omega))
   have HN := hid hn5
   have hw5 := ha5.size
   clear ha5 hn5
   go_wp2_with fail
   refine (xanswer_nil b s z 1 w5 HN.out 0 0).mono ?_
   rintro e w6 ⟨rfl, hb6⟩
   have HB6 := hid (HB5.out.onto hb6)
   have HBL6 := hid (HBL5.out.trans (hb6.mono (by omega)))
   clear hb6
   unfold nul9
   obtain ⟨y0, y1, y2, y3, y4, y5, y6, y7, y8, z0, z1, z2, z3, z4, z5, z6, z7, z8, x0, x1, x2, x3, x4, x5, x6, x7, x8⟩ := old9 HB6.out
   go_wp2_with fail
   refine put9_gen HB6.out _ _ _ _ _ _ _ _ _ (fun WF hf0 hf1 hf2 hf3 => ?_)
   have HBF := hid hf0
   have HBG := hid ((hf1 _ _ HBL6.out (Nat.le_refl G)))
   clear z0 x0 z1 x1 z2 x2 z3 x3 z4 x4 z5 x5 z6 x6 z7 x7 z8 x8
   clear hf0 hf1 hf2 hf3
   obtain ⟨b0, b1, b2, b3, b4, b5, b6, b7, b8⟩ := all9 HBF.out
   refine bodyPost_ret (v := .tuple #[.agg #[.string ⟨#[]⟩, .string ⟨#[]⟩, .int .i64 0, .bool false, .int .i64 0, .string ⟨#[]⟩, .slice none 0 0, .slice none 0 0, .slice none 0 0], .int .i64 z, .int .i64 1]) (by simp [results, Tryz.results11, go_sem, b0, b1, b2, b3, b4, b5, b6, b7, b8]) rfl ?_
   rw [HR3.out]
   refine ⟨rfl, ?_⟩
   rw [HGE.out]
   exact HBG.out
  ·
   have v1 : decide ((z : Int) < (s.size : Int)) = false := decide_eq_false (by omega)
   have v2 : decide (z < s.size) = false := decide_eq_false hlt
   have HR3 := hid (HR2.out.trans (if_neg hlt))
   clear HR2
   go_wp2_with fail
   refine (HNX2.out w2 HP.out hp2).mono ?_
   rintro e w3 ⟨rfl, hb3⟩
   have HB3 := hid (HB2.out.onto hb3)
   have HBL3 := hid (HBL.out.trans (hb3.mono (by omega)))
   have HPA3 := hid ((HPA.out.keep fun q hq => hb3.block q hq.2).wide (S' := fun q => b < q ∧ q < w3.heap.size) fun q hq => ⟨by omega, Nat.lt_of_lt_of_le hq.2 hb3.size⟩)
   have hw3 := hb3.size
   clear hb3
   go_wp2_with fail
   by_cases hd : 32 < x.depth
   ·
    have HR4 := hid (HR3.out.trans (if_pos hd))
    refine (xanswer_deep b g x.depth w3 HPA3.out.deep hd (by omega) 0 0).mono ?_
    rintro e w4 ⟨rfl, hb4⟩
    have HB4 := hid (HB3.out.onto hb4)
    have HBL4 := hid (HBL3.out.trans (hb4.mono (by omega)))
    clear hb4 HR3
    unfold nul9
    obtain ⟨y0, y1, y2, y3, y4, y5, y6, y7, y8, z0, z1, z2, z3, z4, z5, z6, z7, z8, x0, x1, x2, x3, x4, x5, x6, x7, x8⟩ := old9 HB4.out
    go_wp2_with fail
    refine put9_gen HB4.out _ _ _ _ _ _ _ _ _ (fun WF hf0 hf1 hf2 hf3 => ?_)
    have HBF := hid hf0
    have HBG := hid ((hf1 _ _ HBL4.out (Nat.le_refl G)))
    clear z0 x0 z1 x1 z2 x2 z3 x3 z4 x4 z5 x5 z6 x6 z7 x7 z8 x8
    clear hf0 hf1 hf2 hf3
    obtain ⟨b0, b1, b2, b3, b4, b5, b6, b7, b8⟩ := all9 HBF.out
    refine bodyPost_ret (v := .tuple #[.agg #[.string ⟨#[]⟩, .string ⟨#[]⟩, .int .i64 0, .bool false, .int .i64 0, .string ⟨#[]⟩, .slice none 0 0, .slice none 0 0, .slice none 0 0], .int .i64 0, .int .i64 6]) (by simp [results, Tryz.results11, go_sem, b0, b1, b2, b3, b4, b5, b6, b7, b8]) rfl ?_
    rw [HR4.out]
    refine ⟨rfl, ?_⟩
    rw [HGE.out]
    exact HBG.out
   ·
    have HR4 := hid (HR3.out.trans (if_neg hd))
    refine (xanswer_ok b g x w3 _ (fun q hq => hq.2) HPA3.out (by omega) 0 0).mono ?_
    rintro e w4 ⟨h, rfl, hev, hb4⟩
    have HB4 := hid (HB3.out.onto hb4)
    have HBL4 := hid (HBL3.out.trans (hb4.mono (by omega)))
    have HEV := hid (hev.wide (S' := fun q => q ≠ G ∧ G < q ∧ q < w4.heap.size) fun q hq => ⟨by omega, by omega, Nat.lt_of_lt_of_le hq.2 hb4.size⟩)
    clear hb4 HR3 hev
    unfold ecs
    obtain ⟨y0, y1, y2, y3, y4, y5, y6, y7, y8, z0, z1, z2, z3, z4, z5, z6, z7, z8, x0, x1, x2, x3, x4, x5, x6, x7, x8⟩ := old9 HB4.out
    go_wp2_with fail
    refine put9_gen HB4.out _ _ _ _ _ _ _ _ _ (fun WF hf0 hf1 hf2 hf3 => ?_)
    have HBF := hid hf0
    have HBG := hid ((hf1 _ _ HBL4.out (Nat.le_refl G)))
    have HSZ := hid hf3
    have HKF := hid (show Keeps (fun q => q ≠ G) w4 WF from fun q hq => (hf2 _ hq))
    clear z0 x0 z1 x1 z2 x2 z3 x3 z4 x4 z5 x5 z6 x6 z7 x7 z8 x8
    clear hf0 hf1 hf2 hf3
    obtain ⟨b0, b1, b2, b3, b4, b5, b6, b7, b8⟩ := all9 HBF.out
    refine bodyPost_ret (v := .tuple #[.agg #[.string x.op, .string x.name, .int .i64 x.lit.kind, .bool x.lit.tr, .int .i64 x.lit.num, .string x.lit.str, .slice h.L x.lit.items.length h.l, .slice h.L' x.lit.keys.length h.l', .slice h.A x.args.length h.c], .int .i64 0, .int .i64 0]) (by simp [results, Tryz.results11, go_sem, b0, b1, b2, b3, b4, b5, b6, b7, b8]) rfl ?_
    rw [HR4.out]
    have hsz4 := HBG.out.size
    refine ⟨h, rfl, ?_, ?_⟩
    ·
     have := (HEV.out.keep (fun q hq => HKF.out q hq.1)).wide (S' := fun q => w.heap.size ≤ q ∧ q < WF.heap.size) fun q hq => ⟨by rw [HGE.out]; omega, by have := hq.2.2; rw [HSZ.out]; exact this⟩
     exact this
    · rw [HGE.out]; exact HBG.out
end Go.Proofs.YtfbipnflgjhaiaaGreatDoor
