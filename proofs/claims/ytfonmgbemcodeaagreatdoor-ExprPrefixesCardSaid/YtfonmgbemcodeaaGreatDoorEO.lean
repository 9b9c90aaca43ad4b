/- Prefix: contract of the program's function. How deep a tree is: contract of the program's Depth. -/
import Derived.Test.YtfonmgbemcodeaaGreatDoorEN
set_option linter.unusedVariables false
set_option maxRecDepth 100000
set_option maxHeartbeats 8000000
open Go.Lib (hid)
namespace Go.Proofs.YtfonmgbemcodeaaGreatDoor
open Go.RowKit
open Tk Ex
theorem xprefix_out (s : ByteArray) (i : Int) (w : World) (hi : i < 0 ∨ (s.size : Int) < i) (hs : s.size ≤ 1000000000) : Calls Tryz.prog 5 #[.string s, .int .i64 i] w (ReadP (.err 0 8) w) := by
 have hW : Below w.heap.size w (w.alloc (.cells #[.string ⟨#[]⟩, .string ⟨#[]⟩, .int .i64 0, .bool false, .int .i64 0, .string ⟨#[]⟩, .slice none 0 0, .slice none 0 0, .slice none 0 0] 29)) := (Below.refl _ _).alloc (Nat.le_refl _) _
 have hB : Blk (w.alloc (.cells #[.string ⟨#[]⟩, .string ⟨#[]⟩, .int .i64 0, .bool false, .int .i64 0, .string ⟨#[]⟩, .slice none 0 0, .slice none 0 0, .slice none 0 0] 29)) w.heap.size 29 nul9 := Blk.new w _ _
 by_cases h0 : i < 0
 ·
  have u1 : decide (i < 0) = true := decide_eq_true h0
  go_enter Tryz.func5, Tryz.ntmps5
  go_upto_region 2 with fail
  change Code.wp _ _ _ _ (w.alloc (.cells #[.string ⟨#[]⟩, .string ⟨#[]⟩, .int .i64 0, .bool false, .int .i64 0, .string ⟨#[]⟩, .slice none 0 0, .slice none 0 0, .slice none 0 0] 29))
  have HW := hid hW
  generalize hWe : (w.alloc (.cells #[.string ⟨#[]⟩, .string ⟨#[]⟩, .int .i64 0, .bool false, .int .i64 0, .string ⟨#[]⟩, .slice none 0 0, .slice none 0 0, .slice none 0 0] 29)) = W at *
  generalize hGe : w.heap.size = G at *
  have HB := hid hB
  have HGE := hid hGe
  clear hB hW hWe hGe
  obtain ⟨y0, y1, y2, y3, y4, y5, y6, y7, y8, z0, z1, z2, z3, z4, z5, z6, z7, z8, x0, x1, x2, x3, x4, x5, x6, x7, x8⟩ := old9 HB.out
  go_wp2_with fail
  refine put9_gen HB.out _ _ _ _ _ _ _ _ _ (fun WF hf0 hf1 hf2 hf3 => ?_)
  have HBF := hid hf0
  have HBG := hid ((hf1 _ _ HW.out (Nat.le_refl G)))
  clear z0 x0 z1 x1 z2 x2 z3 x3 z4 x4 z5 x5 z6 x6 z7 x7 z8 x8
  clear hf0 hf1 hf2 hf3
  obtain ⟨b0, b1, b2, b3, b4, b5, b6, b7, b8⟩ := all9 HBF.out
  refine bodyPost_ret (v := .tuple #[.agg #[.string ⟨#[]⟩, .string ⟨#[]⟩, .int .i64 0, .bool false, .int .i64 0, .string ⟨#[]⟩, .slice none 0 0, .slice none 0 0, .slice none 0 0], .int .i64 0, .int .i64 8]) (by simp [results, Tryz.results5, go_sem, b0, b1, b2, b3, b4, b5, b6, b7, b8]) rfl ?_
  refine ⟨rfl, ?_⟩
  rw [HGE.out]
  exact HBG.out
 ·
  have h1 : (s.size : Int) < i := by omega
  have u1 : decide (i < 0) = false := decide_eq_false h0
  have u2 : decide ((s.size : Int) < i) = true := decide_eq_true h1
  go_enter Tryz.func5, Tryz.ntmps5
  go_upto_region 2 with fail
  change Code.wp _ _ _ _ (w.alloc (.cells #[.string ⟨#[]⟩, .string ⟨#[]⟩, .int .i64 0, .bool false, .int .i64 0, .string ⟨#[]⟩, .slice none 0 0, .slice none 0 0, .slice none 0 0] 29))
  have HW := hid hW
  generalize hWe : (w.alloc (.cells #[.string ⟨#[]⟩, .string ⟨#[]⟩, .int .i64 0, .bool false, .int .i64 0, .string ⟨#[]⟩, .slice none 0 0, .slice none 0 0, .slice none 0 0] 29)) = W at *
  generalize hGe : w.heap.size = G at *
  have HB := hid hB
  have HGE := hid hGe
  clear hB hW hWe hGe
  obtain ⟨y0, y1, y2, y3, y4, y5, y6, y7, y8, z0, z1, z2, z3, z4, z5, z6, z7, z8, x0, x1, x2, x3, x4, x5, x6, x7, x8⟩ := old9 HB.out
  go_wp2_with fail
  refine put9_gen HB.out _ _ _ _ _ _ _ _ _ (fun WF hf0 hf1 hf2 hf3 => ?_)
  have HBF := hid hf0
  have HBG := hid ((hf1 _ _ HW.out (Nat.le_refl G)))
  clear z0 x0 z1 x1 z2 x2 z3 x3 z4 x4 z5 x5 z6 x6 z7 x7 z8 x8
  clear hf0 hf1 hf2 hf3
  obtain ⟨b0, b1, b2, b3, b4, b5, b6, b7, b8⟩ := all9 HBF.out
  refine bodyPost_ret (v := .tuple #[.agg #[.string ⟨#[]⟩, .string ⟨#[]⟩, .int .i64 0, .bool false, .int .i64 0, .string ⟨#[]⟩, .slice none 0 0, .slice none 0 0, .slice none 0 0], .int .i64 0, .int .i64 8]) (by simp [results, Tryz.results5, go_sem, b0, b1, b2, b3, b4, b5, b6, b7, b8]) rfl ?_
  refine ⟨rfl, ?_⟩
  rw [HGE.out]
  exact HBG.out
theorem xprefix_in (s : ByteArray) (i : Nat) (w : World) (hs : s.size ≤ 50000) (hi : i ≤ s.size) (hE : RangeErr w) (R : Res) (hRR : prefix_ s i = R) : Calls Tryz.prog 5 #[.string s, .int .i64 i] w (ReadP R w) := by
 have hW : Below w.heap.size w (w.alloc (.cells #[.string ⟨#[]⟩, .string ⟨#[]⟩, .int .i64 0, .bool false, .int .i64 0, .string ⟨#[]⟩, .slice none 0 0, .slice none 0 0, .slice none 0 0] 29)) := (Below.refl _ _).alloc (Nat.le_refl _) _
 have hB : Blk (w.alloc (.cells #[.string ⟨#[]⟩, .string ⟨#[]⟩, .int .i64 0, .bool false, .int .i64 0, .string ⟨#[]⟩, .slice none 0 0, .slice none 0 0, .slice none 0 0] 29)) w.heap.size 29 nul9 := Blk.new w _ _
 have hsz : (w.alloc (.cells #[.string ⟨#[]⟩, .string ⟨#[]⟩, .int .i64 0, .bool false, .int .i64 0, .string ⟨#[]⟩, .slice none 0 0, .slice none 0 0, .slice none 0 0] 29)).heap.size = w.heap.size + 1 := by simp
 have u1 : decide ((i : Int) < 0) = false := decide_eq_false (by omega)
 have u2 : decide ((s.size : Int) < (i : Int)) = false := decide_eq_false (by omega)
 have u3 : decide (s.size < i) = false := decide_eq_false (by omega)
 have hR1 : R = match top s i with
  | .ok e p => if 32 < e.depth then .err i 6 else .ok e p
  | .err p c => .err p c
  | .out => .out := by rw [← hRR]; unfold prefix_; cases top s i <;> rfl
 have HR1 := hid hR1
 clear hR1 hRR
 go_enter Tryz.func5, Tryz.ntmps5
 go_upto_region 3 with fail
 change Code.wp _ _ _ _ (w.alloc (.cells #[.string ⟨#[]⟩, .string ⟨#[]⟩, .int .i64 0, .bool false, .int .i64 0, .string ⟨#[]⟩, .slice none 0 0, .slice none 0 0, .slice none 0 0] 29))
 have HW := hid hW
 generalize hWe : (w.alloc (.cells #[.string ⟨#[]⟩, .string ⟨#[]⟩, .int .i64 0, .bool false, .int .i64 0, .string ⟨#[]⟩, .slice none 0 0, .slice none 0 0, .slice none 0 0] 29)) = W at *
 have hW1 : Below W.heap.size W (W.alloc (.cells #[.string s, .int .i64 i, .int .i64 0, .int .i64 0] 49)) := (Below.refl _ _).alloc (Nat.le_refl _) _
 have hB1 : Blk (W.alloc (.cells #[.string s, .int .i64 i, .int .i64 0, .int .i64 0] 49)) W.heap.size 49 #[.string s, .int .i64 i, .int .i64 0, .int .i64 0] := Blk.new W _ _
 have hB0 := hB.onto hW1
 have hgw := hW.trans (hW1.mono hW.size)
 have hE8 : Err8 W.heap.size (W.alloc (.cells #[.string s, .int .i64 i, .int .i64 0, .int .i64 0] 49)) := ⟨w, hE, by omega, hgw⟩
 have hpx : Px (W.alloc (.cells #[.string s, .int .i64 i, .int .i64 0, .int .i64 0] 49)) W.heap.size s i := ⟨0, 0, hB1⟩
 have hGb : w.heap.size < W.heap.size := by omega
 clear hsz
 have hbs : W.heap.size < (W.alloc (.cells #[.string s, .int .i64 i, .int .i64 0, .int .i64 0] 49)).heap.size := hB1.lt
 go_upto_region 4 with fail
 change Code.wp _ _ _ _ (W.alloc (.cells #[.string s, .int .i64 i, .int .i64 0, .int .i64 0] 49))
 generalize (W.alloc (.cells #[.string s, .int .i64 i, .int .i64 0, .int .i64 0] 49)) = W1 at *
 generalize hbe : W.heap.size = b at *
 generalize hGe : w.heap.size = G at *
 have HT := hid (xtop_any s (by omega) i b W1 hpx hE8 hi)
 have HB0 := hid hB0
 have HGW := hid hgw
 have HGE := hid hGe
 have HLE := hid (fun e p (h : top s i = .ok e p) => top_le hi h)
 have HDP := hid (fun e p (h : top s i = .ok e p) => (show e.depth ≤ p from by have := lev_dp (by decide) hi h; omega))
 clear hB hW hWe hB1 hW1 hB0 hgw hE8 hpx hbe hGe
 go_wp2_with fail
 refine HT.out.mono ?_
 intro e w2 hl
 cases hx : top s i with
 | out =>
  exact absurd hx (fun h => by
   have := (enough s (many s)).1 0 i (by decide) hi
   exact this.1 (by unfold many; omega) h)
 | err p c =>
  have HR2 := hid (show R = .err p c by rw [HR1.out, hx])
  rw [hx] at hl
  obtain ⟨rfl, h2, h3⟩ := hl
  have HB2 := hid (show Blk w2 G 29 nul9 from (h2.block G (by omega) (by omega)).trans HB0.out)
  have HBL := hid (below_aside HGW.out h2 (by omega) (by omega))
  have HN := hid h3
  obtain ⟨i2, hblk⟩ := h3
  have q1 := hblk.cell 1
  have hw2 := h2.size
  clear h2 hx HT HLE HDP hblk
  go_wp2_with fail
  refine (xanswer_nil b s p c w2 HN.out i2 i).mono ?_
  rintro e w3 ⟨rfl, hb3⟩
  have HB3 := hid (HB2.out.onto hb3)
  have HBL3 := hid (HBL.out.trans (hb3.mono (by omega)))
  clear hb3 q1
  unfold nul9
  obtain ⟨y0, y1, y2, y3, y4, y5, y6, y7, y8, z0, z1, z2, z3, z4, z5, z6, z7, z8, x0, x1, x2, x3, x4, x5, x6, x7, x8⟩ := old9 HB3.out
  go_wp2_with fail
  refine put9_gen HB3.out _ _ _ _ _ _ _ _ _ (fun WF hf0 hf1 hf2 hf3 => ?_)
  have HBF := hid hf0
  have HBG := hid ((hf1 _ _ HBL3.out (Nat.le_refl G)))
  clear z0 x0 z1 x1 z2 x2 z3 x3 z4 x4 z5 x5 z6 x6 z7 x7 z8 x8
  clear hf0 hf1 hf2 hf3
  obtain ⟨b0, b1, b2, b3, b4, b5, b6, b7, b8⟩ := all9 HBF.out
  refine bodyPost_ret (v := .tuple #[.agg #[.string ⟨#[]⟩, .string ⟨#[]⟩, .int .i64 0, .bool false, .int .i64 0, .string ⟨#[]⟩, .slice none 0 0, .slice none 0 0, .slice none 0 0], .int .i64 p, .int .i64 c]) (by simp [results, Tryz.results5, go_sem, b0, b1, b2, b3, b4, b5, b6, b7, b8]) rfl ?_
  rw [HR2.out]
  refine ⟨rfl, ?_⟩
  rw [HGE.out]
  exact HBG.out
 | ok x p =>
  obtain ⟨hp1, hp2⟩ := HLE.out x p hx
  have hdx := HDP.out x p hx
  have HR2 := hid (show R = if 32 < x.depth then .err i 6 else .ok x p by rw [HR1.out, hx])
  rw [hx] at hl
  obtain ⟨g, rfl, h2, h3, h4⟩ := hl
  have HB2 := hid (show Blk w2 G 29 nul9 from (h3.block G (by omega) (by omega)).trans HB0.out)
  have HBL := hid (below_aside HGW.out h3 (by omega) (by omega))
  have hw2 := h3.size
  have HPA := hid (h2.wide (S' := fun q => b < q ∧ q < w2.heap.size) fun q hq => ⟨by omega, hq.2⟩)
  have q1 := h4.c1
  clear h2 h3 h4 hx HT HLE HDP
  go_wp2_with fail
  by_cases hd : 32 < x.depth
  ·
   have HR4 := hid (HR2.out.trans (if_pos hd))
   refine (xanswer_deep b g x.depth w2 HPA.out.deep hd (by omega) p i).mono ?_
   rintro e w4 ⟨rfl, hb4⟩
   have HB4 := hid (HB2.out.onto hb4)
   have HBL4 := hid (HBL.out.trans (hb4.mono (by omega)))
   clear hb4 HR2 q1
   unfold nul9
   obtain ⟨y0, y1, y2, y3, y4, y5, y6, y7, y8, z0, z1, z2, z3, z4, z5, z6, z7, z8, x0, x1, x2, x3, x4, x5, x6, x7, x8⟩ := old9 HB4.out
   go_wp2_with fail
   refine put9_gen HB4.out _ _ _ _ _ _ _ _ _ (fun WF hf0 hf1 hf2 hf3 => ?_)
   have HBF := hid hf0
   have HBG := hid ((hf1 _ _ HBL4.out (Nat.le_refl G)))
   clear z0 x0 z1 x1 z2 x2 z3 x3 z4 x4 z5 x5 z6 x6 z7 x7 z8 x8
   clear hf0 hf1 hf2 hf3
   obtain ⟨b0, b1, b2, b3, b4, b5, b6, b7, b8⟩ := all9 HBF.out
   refine bodyPost_ret (v := .tuple #[.agg #[.string ⟨#[]⟩, .string ⟨#[]⟩, .int .i64 0, .bool false, .int .i64 0, .string ⟨#[]⟩, .slice none 0 0, .slice none 0 0, .slice none 0 0], .int .i64 i, .int .i64 6]) (by simp [results, Tryz.results5, go_sem, b0, b1, b2, b3, b4, b5, b6, b7, b8]) rfl ?_
   rw [HR4.out]
   refine ⟨rfl, ?_⟩
   rw [HGE.out]
   exact HBG.out
  ·
   have HR4 := hid (HR2.out.trans (if_neg hd))
   refine (xanswer_ok b g x w2 _ (fun q hq => hq.2) HPA.out (by omega) p i).mono ?_
   rintro e w4 ⟨h, rfl, hev, hb4⟩
   have HB4 := hid (HB2.out.onto hb4)
   have HBL4 := hid (HBL.out.trans (hb4.mono (by omega)))
   have HEV := hid (hev.wide (S' := fun q => q ≠ G ∧ G < q ∧ q < w4.heap.size) fun q hq => ⟨by omega, by omega, Nat.lt_of_lt_of_le hq.2 hb4.size⟩)
   clear hb4 HR2 hev q1
   unfold ecs
   obtain ⟨y0, y1, y2, y3, y4, y5, y6, y7, y8, z0, z1, z2, z3, z4, z5, z6, z7, z8, x0, x1, x2, x3, x4, x5, x6, x7, x8⟩ := old9 HB4.out
   go_wp2_with fail
   refine put9_gen HB4.out _ _ _ _ _ _ _ _ _ (fun WF hf0 hf1 hf2 hf3 => ?_)
   have HBF := hid hf0
   have HBG := hid ((hf1 _ _ HBL4.out (Nat.le_refl G)))
   have HSZ := hid hf3
   have HKF := hid (show Keeps (fun q => q ≠ G) w4 WF from fun q hq => (hf2 _ hq))
   clear z0 x0 z1 x1 z2 x2 z3 x3 z4 x4 z5 x5 z6 x6 z7 x7 z8 x8
   clear hf0 hf1 hf2 hf3
   obtain ⟨b0, b1, b2, b3, b4, b5, b6, b7, b8⟩ := all9 HBF.out
   refine bodyPost_ret (v := .tuple #[.agg #[.string x.op, .string x.name, .int .i64 x.lit.kind, .bool x.lit.tr, .int .i64 x.lit.num, .string x.lit.str, .slice h.L x.lit.items.length h.l, .slice h.L' x.lit.keys.length h.l', .slice h.A x.args.length h.c], .int .i64 p, .int .i64 0]) (by simp [results, Tryz.results5, go_sem, b0, b1, b2, b3, b4, b5, b6, b7, b8]) rfl ?_
   rw [HR4.out]
   refine ⟨h, rfl, ?_, ?_⟩
   ·
    have := (HEV.out.keep (fun q hq => HKF.out q hq.1)).wide (S' := fun q => w.heap.size ≤ q ∧ q < WF.heap.size) fun q hq => ⟨by rw [HGE.out]; omega, by have := hq.2.2; rw [HSZ.out]; exact this⟩
    exact this
   · rw [HGE.out]; exact HBG.out
open Go.RowKit
open Tk Ex
theorem args_len (e : E) : e.args.length < e.size := by
 rw [E.size_eq]
 have : ∀ l : List E, l.length ≤ E.sizes l := by
  intro l
  induction l with
  | nil => simp
  | cons x r ih => have := x.size_pos; simp only [List.length_cons, E.sizes]; omega
 have := this e.args
 omega
theorem take_deps {l : List E} {k : Nat} {x : E} (h : l[k]? = some x) : E.depths (l.take (k + 1)) = max (E.depths (l.take k)) x.depth := by
 rw [List.take_add_one, h]
 show E.depths (l.take k ++ [x]) = _
 rw [E.depths_append]
 show max _ (max x.depth 0) = _
 omega
theorem deps_take (l : List E) (k : Nat) : E.depths (l.take k) ≤ E.depths l := by
 have h := E.depths_append (l.take k) (l.drop k)
 rw [List.take_append_drop] at h
 omega
theorem Nine.cells {w : World} {b o : Nat} {e : E} {h : Hd} (k : Nine w b o e h) : w.cell? ⟨b, o, none⟩ = some (.string e.op) ∧ w.cell? ⟨b, o + 1, none⟩ = some (.string e.name) ∧ w.cell? ⟨b, o + 2, none⟩ = some (.int .i64 e.lit.kind) ∧ w.cell? ⟨b, o + 3, none⟩ = some (.bool e.lit.tr) ∧ w.cell? ⟨b, o + 4, none⟩ = some (.int .i64 e.lit.num) ∧ w.cell? ⟨b, o + 5, none⟩ = some (.string e.lit.str) ∧ w.cell? ⟨b, o + 6, none⟩ = some (.slice h.L e.lit.items.length h.l) ∧ w.cell? ⟨b, o + 7, none⟩ = some (.slice h.L' e.lit.keys.length h.l') ∧ w.cell? ⟨b, o + 8, none⟩ = some (.slice h.A e.args.length h.c) := by
 obtain ⟨a0, a1, ⟨s0, s1, s2, s3, s4, s5⟩, a3⟩ := k
 exact ⟨a0, a1, s0, s1, s2, s3, s4, s5, a3⟩
end Go.Proofs.YtfonmgbemcodeaaGreatDoor
