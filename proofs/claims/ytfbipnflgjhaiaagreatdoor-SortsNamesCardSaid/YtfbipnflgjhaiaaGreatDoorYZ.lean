/- The tree of a whole text, by the reference: contract of Parse. What is parsed of a whole text: its ends, its size; what both parsers answer, in one form. -/
import Derived.Test.YtfbipnflgjhaiaaGreatDoorYG
set_option linter.unusedVariables false
set_option maxRecDepth 100000
set_option maxHeartbeats 8000000
open Go.Lib (hid)
namespace Go.Proofs.YtfbipnflgjhaiaaGreatDoor
open Go.RowKit
open Tk Ex
def ReadT (R : Res) (w : World) (e : Ending) (w' : World) : Prop := ∃ q, e = .returned (.tuple #[.agg (ecs (resE R) q), .int .i64 (resP R : Nat), .int .i64 (resC R)]) ∧ EV w' (· < w'.heap.size) (resE R) q ∧ Below w.heap.size w w' ∧ (resC R = 0 → ∃ x p, R = .ok x p)
theorem ReadT.err {p : Nat} {c : Int} {w w' : World} (hc : c ≠ 0) (hb : Below w.heap.size w w') : ReadT (.err p c) w (.returned (.tuple #[.agg nul9, .int .i64 (p : Int), .int .i64 c])) w' := ⟨hd0, rfl, nulE_ev _ _, hb, fun h => absurd h hc⟩
theorem r8parse_short (s : ByteArray) (w : World) (hs : s.size ≤ 2048) : Calls Tryz.prog 6 #[.string s] w (ReadT (parse s) w) := by
 have u1 : decide ((s.size : Int) > 2048) = false := decide_eq_false (by omega)
 have u2 : decide ((2048 : Int) < (s.size : Int)) = false := decide_eq_false (by omega)
 have u3 : decide (2048 < s.size) = false := decide_eq_false (by omega)
 have HPP := hid (show parse s = (match top s 0 with
  | .ok e p => if bl s p < s.size then .err (bl s p) 1 else if 32 < e.depth then .err 0 6 else .ok e 0
  | .err p c => .err p c
  | .out => .out) from by unfold parse; rw [if_neg (by omega)]; cases top s 0 <;> rfl)
 have hi0 : 0 ≤ s.size := Nat.zero_le _
 have HO := hid (top_out (s := s) hi0)
 have HSZ := hid (fun e p (h : top s 0 = .ok e p) => lev_sz (by decide) hi0 h)
 have HCALL := hid (fun w1 => rtop_any s 0 w1 (by omega) hi0 (top_out hi0))
 have HPL := hid (fun e p (h : top s 0 = .ok e p) => top_le hi0 h)
 have HBK := hid (show ∀ p : Nat, p ≤ s.size → ∀ w1, Calls Tryz.prog 15 #[.string s, .int .i64 (p : Int)] w1 (fun e w' => e = .returned (.int .i64 (bl s p : Nat)) ∧ w1 = w') from fun p hp w1 => rblanks_any s p w1 (by omega) (by omega))
 have HBL := hid (fun p (h : p ≤ s.size) => bl_le h)
 generalize parse s = R at *
 generalize top s 0 = R1 at *
 go_enter Tryz.func6, Tryz.ntmps6
 go_upto_region 1 with fail
 refine alloc_gn (fun W hW kG => ?_)
 have hGW := kG.lt
 generalize hG : w.heap.size = G at *
 have HG := hid hG
 have HW := hid hW
 have KG := hid (show Blk W G 30 nul9 from kG)
 clear hW kG hG
 go_wp2_with fail
 refine (HCALL.out _).mono ?_
 intro e9 w5 hr
 cases R1 with
 | out => exact absurd rfl HO.out
 | err p c =>
  have HRE := hid (show R = .err p c from HPP.out)
  obtain ⟨rfl, hc, hb5⟩ := hr
  have n1 : (c == 0) = false := beq_eq_false_iff_ne.2 hc
  have n2 : (c != 0) = true := by simpa using hc
  have hb5s := hb5.size
  have KG5 := hid (KG.out.onto hb5)
  have HB5 := hid (HW.out.trans (hb5.mono (by omega)))
  unfold wcs
  have HC := hid hc
  clear hb5 hc
  go_upto_region 4 with fail
  refine alloc_gn (fun W6 hA6 kX6 => ?_)
  have h6s := kX6.lt
  have KG6 := hid (KG5.out.onto hA6)
  have HB6 := hid (HB5.out.trans (hA6.mono (by omega)))
  obtain ⟨a0, a1, a2, a3, a4, a5, a6, a7, a8, a9, a10⟩ := all11 kX6
  clear hA6 kX6
  generalize w5.heap.size = Y at *
  obtain ⟨y0, y1, y2, y3, y4, y5, y6, y7, y8, z0, z1, z2, z3, z4, z5, z6, z7, z8, x0, x1, x2, x3, x4, x5, x6, x7, x8⟩ := old9 KG6.out
  go_wp2_with fail
  go_region
  go_wp2_with fail
  have HF := put9_blk KG6.out (.string ⟨#[]⟩) (.string ⟨#[]⟩) (.int .i64 0) (.bool false) (.int .i64 0) (.string ⟨#[]⟩) (.slice none 0 0) (.slice none 0 0) (.slice none 0 0)
  have HZ := hid (put9_below (o := 0) HB6.out (Nat.le_refl G) (.string ⟨#[]⟩) (.string ⟨#[]⟩) (.int .i64 0) (.bool false) (.int .i64 0) (.string ⟨#[]⟩) (.slice none 0 0) (.slice none 0 0) (.slice none 0 0))
  clear z0 z1 z2 z3 z4 z5 z6 z7 z8 x0 x1 x2 x3 x4 x5 x6 x7 x8
  generalize (((((((((W6.setCell ⟨G, 0, none⟩ (.string ⟨#[]⟩)).setCell ⟨G, 1, none⟩ (.string ⟨#[]⟩)).setCell ⟨G, 2, none⟩ (.int .i64 0)).setCell ⟨G, 3, none⟩ (.bool false)).setCell ⟨G, 4, none⟩ (.int .i64 0)).setCell ⟨G, 5, none⟩ (.string ⟨#[]⟩)).setCell ⟨G, 6, none⟩ (.slice none 0 0)).setCell ⟨G, 7, none⟩ (.slice none 0 0)).setCell ⟨G, 8, none⟩ (.slice none 0 0)) = V9 at *
  obtain ⟨c0, c1, c2, c3, c4, c5, c6, c7, c8⟩ := all9 HF
  clear HF
  try simp only [Exit.inBlock, Exit.then]
  refine bodyPost_ret (v := .tuple #[.agg #[.string ⟨#[]⟩, .string ⟨#[]⟩, .int .i64 0, .bool false, .int .i64 0, .string ⟨#[]⟩, .slice none 0 0, .slice none 0 0, .slice none 0 0], .int .i64 (p : Int), .int .i64 c]) (by simp [results, Tryz.results6, go_sem, c0, c1, c2, c3, c4, c5, c6, c7, c8]) rfl ?_
  rw [HRE.out]
  exact ReadT.err HC.out (by rw [HG.out]; exact HZ.out.drew)
 | ok x p =>
  have HRE := hid (show R = (if bl s p < s.size then .err (bl s p) 1 else if 32 < x.depth then .err 0 6 else .ok x 0) from HPP.out)
  have hps : p ≤ s.size := by have := HPL.out x p rfl; omega
  have hsz : x.size ≤ 100000 := by have := HSZ.out x p rfl; omega
  obtain ⟨⟨hA, ha, hB, hb, hC, hc⟩, rfl, hev, hb5⟩ := hr
  have hb5s := hb5.size
  have KG5 := hid (KG.out.onto hb5)
  have HB5 := hid (HW.out.trans (hb5.mono (by omega)))
  have HE5 := hid hev
  unfold acs
  dsimp only
  clear hb5 hev
  go_upto_region 4 with fail
  refine alloc_gn (fun W6 hA6 kX6 => ?_)
  have h6s := kX6.lt
  have KG6 := hid (KG5.out.onto hA6)
  have HB6 := hid (HB5.out.trans (hA6.mono (by omega)))
  have HE6 := hid (HE5.out.more hA6)
  have HX6 := hid kX6
  obtain ⟨a0, a1, a2, a3, a4, a5, a6, a7, a8, a9, a10⟩ := all11 kX6
  clear hA6 kX6
  generalize w5.heap.size = Y at *
  have HBQ := hid (HBK.out p hps)
  have HDP := hid (show Calls Tryz.prog 16 #[.agg #[.string x.op, .string x.name, .int .i64 x.lit.kind, .bool x.lit.tr, .int .i64 x.lit.num, .string x.lit.str, .slice hA x.lit.items.length ha, .slice hB x.lit.keys.length hb, .slice hC x.args.length hc]] W6 (fun en w' => en = .returned (.int .i64 (x.depth : Nat)) ∧ Below W6.heap.size W6 w') from r8depth_any x hsz ⟨hA, ha, hB, hb, hC, hc⟩ W6 _ (fun q hq => hq.2) HE6.out)
  have hbl := HBL.out p hps
  clear HPP HCALL HSZ HPL HBK HBL HO
  generalize bl s p = q at *
  generalize hdd : x.depth = d at *
  by_cases h1 : q < s.size
  ·
   have t1 : decide (q < s.size) = true := decide_eq_true h1
   have t2 : decide ((q : Int) < (s.size : Int)) = true := decide_eq_true (by omega)
   have HRR := hid (HRE.out.trans (if_pos h1))
   clear h1 hdd
   obtain ⟨y0, y1, y2, y3, y4, y5, y6, y7, y8, z0, z1, z2, z3, z4, z5, z6, z7, z8, x0, x1, x2, x3, x4, x5, x6, x7, x8⟩ := old9 KG6.out
   go_wp2_with fail
   refine (HBQ.out _).mono ?_
   rintro e8 w7 ⟨rfl, rfl⟩
   go_wp2_with fail
   clear z0 z1 z2 z3 z4 z5 z6 z7 z8 x0 x1 x2 x3 x4 x5 x6 x7 x8
   refine put9_gen KG6.out _ _ _ _ _ _ _ _ _ (fun WF hf0 hf1 hf2 hf3 => ?_)
   have HFB := hid (hf1 _ _ HB6.out (Nat.le_refl _))
   obtain ⟨c0, c1, c2, c3, c4, c5, c6, c7, c8⟩ := all9 hf0
   clear hf0 hf1 hf2 hf3
   refine bodyPost_ret (v := .tuple #[.agg #[.string ⟨#[]⟩, .string ⟨#[]⟩, .int .i64 0, .bool false, .int .i64 0, .string ⟨#[]⟩, .slice none 0 0, .slice none 0 0, .slice none 0 0], .int .i64 (q : Int), .int .i64 1]) (by simp [results, Tryz.results6, go_sem, c0, c1, c2, c3, c4, c5, c6, c7, c8]) rfl ?_
   rw [HRR.out]
   exact ReadT.err (by decide) (by rw [HG.out]; exact HFB.out)
  ·
   have t1 : decide (q < s.size) = false := decide_eq_false h1
   have t2 : decide ((q : Int) < (s.size : Int)) = false := decide_eq_false (by omega)
   have HRR := hid (HRE.out.trans (if_neg h1))
   clear h1
   go_wp2_with fail
   refine (HBQ.out _).mono ?_
   rintro e8 w7 ⟨rfl, rfl⟩
   go_wp2_with fail
   refine HDP.out.mono ?_
   rintro e8 w7 ⟨rfl, hb7⟩
   have hG6 : G ≤ W6.heap.size := by have := KG6.out.lt; omega
   have KG7 := hid (KG6.out.onto hb7)
   have HB7 := hid (HB6.out.trans (hb7.mono hG6))
   have HE7 := hid (HE6.out.more hb7)
   obtain ⟨b0, b1, b2, b3, b4, b5, b6, b7, b8, b9, b10⟩ := all11 (HX6.out.onto hb7)
   clear hb7 a0 a1 a2 a3 a4 a5 a6 a7 a8 a9 a10
   obtain ⟨y0, y1, y2, y3, y4, y5, y6, y7, y8, z0, z1, z2, z3, z4, z5, z6, z7, z8, x0, x1, x2, x3, x4, x5, x6, x7, x8⟩ := old9 KG7.out
   by_cases h2 : 32 < d
   ·
    have t3 : decide ((d : Int) > 32) = true := decide_eq_true (by omega)
    have t4 : decide ((32 : Int) < (d : Int)) = true := decide_eq_true (by omega)
    have HR3 := hid (HRR.out.trans (if_pos h2))
    clear h2 hdd
    go_wp2_with fail
    clear z0 z1 z2 z3 z4 z5 z6 z7 z8 x0 x1 x2 x3 x4 x5 x6 x7 x8
    refine put9_gen KG7.out _ _ _ _ _ _ _ _ _ (fun WF hf0 hf1 hf2 hf3 => ?_)
    have HFB := hid (hf1 _ _ HB7.out (Nat.le_refl _))
    obtain ⟨c0, c1, c2, c3, c4, c5, c6, c7, c8⟩ := all9 hf0
    clear hf0 hf1 hf2 hf3
    refine bodyPost_ret (v := .tuple #[.agg #[.string ⟨#[]⟩, .string ⟨#[]⟩, .int .i64 0, .bool false, .int .i64 0, .string ⟨#[]⟩, .slice none 0 0, .slice none 0 0, .slice none 0 0], .int .i64 0, .int .i64 6]) (by simp [results, Tryz.results6, go_sem, c0, c1, c2, c3, c4, c5, c6, c7, c8]) rfl ?_
    rw [HR3.out]
    exact ReadT.err (by decide) (by rw [HG.out]; exact HFB.out)
   ·
    have t3 : decide ((d : Int) > 32) = false := decide_eq_false (by omega)
    have t4 : decide ((32 : Int) < (d : Int)) = false := decide_eq_false (by omega)
    have HR3 := hid (HRR.out.trans (if_neg h2))
    clear h2 hdd
    go_wp2_with fail
    clear z0 z1 z2 z3 z4 z5 z6 z7 z8 x0 x1 x2 x3 x4 x5 x6 x7 x8
    refine put9_gen KG7.out _ _ _ _ _ _ _ _ _ (fun WF hf0 hf1 hf2 hf3 => ?_)
    have HFB := hid (hf1 _ _ HB7.out (Nat.le_refl _))
    have HEF := hid (show EV WF (· < WF.heap.size) x ⟨hA, ha, hB, hb, hC, hc⟩ from (HE7.out.keep (fun z hz => hf2 z (by have := hz.1; omega))).wide (fun z hz => by rw [hf3]; exact hz.2))
    obtain ⟨c0, c1, c2, c3, c4, c5, c6, c7, c8⟩ := all9 hf0
    clear hf0 hf1 hf2 hf3
    refine bodyPost_ret (v := .tuple #[.agg #[.string x.op, .string x.name, .int .i64 x.lit.kind, .bool x.lit.tr, .int .i64 x.lit.num, .string x.lit.str, .slice hA x.lit.items.length ha, .slice hB x.lit.keys.length hb, .slice hC x.args.length hc], .int .i64 0, .int .i64 0]) (by simp [results, Tryz.results6, go_sem, c0, c1, c2, c3, c4, c5, c6, c7, c8]) rfl ?_
    rw [HR3.out]
    exact ⟨⟨hA, ha, hB, hb, hC, hc⟩, rfl, HEF.out, by rw [HG.out]; exact HFB.out, fun _ => ⟨x, 0, rfl⟩⟩
open Go.RowKit
open Tk Ex
theorem parse_lf {s : ByteArray} : LfR (parse s) := by
 have h : LfR (top s 0) := (lf_all s (many s)).1 0 0
 unfold parse
 split
 · exact lf_err
 ·
  cases hx : top s 0 with
  | ok e p =>
   dsimp only
   split
   · exact lf_err
   ·
    split
    · exact lf_err
    · exact lf_ok (h e p hx)
  | err p c => exact lf_err
  | out => exact lf_out
theorem parse_sz {s : ByteArray} {e : E} {p : Nat} (h : parse s = .ok e p) : e.size ≤ s.size := by
 unfold parse at h
 split at h
 · cases h
 ·
  cases hx : top s 0 with
  | ok e' p' =>
   rw [hx] at h
   dsimp only at h
   split at h
   · cases h
   ·
    split at h
    · cases h
    ·
     injection h with h1 h2
     subst h1
     have h3 := lev_sz (by decide) (Nat.zero_le _) hx
     have h4 := top_le (Nat.zero_le _) hx
     omega
  | err p' c => rw [hx] at h; cases h
  | out => rw [hx] at h; cases h
def Told (x : E) (p c : Int) (w : World) (e : Ending) (w' : World) : Prop := ∃ q, e = .returned (.tuple #[.agg (ecs x q), .int .i64 p, .int .i64 c]) ∧ EV w' (· < w'.heap.size) x q ∧ Below w.heap.size w w'
theorem rtold {s : ByteArray} {R : Res} (h : parse s = R) (hs : s.size ≤ 2048) (w : World) : Calls Tryz.prog 6 #[.string s] w (fun e w' => Told (resE R) (resP R : Nat) (resC R) w e w' ∧ (resC R = 0 → ∃ x p, R = .ok x p)) :=
 (r8parse_short s w hs).mono fun e w' k => by rw [h] at k; obtain ⟨q, h1, h2, h3, h4⟩ := k; exact ⟨⟨q, h1, h2, h3⟩, h4⟩
end Go.Proofs.YtfbipnflgjhaiaaGreatDoor
