/- What has no parts that stand beside it, by the reference: a call, a name, brackets, nothing; contract of one. What has no parts that stand beside it, by the reference: brackets; contract of one. -/
import Derived.Test.YtfbipnflgjhaiaaGreatDoorYB
import Derived.Test.YtfbipnflgjhaiaaGreatDoorYD
set_option linter.unusedVariables false
set_option maxRecDepth 100000
set_option maxHeartbeats 8000000
open Go.Lib (hid)
namespace Go.Proofs.YtfbipnflgjhaiaaGreatDoor
open Go.RowKit
open Tk Ex
theorem r8one_call (s : ByteArray) (hs : s.size ≤ 2500) (i : Nat) (hi : i ≤ s.size) (hd : isDg (bt s (bl s i)) = false) (h34 : bt s (bl s i) ≠ 34) (f : Nat) (hl : isLt (bt s (bl s i)) = true) (hw : isWord (wd s i) = false) (ha : 0 < argsN (wd s i)) (hC : RCall s f) (hne : calQ s f (wd s i) (wE s (bl s i)) ≠ .out) (w : World) : Calls Tryz.prog 40 #[.string s, .int .i64 (i : Int)] w (ReadR (calQ s f (wd s i) (wE s (bl s i))) w) := by
 have hq := bl_le hi
 have HB := hid (show ∀ w1, Calls Tryz.prog 15 #[.string s, .int .i64 (i : Int)] w1 (fun e w' => e = .returned (.int .i64 (bl s i : Nat)) ∧ w1 = w') from fun w1 => rblanks_any s i w1 (by omega) (by omega))
 have HDG := hid (fun w1 => r8digit_any s (bl s i) w1 (by omega : s.size ≤ 1000000))
 have HMK := hid (show ∀ w1, Calls Tryz.prog 28 #[.string s, .int .i64 (i : Int), .string ⟨#[40]⟩] w1 (fun e w' => e = .returned (.int .i64 (markP s i opnB)) ∧ w1 = w') from fun w1 => r8mark_any s i opnB w1 (by omega) hi (by decide))
 have HWD := hid (fun w1 => r8word_any s i w1 (by omega) hi)
 rw [hd] at HDG
 have hql : bl s i < s.size := lt_lt hl
 have hmk := letter_no hl
 have hwt : wordT s i = wd s i := if_pos hl
 have hwp : wordP s i = wE s (bl s i) := if_pos hl
 rw [hmk] at HMK
 rw [hwt, hwp] at HWD
 have hb0 := bt_at s (bl s i) hql
 have c34 : ((s[bl s i].toNat : Int) == 34) = false := by rw [beq_eq_false_iff_ne]; intro e; exact h34 (by omega)
 have c35 : decide ((s[bl s i].toNat : Int) = 34) = false := decide_eq_false (by intro e; exact h34 (by omega))
 clear hmk hwt hwp hb0 h34 hl hd
 have hzl : wE s (bl s i) ≤ s.size := wE_le (Nat.le_of_lt hql)
 have HO := hid hne
 have HCL := hid (fun w1 => hC (wd s i) (wE s (bl s i)) hzl ha hne w1)
 have HNW := hid (not_word hw)
 have HAR := hid (fun w1 => r8args_any (wd s i) w1)
 have hap : decide ((argsN (wd s i) : Int) > 0) = true := decide_eq_true (by omega)
 have hap2 : decide ((0 : Int) < (argsN (wd s i) : Int)) = true := decide_eq_true (by omega)
 have hap3 : decide (0 < argsN (wd s i)) = true := decide_eq_true ha
 have hap4 : ¬ argsN (wd s i) = 0 := by omega
 have hap5 : 0 < argsN (wd s i) := ha
 clear hw ha hC hne
 generalize calQ s f (wd s i) (wE s (bl s i)) = R at *
 generalize wd s i = u at *
 have f1 : (u.toList == [116, 114, 117, 101]) = false := lit_false (t := trueB) rfl (HNW.out trueB (by simp [words]))
 have f2 : (u.toList == [102, 97, 108, 115, 101]) = false := lit_false (t := falseB) rfl (HNW.out falseB (by simp [words]))
 have f3 : (u.toList == [110, 117, 108, 108]) = false := lit_false (t := nullB) rfl (HNW.out nullB (by simp [words]))
 have f4 : (u.toList == [116, 104, 105, 115]) = false := lit_false (t := thisB) rfl (HNW.out thisB (by simp [words]))
 generalize argsN u = na at *
 generalize wE s (bl s i) = z at *
 generalize bl s i = q at *
 have i1 : (0 : Int) ≤ (q : Int) := by omega
 have i2 : (q : Int) < (s.size : Int) := by omega
 have u1 : decide ((q : Int) < (s.size : Int)) = true := decide_eq_true i2
 go_enter Tryz.func40, Tryz.ntmps40
 go_upto_region 1 with fail
 refine alloc_gen (fun W hW kG hWs => ?_)
 have HWS := hid hWs
 have hGW := kG.lt
 generalize hG : w.heap.size = G at *
 have HG := hid hG
 have HW := hid hW
 have KG := hid kG
 clear hW kG hWs hG
 go_wp2_with fail
 refine (HB.out _).mono ?_
 rintro e w2 ⟨rfl, rfl⟩
 go_wp2_with fail
 refine (HDG.out _).mono ?_
 rintro e w2 ⟨rfl, rfl⟩
 go_wp2_with fail
 refine (HMK.out _).mono ?_
 rintro e w2 ⟨rfl, rfl⟩
 go_wp2_with fail
 refine (HWD.out _).mono ?_
 rintro e w2 ⟨rfl, rfl⟩
 go_wp2_with fail
 refine (HAR.out _).mono ?_
 rintro e w2 ⟨rfl, rfl⟩
 go_wp2_with fail
 refine (HCL.out _).mono ?_
 intro e w2 hr
 have HRR := hid hr
 cases R with
 | out => exact absurd rfl HO.out
 | ok x p =>
  obtain ⟨⟨hL, hl1, hL', hl2, hA1, hc1⟩, rfl, _, hb2⟩ := hr
  unfold acs at *
  dsimp only at *
  have KG9 := hid (KG.out.onto hb2)
  clear hb2
  obtain ⟨y0, y1, y2, y3, y4, y5, y6, y7, y8, y9, y10, z0, z1, z2, z3, z4, z5, z6, z7, z8, z9, z10, x0, x1, x2, x3, x4, x5, x6, x7, x8, x9, x10⟩ := old11 KG9.out
  go_wp2_with fail
  refine put11_gen KG9.out _ _ _ _ _ _ _ _ _ _ _ (fun WF hf0 hf1 hf2 hf3 => ?_)
  have HF := hid hf0
  have HRP := hid (ReadR.puts HRR.out (show Below w.heap.size w W by rw [HG.out]; exact HW.out) (Nat.le_of_eq HG.out) hGW hf1 hf2 hf3)
  clear z0 x0 z1 x1 z2 x2 z3 x3 z4 x4 z5 x5 z6 x6 z7 x7 z8 x8 z9 x9 z10 x10
  clear hf0 hf1 hf2 hf3
  obtain ⟨c0, c1, c2, c3, c4, c5, c6, c7, c8, c9, c10⟩ := all11 HF.out
  refine bodyPost_ret (v := .agg #[.string x.op, .string x.name, .int .i64 x.lit.kind, .bool x.lit.tr, .int .i64 x.lit.num, .string x.lit.str, .slice hL x.lit.items.length hl1, .slice hL' x.lit.keys.length hl2, .slice hA1 x.args.length hc1, .int .i64 (p : Int), .int .i64 0]) (by simp [results, Tryz.results40, go_sem, c0, c1, c2, c3, c4, c5, c6, c7, c8, c9, c10]) rfl ?_
  exact HRP.out
 | err p c =>
  obtain ⟨rfl, _, hb2⟩ := hr
  unfold wcs at *
  have KG9 := hid (KG.out.onto hb2)
  clear hb2
  obtain ⟨y0, y1, y2, y3, y4, y5, y6, y7, y8, y9, y10, z0, z1, z2, z3, z4, z5, z6, z7, z8, z9, z10, x0, x1, x2, x3, x4, x5, x6, x7, x8, x9, x10⟩ := old11 KG9.out
  go_wp2_with fail
  refine put11_gen KG9.out _ _ _ _ _ _ _ _ _ _ _ (fun WF hf0 hf1 hf2 hf3 => ?_)
  have HF := hid hf0
  have HRP := hid (ReadR.puts HRR.out (show Below w.heap.size w W by rw [HG.out]; exact HW.out) (Nat.le_of_eq HG.out) hGW hf1 hf2 hf3)
  clear z0 x0 z1 x1 z2 x2 z3 x3 z4 x4 z5 x5 z6 x6 z7 x7 z8 x8 z9 x9 z10 x10
  clear hf0 hf1 hf2 hf3
  obtain ⟨c0, c1, c2, c3, c4, c5, c6, c7, c8, c9, c10⟩ := all11 HF.out
  refine bodyPost_ret (v := .agg #[.string ⟨#[]⟩, .string ⟨#[]⟩, .int .i64 0, .bool false, .int .i64 0, .string ⟨#[]⟩, .slice none 0 0, .slice none 0 0, .slice none 0 0, .int .i64 (p : Int), .int .i64 c]) (by simp [results, Tryz.results40, go_sem, c0, c1, c2, c3, c4, c5, c6, c7, c8, c9, c10]) rfl ?_
  exact HRP.out
theorem r8one_var (s : ByteArray) (hs : s.size ≤ 2500) (i : Nat) (hi : i ≤ s.size) (hd : isDg (bt s (bl s i)) = false) (h34 : bt s (bl s i) ≠ 34) (hl : isLt (bt s (bl s i)) = true) (hw : isWord (wd s i) = false) (ha : argsN (wd s i) = 0) (w : World) : Calls Tryz.prog 40 #[.string s, .int .i64 (i : Int)] w (ReadR (.ok (.mk varB (wd s i) Rd.nulT []) (wE s (bl s i))) w) := by
 have hq := bl_le hi
 have HB := hid (show ∀ w1, Calls Tryz.prog 15 #[.string s, .int .i64 (i : Int)] w1 (fun e w' => e = .returned (.int .i64 (bl s i : Nat)) ∧ w1 = w') from fun w1 => rblanks_any s i w1 (by omega) (by omega))
 have HDG := hid (fun w1 => r8digit_any s (bl s i) w1 (by omega : s.size ≤ 1000000))
 have HMK := hid (show ∀ w1, Calls Tryz.prog 28 #[.string s, .int .i64 (i : Int), .string ⟨#[40]⟩] w1 (fun e w' => e = .returned (.int .i64 (markP s i opnB)) ∧ w1 = w') from fun w1 => r8mark_any s i opnB w1 (by omega) hi (by decide))
 have HWD := hid (fun w1 => r8word_any s i w1 (by omega) hi)
 rw [hd] at HDG
 have hql : bl s i < s.size := lt_lt hl
 have hl0 := hl
 have hmk := letter_no hl
 have hwt : wordT s i = wd s i := if_pos hl
 have hwp : wordP s i = wE s (bl s i) := if_pos hl
 rw [hmk] at HMK
 rw [hwt, hwp] at HWD
 have hb0 := bt_at s (bl s i) hql
 have c34 : ((s[bl s i].toNat : Int) == 34) = false := by rw [beq_eq_false_iff_ne]; intro e; exact h34 (by omega)
 have c35 : decide ((s[bl s i].toNat : Int) = 34) = false := decide_eq_false (by intro e; exact h34 (by omega))
 clear hmk hwt hwp hb0 h34 hl hd
 have hne : (wd s i).toList.isEmpty = false := by
  have h1 := lt_lt hl0
  have h2 := wE_pos hl0
  have h3 := wd_size (s := s) (i := i) hi
  rw [ByteArray.toList_eq]
  cases hd : (wd s i).data.toList with
  | nil =>
   exfalso; have h4 : (wd s i).size = 0 := by rw [← size_toList, hd]; rfl
   omega
  | cons a b => rfl
 have hne2 : ((wd s i).toList == []) = false := by
  cases hd : (wd s i).toList with
  | nil => rw [hd] at hne; cases hne
  | cons a b => rfl
 have HNW := hid (not_word hw)
 have HAR := hid (show ∀ w1, Calls Tryz.prog 55 #[.string (wd s i)] w1 (fun e w' => e = .returned (.int .i64 (0 : Nat)) ∧ w1 = w') from fun w1 => by have := r8args_any (wd s i) w1; rw [ha] at this; exact this)
 have HRS := hid (show ∀ w1, Calls Tryz.prog 57 #[.string (wd s i)] w1 (fun e w' => e = .returned (.bool false) ∧ w1 = w') from fun w1 => by have := r8res_any (wd s i) w1; rw [hw, ha] at this; exact this)
 clear hw ha hl0
 obtain ⟨R, hR⟩ : ∃ R : Res, .ok (.mk varB (wd s i) Rd.nulT []) (wE s (bl s i)) = R := ⟨_, rfl⟩
 rw [hR]
 have HR := hid hR.symm
 clear hR
 generalize wd s i = u at *
 have f1 : (u.toList == [116, 114, 117, 101]) = false := lit_false (t := trueB) rfl (HNW.out trueB (by simp [words]))
 have f2 : (u.toList == [102, 97, 108, 115, 101]) = false := lit_false (t := falseB) rfl (HNW.out falseB (by simp [words]))
 have f3 : (u.toList == [110, 117, 108, 108]) = false := lit_false (t := nullB) rfl (HNW.out nullB (by simp [words]))
 have f4 : (u.toList == [116, 104, 105, 115]) = false := lit_false (t := thisB) rfl (HNW.out thisB (by simp [words]))
 generalize wE s (bl s i) = z at *
 generalize bl s i = q at *
 have i1 : (0 : Int) ≤ (q : Int) := by omega
 have i2 : (q : Int) < (s.size : Int) := by omega
 have u1 : decide ((q : Int) < (s.size : Int)) = true := decide_eq_true i2
 go_enter Tryz.func40, Tryz.ntmps40
 go_upto_region 1 with fail
 refine alloc_gen (fun W hW kG hWs => ?_)
 have HWS := hid hWs
 have hGW := kG.lt
 generalize hG : w.heap.size = G at *
 have HG := hid hG
 have HW := hid hW
 have KG := hid kG
 clear hW kG hWs hG
 go_wp2_with fail
 refine (HB.out _).mono ?_
 rintro e w2 ⟨rfl, rfl⟩
 go_wp2_with fail
 refine (HDG.out _).mono ?_
 rintro e w2 ⟨rfl, rfl⟩
 go_wp2_with fail
 refine (HMK.out _).mono ?_
 rintro e w2 ⟨rfl, rfl⟩
 go_wp2_with fail
 refine (HWD.out _).mono ?_
 rintro e w2 ⟨rfl, rfl⟩
 go_wp2_with fail
 refine (HAR.out _).mono ?_
 rintro e w2 ⟨rfl, rfl⟩
 go_wp2_with fail
 obtain ⟨y0, y1, y2, y3, y4, y5, y6, y7, y8, y9, y10, z0, z1, z2, z3, z4, z5, z6, z7, z8, z9, z10, x0, x1, x2, x3, x4, x5, x6, x7, x8, x9, x10⟩ := old11 KG.out
 refine (HRS.out _).mono ?_
 rintro e w2 ⟨rfl, rfl⟩
 go_wp2_with fail
 refine put11_gen KG.out _ _ _ _ _ _ _ _ _ _ _ (fun WF hf0 hf1 hf2 hf3 => ?_)
 have HF := hid hf0
 have HFB := hid ((hf1 _ _ HW.out (Nat.le_refl G)))
 clear z0 x0 z1 x1 z2 x2 z3 x3 z4 x4 z5 x5 z6 x6 z7 x7 z8 x8 z9 x9 z10 x10
 clear hf0 hf1 hf2 hf3
 obtain ⟨c0, c1, c2, c3, c4, c5, c6, c7, c8, c9, c10⟩ := all11 HF.out
 refine bodyPost_ret (v := .agg #[.string ⟨#[118, 97, 114]⟩, .string u, .int .i64 0, .bool false, .int .i64 0, .string ⟨#[]⟩, .slice none 0 0, .slice none 0 0, .slice none 0 0, .int .i64 (z : Int), .int .i64 0]) (by simp [results, Tryz.results40, go_sem, c0, c1, c2, c3, c4, c5, c6, c7, c8, c9, c10]) rfl ?_
 rw [HR.out]
 exact ⟨hd0, rfl, EV.leaf rfl rfl, by rw [HG.out]; exact HFB.out⟩
theorem r8one_none (s : ByteArray) (hs : s.size ≤ 2500) (i : Nat) (hi : i ≤ s.size) (hd : isDg (bt s (bl s i)) = false) (h34 : bt s (bl s i) ≠ 34) (hl : isLt (bt s (bl s i)) = false) (hs0 : stands s i opnB = false) (w : World) : Calls Tryz.prog 40 #[.string s, .int .i64 (i : Int)] w (ReadR (.err (bl s i) 1) w) := by
 have hq := bl_le hi
 have HB := hid (show ∀ w1, Calls Tryz.prog 15 #[.string s, .int .i64 (i : Int)] w1 (fun e w' => e = .returned (.int .i64 (bl s i : Nat)) ∧ w1 = w') from fun w1 => rblanks_any s i w1 (by omega) (by omega))
 have HDG := hid (fun w1 => r8digit_any s (bl s i) w1 (by omega : s.size ≤ 1000000))
 have HMK := hid (show ∀ w1, Calls Tryz.prog 28 #[.string s, .int .i64 (i : Int), .string ⟨#[40]⟩] w1 (fun e w' => e = .returned (.int .i64 (markP s i opnB)) ∧ w1 = w') from fun w1 => r8mark_any s i opnB w1 (by omega) hi (by decide))
 have HWD := hid (fun w1 => r8word_any s i w1 (by omega) hi)
 rw [hd] at HDG
 have hmk := mark_no (t := opnB) hi (by decide) (by decide) hs0
 have hwt : wordT s i = nix := if_neg (by rw [hl]; decide)
 have hwp : wordP s i = i := if_neg (by rw [hl]; decide)
 rw [hmk] at HMK
 rw [hwt, hwp] at HWD
 unfold nix at HWD
 clear hmk hwt hwp hl hd hs0
 obtain ⟨R, hR⟩ : ∃ R : Res, .err (bl s i) 1 = R := ⟨_, rfl⟩
 rw [hR]
 have HR := hid hR.symm
 clear hR
 have HAR := hid (show ∀ w1, Calls Tryz.prog 55 #[.string ⟨#[]⟩] w1 (fun e w' => e = .returned (.int .i64 (0 : Nat)) ∧ w1 = w') from fun w1 => r8args_any ⟨#[]⟩ w1)
 by_cases hql : bl s i < s.size
 ·
  have hb0 := bt_at s (bl s i) hql
  have c34 : ((s[bl s i].toNat : Int) == 34) = false := by rw [beq_eq_false_iff_ne]; intro e; exact h34 (by omega)
  have c35 : decide ((s[bl s i].toNat : Int) = 34) = false := decide_eq_false (by intro e; exact h34 (by omega))
  clear hb0 h34
  generalize bl s i = q at *
  have i1 : (0 : Int) ≤ (q : Int) := by omega
  have i2 : (q : Int) < (s.size : Int) := by omega
  have u1 : decide ((q : Int) < (s.size : Int)) = true := decide_eq_true i2
  go_enter Tryz.func40, Tryz.ntmps40
  go_upto_region 1 with fail
  refine alloc_gen (fun W hW kG hWs => ?_)
  have HWS := hid hWs
  have hGW := kG.lt
  generalize hG : w.heap.size = G at *
  have HG := hid hG
  have HW := hid hW
  have KG := hid kG
  clear hW kG hWs hG
  go_wp2_with fail
  refine (HB.out _).mono ?_
  rintro e w2 ⟨rfl, rfl⟩
  go_wp2_with fail
  refine (HDG.out _).mono ?_
  rintro e w2 ⟨rfl, rfl⟩
  go_wp2_with fail
  refine (HMK.out _).mono ?_
  rintro e w2 ⟨rfl, rfl⟩
  go_wp2_with fail
  refine (HWD.out _).mono ?_
  rintro e w2 ⟨rfl, rfl⟩
  go_wp2_with fail
  refine (HAR.out _).mono ?_
  rintro e w2 ⟨rfl, rfl⟩
  go_wp2_with fail
  refine (r8wrong_any _ _ _).mono ?_
  rintro e w2 ⟨rfl, hb2⟩
  have KG9 := hid (KG.out.onto hb2)
  have HB9 := hid (HW.out.trans (hb2.mono (by omega)))
  clear hb2
  obtain ⟨y0, y1, y2, y3, y4, y5, y6, y7, y8, y9, y10, z0, z1, z2, z3, z4, z5, z6, z7, z8, z9, z10, x0, x1, x2, x3, x4, x5, x6, x7, x8, x9, x10⟩ := old11 KG9.out
  go_wp2_with fail
  refine put11_gen KG9.out _ _ _ _ _ _ _ _ _ _ _ (fun WF hf0 hf1 hf2 hf3 => ?_)
  have HF := hid hf0
  have HFB := hid ((hf1 _ _ HB9.out (Nat.le_refl G)))
  clear z0 x0 z1 x1 z2 x2 z3 x3 z4 x4 z5 x5 z6 x6 z7 x7 z8 x8 z9 x9 z10 x10
  clear hf0 hf1 hf2 hf3
  obtain ⟨c0, c1, c2, c3, c4, c5, c6, c7, c8, c9, c10⟩ := all11 HF.out
  refine bodyPost_ret (v := .agg #[.string ⟨#[]⟩, .string ⟨#[]⟩, .int .i64 0, .bool false, .int .i64 0, .string ⟨#[]⟩, .slice none 0 0, .slice none 0 0, .slice none 0 0, .int .i64 (q : Int), .int .i64 1]) (by simp [results, Tryz.results40, go_sem, c0, c1, c2, c3, c4, c5, c6, c7, c8, c9, c10]) rfl ?_
  rw [HR.out]
  exact ⟨by unfold wcs; rfl, by decide, by rw [HG.out]; exact HFB.out⟩
 ·
  generalize bl s i = q at *
  have u1 : decide ((q : Int) < (s.size : Int)) = false := decide_eq_false (by omega)
  clear h34
  go_enter Tryz.func40, Tryz.ntmps40
  go_upto_region 1 with fail
  refine alloc_gen (fun W hW kG hWs => ?_)
  have HWS := hid hWs
  have hGW := kG.lt
  generalize hG : w.heap.size = G at *
  have HG := hid hG
  have HW := hid hW
  have KG := hid kG
  clear hW kG hWs hG
  go_wp2_with fail
  refine (HB.out _).mono ?_
  rintro e w2 ⟨rfl, rfl⟩
  go_wp2_with fail
  refine (HDG.out _).mono ?_
  rintro e w2 ⟨rfl, rfl⟩
  go_wp2_with fail
  refine (HMK.out _).mono ?_
  rintro e w2 ⟨rfl, rfl⟩
  go_wp2_with fail
  refine (HWD.out _).mono ?_
  rintro e w2 ⟨rfl, rfl⟩
  go_wp2_with fail
  refine (HAR.out _).mono ?_
  rintro e w2 ⟨rfl, rfl⟩
  go_wp2_with fail
  refine (r8wrong_any _ _ _).mono ?_
  rintro e w2 ⟨rfl, hb2⟩
  have KG9 := hid (KG.out.onto hb2)
  have HB9 := hid (HW.out.trans (hb2.mono (by omega)))
  clear hb2
  obtain ⟨y0, y1, y2, y3, y4, y5, y6, y7, y8, y9, y10, z0, z1, z2, z3, z4, z5, z6, z7, z8, z9, z10, x0, x1, x2, x3, x4, x5, x6, x7, x8, x9, x10⟩ := old11 KG9.out
  go_wp2_with fail
  refine put11_gen KG9.out _ _ _ _ _ _ _ _ _ _ _ (fun WF hf0 hf1 hf2 hf3 => ?_)
  have HF := hid hf0
  have HFB := hid ((hf1 _ _ HB9.out (Nat.le_refl G)))
  clear z0 x0 z1 x1 z2 x2 z3 x3 z4 x4 z5 x5 z6 x6 z7 x7 z8 x8 z9 x9 z10 x10
  clear hf0 hf1 hf2 hf3
  obtain ⟨c0, c1, c2, c3, c4, c5, c6, c7, c8, c9, c10⟩ := all11 HF.out
  refine bodyPost_ret (v := .agg #[.string ⟨#[]⟩, .string ⟨#[]⟩, .int .i64 0, .bool false, .int .i64 0, .string ⟨#[]⟩, .slice none 0 0, .slice none 0 0, .slice none 0 0, .int .i64 (q : Int), .int .i64 1]) (by simp [results, Tryz.results40, go_sem, c0, c1, c2, c3, c4, c5, c6, c7, c8, c9, c10]) rfl ?_
  rw [HR.out]
  exact ⟨by unfold wcs; rfl, by decide, by rw [HG.out]; exact HFB.out⟩
open Go.RowKit
open Tk Ex
def parR8 (s : ByteArray) (R1 : Res) : Res := match R1 with
 | .ok e p => if stands s p clsB = true then .ok e (past s p clsB) else .err (bl s p) 1
 | .err p c => .err p c
 | .out => .out
theorem r8one_paren (s : ByteArray) (hs : s.size ≤ 2500) (i : Nat) (hi : i ≤ s.size) (hd : isDg (bt s (bl s i)) = false) (h34 : bt s (bl s i) ≠ 34) (f : Nat) (hl : isLt (bt s (bl s i)) = false) (hs1 : stands s i opnB = true) (hL0 : RLev s f 0) (hne : lev s f 0 (past s i opnB) ≠ .out) (w : World) : Calls Tryz.prog 40 #[.string s, .int .i64 (i : Int)] w (ReadR (parR8 s (lev s f 0 (past s i opnB))) w) := by
 have hq := bl_le hi
 have HB := hid (show ∀ w1, Calls Tryz.prog 15 #[.string s, .int .i64 (i : Int)] w1 (fun e w' => e = .returned (.int .i64 (bl s i : Nat)) ∧ w1 = w') from fun w1 => rblanks_any s i w1 (by omega) (by omega))
 have HDG := hid (fun w1 => r8digit_any s (bl s i) w1 (by omega : s.size ≤ 1000000))
 have HMK := hid (show ∀ w1, Calls Tryz.prog 28 #[.string s, .int .i64 (i : Int), .string ⟨#[40]⟩] w1 (fun e w' => e = .returned (.int .i64 (markP s i opnB)) ∧ w1 = w') from fun w1 => r8mark_any s i opnB w1 (by omega) hi (by decide))
 have HWD := hid (fun w1 => r8word_any s i w1 (by omega) hi)
 rw [hd] at HDG
 have hp := stands_le hi hs1
 have hmk := mark_yes (t := opnB) hi (by decide) (by decide) hs1
 rw [hmk] at HMK
 have HLE := hid (fun e p (h : lev s f 0 (past s i opnB) = .ok e p) => (lev_le (by decide) hp.2 h).2)
 have HO := hid hne
 have HLV := hid (fun w1 => hL0 (past s i opnB) hp.2 hne w1)
 obtain ⟨R, hR⟩ : ∃ R : Res, parR8 s (lev s f 0 (past s i opnB)) = R := ⟨_, rfl⟩
 rw [hR]
 have HR0 := hid hR.symm
 clear hR hne hmk hL0 hl hd
 have hql : bl s i < s.size := by
  rcases Nat.lt_or_ge (bl s i) s.size with h | h
  · exact h
  ·
   exfalso
   rw [stands_has (t := opnB) hi (by decide) (by decide)] at hs1
   have := has_le hs1
   have h1 : opnB.size = 1 := rfl
   omega
 have hb0 := bt_at s (bl s i) hql
 have c34 : ((s[bl s i].toNat : Int) == 34) = false := by rw [beq_eq_false_iff_ne]; intro e; exact h34 (by omega)
 have c35 : decide ((s[bl s i].toNat : Int) = 34) = false := decide_eq_false (by intro e; exact h34 (by omega))
 clear hb0 h34 hs1
 unfold parR8 at HR0
 generalize lev s f 0 (past s i opnB) = R1 at *
 have hz := hp.2
 generalize past s i opnB = z at *
 clear hp
 generalize bl s i = q at *
 have i1 : (0 : Int) ≤ (q : Int) := by omega
 have i2 : (q : Int) < (s.size : Int) := by omega
 have u1 : decide ((q : Int) < (s.size : Int)) = true := decide_eq_true i2
 have g1 : decide ((z : Int) ≥ 0) = true := decide_eq_true (by omega)
 have g2 : decide ((0 : Int) ≤ (z : Int)) = true := decide_eq_true (by omega)
 go_enter Tryz.func40, Tryz.ntmps40
 go_upto_region 1 with fail
 refine alloc_gen (fun W hW kG hWs => ?_)
 have HWS := hid hWs
 have hGW := kG.lt
 generalize hG : w.heap.size = G at *
 have HG := hid hG
 have HW := hid hW
 have KG := hid kG
 clear hW kG hWs hG
 go_wp2_with fail
 refine (HB.out _).mono ?_
 rintro e w2 ⟨rfl, rfl⟩
 go_wp2_with fail
 refine (HDG.out _).mono ?_
 rintro e w2 ⟨rfl, rfl⟩
 go_wp2_with fail
 refine (HMK.out _).mono ?_
 rintro e w2 ⟨rfl, rfl⟩
 go_wp2_with fail
 refine (HLV.out _).mono ?_
 intro e9 w2 hr
 cases R1 with
 | out => exact absurd rfl HO.out
 | err p c =>
  have HRE := hid (show R = .err p c from HR0.out)
  obtain ⟨rfl, hc, hb2⟩ := hr
  have HC := hid hc
  have n1 : (c == 0) = false := beq_eq_false_iff_ne.2 hc
  have KG2 := hid (KG.out.onto hb2)
  have HB2 := hid (HW.out.trans (hb2.mono (by omega)))
  have hws := hb2.size
  unfold wcs
  clear hb2 hc
  go_upto_region 12 with fail
  refine alloc_gn (fun W3 hA3 kX3 => ?_)
  have KG3 := hid (KG2.out.onto hA3)
  have HB3 := hid (HB2.out.trans (hA3.mono (by omega)))
  generalize w2.heap.size = X at *
  have a0 := kX3.cell 0
  have a1 := kX3.cell 1
  have a2 := kX3.cell 2
  have a3 := kX3.cell 3
  have a4 := kX3.cell 4
  have a5 := kX3.cell 5
  have a6 := kX3.cell 6
  have a7 := kX3.cell 7
  have a8 := kX3.cell 8
  have a9 := kX3.cell 9
  have a10 := kX3.cell 10
  clear hA3 kX3
  obtain ⟨y0, y1, y2, y3, y4, y5, y6, y7, y8, y9, y10, z0, z1, z2, z3, z4, z5, z6, z7, z8, z9, z10, x0, x1, x2, x3, x4, x5, x6, x7, x8, x9, x10⟩ := old11 KG3.out
  go_wp2_with fail
  refine put11_gen KG3.out _ _ _ _ _ _ _ _ _ _ _ (fun WF hf0 hf1 hf2 hf3 => ?_)
  have HF := hid hf0
  have HFB := hid ((hf1 _ _ HB3.out (Nat.le_refl G)))
  clear z0 x0 z1 x1 z2 x2 z3 x3 z4 x4 z5 x5 z6 x6 z7 x7 z8 x8 z9 x9 z10 x10
  clear hf0 hf1 hf2 hf3
  obtain ⟨c0, c1, c2, c3, c4, c5, c6, c7, c8, c9, c10⟩ := all11 HF.out
  refine bodyPost_ret (v := .agg #[.string ⟨#[]⟩, .string ⟨#[]⟩, .int .i64 0, .bool false, .int .i64 0, .string ⟨#[]⟩, .slice none 0 0, .slice none 0 0, .slice none 0 0, .int .i64 (p : Int), .int .i64 c]) (by simp [results, Tryz.results40, go_sem, c0, c1, c2, c3, c4, c5, c6, c7, c8, c9, c10]) rfl ?_
  rw [HRE.out]
  exact ⟨by unfold wcs; rfl, HC.out, by rw [HG.out]; exact HFB.out⟩
 | ok e p =>
  have hple := HLE.out e p rfl
  obtain ⟨⟨hL, hl1, hL', hl2, hA1, hc1⟩, rfl, hev, hb2⟩ := hr
  have HEV := hid hev
  have KG2 := hid (KG.out.onto hb2)
  have HB2 := hid (HW.out.trans (hb2.mono (by omega)))
  have hws := hb2.size
  unfold acs
  dsimp only
  clear hb2 hev
  go_upto_region 12 with fail
  refine alloc_gn (fun W3 hA3 kX3 => ?_)
  have KG3 := hid (KG2.out.onto hA3)
  have HB3 := hid (HB2.out.trans (hA3.mono (by omega)))
  have hs3 : w2.heap.size < W3.heap.size := kX3.lt
  have HE3 := hid (show EV W3 (fun q => G < q ∧ q < W3.heap.size ∧ q ≠ w2.heap.size) e ⟨hL, hl1, hL', hl2, hA1, hc1⟩ from (HEV.out.keep (fun q hq => hA3.block q hq.2)).wide (fun q hq => ⟨by have := hq.1; omega, by have := hq.2; omega, by have := hq.2; omega⟩))
  have HX3 := hid kX3
  have hXG : G < w2.heap.size := by omega
  generalize w2.heap.size = X at *
  clear hA3 HEV
  have a0 := kX3.cell 0
  have a1 := kX3.cell 1
  have a2 := kX3.cell 2
  have a3 := kX3.cell 3
  have a4 := kX3.cell 4
  have a5 := kX3.cell 5
  have a6 := kX3.cell 6
  have a7 := kX3.cell 7
  have a8 := kX3.cell 8
  have a9 := kX3.cell 9
  have a10 := kX3.cell 10
  clear kX3
  have HM2 := hid (show ∀ w1, Calls Tryz.prog 28 #[.string s, .int .i64 (p : Int), .string ⟨#[41]⟩] w1 (fun e w' => e = .returned (.int .i64 (markP s p clsB)) ∧ w1 = w') from fun w1 => r8mark_any s p clsB w1 (by omega) hple (by decide))
  cases hcl : stands s p clsB with
  | false =>
   have HRE := hid (show R = .err (bl s p) 1 from HR0.out.trans (if_neg (by rw [hcl]; decide)))
   have hmk := mark_no (t := clsB) hple (by decide) (by decide) hcl
   rw [hmk] at HM2
   have HBB := hid (show ∀ w1, Calls Tryz.prog 15 #[.string s, .int .i64 (p : Int)] w1 (fun e w' => e = .returned (.int .i64 (bl s p : Nat)) ∧ w1 = w') from fun w1 => rblanks_any s p w1 (by omega) (by omega))
   clear hmk hcl a0 a1 a2 a3 a4 a5 a6 a7 a8
   generalize bl s p = bq at *
   go_wp2_with fail
   refine (HM2.out _).mono ?_
   rintro e w2 ⟨rfl, rfl⟩
   go_wp2_with fail
   refine (HBB.out _).mono ?_
   rintro e w2 ⟨rfl, rfl⟩
   go_wp2_with fail
   refine (r8wrong_any _ _ _).mono ?_
   rintro e8 w4 ⟨rfl, hb4⟩
   have KG4 := hid (KG3.out.onto hb4)
   have HB4 := hid (HB3.out.trans (hb4.mono (by omega)))
   clear hb4 a9 a10
   obtain ⟨y0, y1, y2, y3, y4, y5, y6, y7, y8, y9, y10, z0, z1, z2, z3, z4, z5, z6, z7, z8, z9, z10, x0, x1, x2, x3, x4, x5, x6, x7, x8, x9, x10⟩ := old11 KG4.out
   go_wp2_with fail
   refine put11_gen KG4.out _ _ _ _ _ _ _ _ _ _ _ (fun WF hf0 hf1 hf2 hf3 => ?_)
   have HF := hid hf0
   have HFB := hid ((hf1 _ _ HB4.out (Nat.le_refl G)))
   clear z0 x0 z1 x1 z2 x2 z3 x3 z4 x4 z5 x5 z6 x6 z7 x7 z8 x8 z9 x9 z10 x10
   clear hf0 hf1 hf2 hf3
   obtain ⟨c0, c1, c2, c3, c4, c5, c6, c7, c8, c9, c10⟩ := all11 HF.out
   refine bodyPost_ret (v := .agg #[.string ⟨#[]⟩, .string ⟨#[]⟩, .int .i64 0, .bool false, .int .i64 0, .string ⟨#[]⟩, .slice none 0 0, .slice none 0 0, .slice none 0 0, .int .i64 (bq : Int), .int .i64 1]) (by simp [results, Tryz.results40, go_sem, c0, c1, c2, c3, c4, c5, c6, c7, c8, c9, c10]) rfl ?_
   rw [HRE.out]
   exact ⟨by unfold wcs; rfl, by decide, by rw [HG.out]; exact HFB.out⟩
  | true =>
   have HRE := hid (show R = .ok e (past s p clsB) from HR0.out.trans (if_pos hcl))
   have hmk := mark_yes (t := clsB) hple (by decide) (by decide) hcl
   rw [hmk] at HM2
   clear hmk hcl
   generalize past s p clsB = ze at *
   have g3 : decide ((ze : Int) < 0) = false := decide_eq_false (by omega)
   have x9 := HX3.out.free 9
   go_wp2_with fail
   refine (HM2.out _).mono ?_
   rintro e w2 ⟨rfl, rfl⟩
   go_wp2_with fail
   refine (HM2.out _).mono ?_
   rintro e w2 ⟨rfl, rfl⟩
   go_upto_region 16 with fail
   have KG4 := hid (KG3.out.far (p := ⟨X, 9, none⟩) (show G ≠ X by omega) (.int .i64 (ze : Int)))
   have HB4 := hid (HB3.out.setCell (p := ⟨X, 9, none⟩) (Nat.le_of_lt hXG) (.int .i64 (ze : Int)))
   have HX4 := hid (show Blk (W3.setCell ⟨X, 9, none⟩ (.int .i64 (ze : Int))) X 62 #[.string e.op, .string e.name, .int .i64 e.lit.kind, .bool e.lit.tr, .int .i64 e.lit.num, .string e.lit.str, .slice hL e.lit.items.length hl1, .slice hL' e.lit.keys.length hl2, .slice hA1 e.args.length hc1, .int .i64 (ze : Int), .int .i64 0] by have h := HX3.out.set_ 9 (.int .i64 (ze : Int)); rw [show (#[.string e.op, .string e.name, .int .i64 e.lit.kind, .bool e.lit.tr, .int .i64 e.lit.num, .string e.lit.str, .slice hL e.lit.items.length hl1, .slice hL' e.lit.keys.length hl2, .slice hA1 e.args.length hc1, .int .i64 (p : Int), .int .i64 0] : Array Value).setIfInBounds 9 (.int .i64 (ze : Int)) = #[.string e.op, .string e.name, .int .i64 e.lit.kind, .bool e.lit.tr, .int .i64 e.lit.num, .string e.lit.str, .slice hL e.lit.items.length hl1, .slice hL' e.lit.keys.length hl2, .slice hA1 e.args.length hc1, .int .i64 (ze : Int), .int .i64 0] from rfl] at h; exact h)
   have HE4 := hid (show EV (W3.setCell ⟨X, 9, none⟩ (.int .i64 (ze : Int))) (fun q => G < q ∧ q < (W3.setCell ⟨X, 9, none⟩ (.int .i64 (ze : Int))).heap.size ∧ q ≠ X) e ⟨hL, hl1, hL', hl2, hA1, hc1⟩ from (HE3.out.keep (fun q hq => Below.heap_setCell _ _ _ _ hq.2.2)).wide (fun q hq => ⟨hq.1, by simp only [World.size_setCell]; exact hq.2.1, hq.2.2⟩))
   generalize (W3.setCell ⟨X, 9, none⟩ (.int .i64 (ze : Int))) = W4 at *
   have kX := HX4.out
   clear a0 a1 a2 a3 a4 a5 a6 a7 a8 a9 a10 x9
   have a0 := kX.cell 0
   have a1 := kX.cell 1
   have a2 := kX.cell 2
   have a3 := kX.cell 3
   have a4 := kX.cell 4
   have a5 := kX.cell 5
   have a6 := kX.cell 6
   have a7 := kX.cell 7
   have a8 := kX.cell 8
   have a9 := kX.cell 9
   have a10 := kX.cell 10
   clear kX
   obtain ⟨y0, y1, y2, y3, y4, y5, y6, y7, y8, y9, y10, z0, z1, z2, z3, z4, z5, z6, z7, z8, z9, z10, x0, x1, x2, x3, x4, x5, x6, x7, x8, x9, x10⟩ := old11 KG4.out
   go_wp2_with fail
   refine put11_gen KG4.out _ _ _ _ _ _ _ _ _ _ _ (fun WF hf0 hf1 hf2 hf3 => ?_)
   have HF := hid hf0
   have HFB := hid ((hf1 _ _ HB4.out (Nat.le_refl G)))
   have HEF := hid (show EV WF (fun z => G ≤ z ∧ z < WF.heap.size) e ⟨hL, hl1, hL', hl2, hA1, hc1⟩ from (HE4.out.keep (fun z hz => (hf2 _ (by have := hz.1; omega)))).wide (fun z hz => ⟨Nat.le_of_lt hz.1, by rw [hf3]; exact hz.2.1⟩))
   clear z0 x0 z1 x1 z2 x2 z3 x3 z4 x4 z5 x5 z6 x6 z7 x7 z8 x8 z9 x9 z10 x10
   clear hf0 hf1 hf2 hf3
   obtain ⟨c0, c1, c2, c3, c4, c5, c6, c7, c8, c9, c10⟩ := all11 HF.out
   refine bodyPost_ret (v := .agg #[.string e.op, .string e.name, .int .i64 e.lit.kind, .bool e.lit.tr, .int .i64 e.lit.num, .string e.lit.str, .slice hL e.lit.items.length hl1, .slice hL' e.lit.keys.length hl2, .slice hA1 e.args.length hc1, .int .i64 (ze : Int), .int .i64 0]) (by simp [results, Tryz.results40, go_sem, c0, c1, c2, c3, c4, c5, c6, c7, c8, c9, c10]) rfl ?_
   rw [HRE.out]
   refine ⟨⟨hL, hl1, hL', hl2, hA1, hc1⟩, rfl, ?_, by rw [HG.out]; exact HFB.out⟩
   rw [HG.out]
   exact HEF.out
theorem r8one_at (s : ByteArray) (f : Nat) (hs : s.size ≤ 2500) (hL0 : RLev s f 0) (hC : RCall s f) : ROne s (f + 1) := by
 intro i hi hne w
 have h8 : lev s (f + 1) 8 i = (if isDg (bt s (bl s i)) = true then num s (bl s i)
  else if bt s (bl s i) = 34 then strs s (bl s i)
  else if isLt (bt s (bl s i)) = true then
   (if isWord (wd s i) = true then
    (if eqb (wd s i) trueB = true then .ok (litE (Rd.truT true)) (wE s (bl s i))
    else if eqb (wd s i) falseB = true then .ok (litE (Rd.truT false)) (wE s (bl s i))
    else if eqb (wd s i) nullB = true then .ok (litE Rd.nulT) (wE s (bl s i))
    else if eqb (wd s i) thisB = true then .ok (.mk thisB nix Rd.nulT []) (wE s (bl s i))
    else .err (bl s i) 1)
   else if 0 < argsN (wd s i) then calQ s f (wd s i) (wE s (bl s i))
   else .ok (.mk varB (wd s i) Rd.nulT []) (wE s (bl s i)))
  else if stands s i opnB = true then parR8 s (lev s f 0 (past s i opnB))
  else .err (bl s i) 1) := by
  rw [lev, if_neg (by decide), if_neg (by decide), if_neg (by decide), if_pos rfl]
  unfold parR8 calQ
  cases lev s f 0 (past s i opnB) <;> rfl
 rw [h8] at hne ⊢
 clear h8
 by_cases hd : isDg (bt s (bl s i)) = true
 · rw [if_pos hd]; exact r8one_digit s f hs i hi hd w
 rw [if_neg hd] at hne ⊢
 by_cases h34 : bt s (bl s i) = 34
 · rw [if_pos h34]; exact r8one_quote s f hs i hi h34 w
 rw [if_neg h34] at hne ⊢
 have hd' : isDg (bt s (bl s i)) = false := by simpa using hd
 by_cases hl : isLt (bt s (bl s i)) = true
 ·
  rw [if_pos hl] at hne ⊢
  by_cases hw : isWord (wd s i) = true
  ·
   rw [if_pos hw] at hne ⊢
   rcases word_of hw with h | h | h | h | h | h | h
   · rw [h, if_neg (by decide), if_neg (by decide), if_neg (by decide), if_neg (by decide)]; exact r8one_resB _ (Or.inl rfl) s hs i hi hd' h34 hl h w
   · rw [h, if_neg (by decide), if_neg (by decide), if_neg (by decide), if_neg (by decide)]; exact r8one_resB _ (Or.inr (Or.inl rfl)) s hs i hi hd' h34 hl h w
   · rw [h, if_neg (by decide), if_neg (by decide), if_neg (by decide), if_neg (by decide)]; exact r8one_resB _ (Or.inr (Or.inr rfl)) s hs i hi hd' h34 hl h w
   · rw [h, if_pos (by decide)]; exact r8one_trueB s hs i hi hd' h34 hl h w
   · rw [h, if_neg (by decide), if_pos (by decide)]; exact r8one_falseB s hs i hi hd' h34 hl h w
   · rw [h, if_neg (by decide), if_neg (by decide), if_pos (by decide)]; exact r8one_nullB s hs i hi hd' h34 hl h w
   · rw [h, if_neg (by decide), if_neg (by decide), if_neg (by decide), if_pos (by decide)]; exact r8one_thisB s hs i hi hd' h34 hl h w
  ·
   rw [if_neg hw] at hne ⊢
   have hw' : isWord (wd s i) = false := by simpa using hw
   by_cases ha : 0 < argsN (wd s i)
   ·
    rw [if_pos ha] at hne ⊢
    exact r8one_call s hs i hi hd' h34 f hl hw' ha hC hne w
   ·
    rw [if_neg ha]
    exact r8one_var s hs i hi hd' h34 hl hw' (by omega) w
 ·
  rw [if_neg hl] at hne ⊢
  have hl' : isLt (bt s (bl s i)) = false := by simpa using hl
  by_cases h1 : stands s i opnB = true
  ·
   rw [if_pos h1] at hne ⊢
   exact r8one_paren s hs i hi hd' h34 f hl' h1 hL0 (fun h => hne (by rw [h]; rfl)) w
  ·
   rw [if_neg h1]
   exact r8one_none s hs i hi hd' h34 hl' (by simpa using h1) w
end Go.Proofs.YtfbipnflgjhaiaaGreatDoor
