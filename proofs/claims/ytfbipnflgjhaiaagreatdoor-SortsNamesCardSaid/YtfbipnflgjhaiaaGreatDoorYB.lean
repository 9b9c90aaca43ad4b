/- What has no parts that stand beside it, by the reference: contract of one. -/
import Derived.Test.YtfbipnflgjhaiaaGreatDoorYH
import Derived.Test.YtfbipnflgjhaiaaGreatDoorND
set_option linter.unusedVariables false
set_option maxRecDepth 100000
set_option maxHeartbeats 8000000
open Go.Lib (hid)
namespace Go.Proofs.YtfbipnflgjhaiaaGreatDoor
open Go.RowKit
open Tk Ex
theorem next_quote {s : ByteArray} {q : Nat} (h : bt s q = 34) : next s q = strAns s q := by
 have hl : q < s.size := lt_of_bt fun e => by rw [e] at h; cases h
 have h1 : span isBl s q = q := span_no (by rw [h]; rfl)
 show ansAt s (span isBl s q) = _
 rw [h1]
 unfold ansAt
 rw [if_neg (by omega), if_neg (by rw [h]; decide), if_pos h]
theorem word_of {u : ByteArray} (h : isWord u = true) : u = orB ∨ u = andB ∨ u = notB ∨ u = trueB ∨ u = falseB ∨ u = nullB ∨ u = thisB := by
 unfold isWord at h
 obtain ⟨t, ht, he⟩ := List.any_eq_true.1 h
 have := eqb_yes he
 subst this
 simpa [words] using ht
theorem not_word {u : ByteArray} (h : isWord u = false) : ∀ t ∈ words, eqb u t = false := fun t ht => by
 unfold isWord at h
 cases he : eqb u t with
 | false => rfl
 | true => rw [List.any_eq_true.2 ⟨t, ht, he⟩] at h; cases h
theorem lit_false {u t : ByteArray} {l : List UInt8} (hl : t.data.toList = l) (h : eqb u t = false) : (u.toList == l) = false := by
 rw [ByteArray.toList_eq, ← hl]; exact h
theorem r8one_digit (s : ByteArray) (f : Nat) (hs : s.size ≤ 2500) (i : Nat) (hi : i ≤ s.size) (hd : isDg (bt s (bl s i)) = true) (w : World) : Calls Tryz.prog 40 #[.string s, .int .i64 (i : Int)] w (ReadR (num s (bl s i)) w) := by
 have hq := bl_le hi
 have HB := hid (show ∀ w1, Calls Tryz.prog 15 #[.string s, .int .i64 (i : Int)] w1 (fun e w' => e = .returned (.int .i64 (bl s i : Nat)) ∧ w1 = w') from fun w1 => rblanks_any s i w1 (by omega) (by omega))
 have HDG := hid (fun w1 => r8digit_any s (bl s i) w1 (by omega : s.size ≤ 1000000))
 have HNU := hid (fun w1 => r8number_any s (bl s i) w1 (by omega) (by omega) hd)
 have HO := hid (show num s (bl s i) ≠ .out from by unfold num; split; (intro h; cases h); split; (split <;> (intro h; cases h)); (intro h; cases h))
 rw [hd] at HDG
 clear hd
 generalize num s (bl s i) = R at *
 generalize bl s i = q at *
 go_enter Tryz.func40, Tryz.ntmps40
 go_upto_region 1 with fail
 refine alloc_gen (fun W hW kG hWs => ?_)
 have HWS := hid hWs
 have hGW := kG.lt
 generalize hG : w.heap.size = G at *
 have HG := hid hG
 have HW := hid hW
 have KG := hid kG
 clear hW kG hWs hG
 go_wp2_with fail
 refine (HB.out _).mono ?_
 rintro e w2 ⟨rfl, rfl⟩
 go_wp2_with fail
 refine (HDG.out _).mono ?_
 rintro e w2 ⟨rfl, rfl⟩
 go_wp2_with fail
 refine (HNU.out _).mono ?_
 intro e w2 hr
 have HRR := hid hr
 cases R with
 | out => exact absurd rfl HO.out
 | ok x p =>
  obtain ⟨⟨hL, hl1, hL', hl2, hA1, hc1⟩, rfl, _, hb2⟩ := hr
  unfold acs at *
  dsimp only at *
  have KG9 := hid (KG.out.onto hb2)
  clear hb2
  obtain ⟨y0, y1, y2, y3, y4, y5, y6, y7, y8, y9, y10, z0, z1, z2, z3, z4, z5, z6, z7, z8, z9, z10, x0, x1, x2, x3, x4, x5, x6, x7, x8, x9, x10⟩ := old11 KG9.out
  go_wp2_with fail
  refine put11_gen KG9.out _ _ _ _ _ _ _ _ _ _ _ (fun WF hf0 hf1 hf2 hf3 => ?_)
  have HF := hid hf0
  have HRP := hid (ReadR.puts HRR.out (show Below w.heap.size w W by rw [HG.out]; exact HW.out) (Nat.le_of_eq HG.out) hGW hf1 hf2 hf3)
  clear z0 x0 z1 x1 z2 x2 z3 x3 z4 x4 z5 x5 z6 x6 z7 x7 z8 x8 z9 x9 z10 x10
  clear hf0 hf1 hf2 hf3
  obtain ⟨c0, c1, c2, c3, c4, c5, c6, c7, c8, c9, c10⟩ := all11 HF.out
  refine bodyPost_ret (v := .agg #[.string x.op, .string x.name, .int .i64 x.lit.kind, .bool x.lit.tr, .int .i64 x.lit.num, .string x.lit.str, .slice hL x.lit.items.length hl1, .slice hL' x.lit.keys.length hl2, .slice hA1 x.args.length hc1, .int .i64 (p : Int), .int .i64 0]) (by simp [results, Tryz.results40, go_sem, c0, c1, c2, c3, c4, c5, c6, c7, c8, c9, c10]) rfl ?_
  exact HRP.out
 | err p c =>
  obtain ⟨rfl, _, hb2⟩ := hr
  unfold wcs at *
  have KG9 := hid (KG.out.onto hb2)
  clear hb2
  obtain ⟨y0, y1, y2, y3, y4, y5, y6, y7, y8, y9, y10, z0, z1, z2, z3, z4, z5, z6, z7, z8, z9, z10, x0, x1, x2, x3, x4, x5, x6, x7, x8, x9, x10⟩ := old11 KG9.out
  go_wp2_with fail
  refine put11_gen KG9.out _ _ _ _ _ _ _ _ _ _ _ (fun WF hf0 hf1 hf2 hf3 => ?_)
  have HF := hid hf0
  have HRP := hid (ReadR.puts HRR.out (show Below w.heap.size w W by rw [HG.out]; exact HW.out) (Nat.le_of_eq HG.out) hGW hf1 hf2 hf3)
  clear z0 x0 z1 x1 z2 x2 z3 x3 z4 x4 z5 x5 z6 x6 z7 x7 z8 x8 z9 x9 z10 x10
  clear hf0 hf1 hf2 hf3
  obtain ⟨c0, c1, c2, c3, c4, c5, c6, c7, c8, c9, c10⟩ := all11 HF.out
  refine bodyPost_ret (v := .agg #[.string ⟨#[]⟩, .string ⟨#[]⟩, .int .i64 0, .bool false, .int .i64 0, .string ⟨#[]⟩, .slice none 0 0, .slice none 0 0, .slice none 0 0, .int .i64 (p : Int), .int .i64 c]) (by simp [results, Tryz.results40, go_sem, c0, c1, c2, c3, c4, c5, c6, c7, c8, c9, c10]) rfl ?_
  exact HRP.out
theorem r8one_quote (s : ByteArray) (f : Nat) (hs : s.size ≤ 2500) (i : Nat) (hi : i ≤ s.size) (h34 : bt s (bl s i) = 34) (w : World) : Calls Tryz.prog 40 #[.string s, .int .i64 (i : Int)] w (ReadR (strs s (bl s i)) w) := by
 have hq := bl_le hi
 have HB := hid (show ∀ w1, Calls Tryz.prog 15 #[.string s, .int .i64 (i : Int)] w1 (fun e w' => e = .returned (.int .i64 (bl s i : Nat)) ∧ w1 = w') from fun w1 => rblanks_any s i w1 (by omega) (by omega))
 have HDG := hid (fun w1 => r8digit_any s (bl s i) w1 (by omega : s.size ≤ 1000000))
 have hql : bl s i < s.size := lt_of_bt fun e => by rw [e] at h34; cases h34
 have HNX := hid (fun w1 => rnext_far s (bl s i) w1 (by omega) (by omega) hq)
 rw [next_quote h34] at HNX
 have HST := hid (show strs s (bl s i) = (match strAns s (bl s i) with | .tok t => .ok (litE (Rd.strT t.text)) t.fin | .err p c => .err p c) from rfl)
 have HNE := hid (fun p c h => err_num s (bl s i) p c (show ansAt s (bl s i) = .err p c by
  have h2 := next_quote h34
  have h1 : span isBl s (bl s i) = bl s i := span_no (by rw [h34]; rfl)
  have h3 : next s (bl s i) = ansAt s (span isBl s (bl s i)) := rfl
  rw [← h1, ← h3, h2]; exact h))
 generalize strs s (bl s i) = R at *
 generalize strAns s (bl s i) = A at *
 have hb0 := bt_at s (bl s i) hql
 have hdg : isDg (bt s (bl s i)) = false := by rw [h34]; rfl
 rw [hdg] at HDG
 clear hdg
 generalize bl s i = q at *
 have c34 : ((s[q].toNat : Int) == 34) = true := by rw [hb0, h34]; rfl
 clear hb0 h34
 have i1 : (0 : Int) ≤ (q : Int) := by omega
 have i2 : (q : Int) < (s.size : Int) := by omega
 have u1 : decide ((q : Int) < (s.size : Int)) = true := decide_eq_true i2
 cases A with
 | err p c =>
  have HR := hid HST.out
  have hc := HNE.out p c rfl
  have n1 : (c != 0) = true := by rw [bne_iff_ne]; omega
  have n2 : (c == 0) = false := beq_eq_false_iff_ne.2 (by omega)
  have HC := hid (show c ≠ 0 by omega)
  clear hc
  unfold Ans.val at HNX
  dsimp only at HNX
  go_enter Tryz.func40, Tryz.ntmps40
  go_upto_region 1 with fail
  refine alloc_gen (fun W hW kG hWs => ?_)
  have HWS := hid hWs
  have hGW := kG.lt
  generalize hG : w.heap.size = G at *
  have HG := hid hG
  have HW := hid hW
  have KG := hid kG
  clear hW kG hWs hG
  go_wp2_with fail
  refine (HB.out _).mono ?_
  rintro e w2 ⟨rfl, rfl⟩
  go_wp2_with fail
  refine (HDG.out _).mono ?_
  rintro e w2 ⟨rfl, rfl⟩
  go_wp2_with fail
  refine (HNX.out _).mono ?_
  rintro e w3 ⟨rfl, hb3⟩
  have H3 := hid hb3
  have h3s := hb3.size
  clear hb3
  go_upto_region 6 with fail
  have hA4 : Below w3.heap.size w3 (w3.alloc (.cells #[.int .i64 0, .string ⟨#[]⟩, .int .i64 0, .int .i64 0, .int .i64 0] 96)) := (Below.refl _ _).alloc (Nat.le_refl _) _
  change Code.wp _ _ _ _ (w3.alloc (.cells #[.int .i64 0, .string ⟨#[]⟩, .int .i64 0, .int .i64 0, .int .i64 0] 96))
  have H4 := hid (H3.out.trans (hA4.mono h3s))
  generalize (w3.alloc (.cells #[.int .i64 0, .string ⟨#[]⟩, .int .i64 0, .int .i64 0, .int .i64 0] 96)) = W4 at *
  generalize w3.heap.size = T at *
  have h4s := H4.out.size
  clear hA4
  go_wp2_with fail
  refine (r8wrong_any _ _ _).mono ?_
  rintro e w2 ⟨rfl, hb2⟩
  have hb9 := H4.out.trans (hb2.mono h4s)
  clear hb2
  have KG9 := hid (KG.out.onto hb9)
  have HB9 := hid (HW.out.trans (hb9.mono (by omega)))
  clear hb9
  obtain ⟨y0, y1, y2, y3, y4, y5, y6, y7, y8, y9, y10, z0, z1, z2, z3, z4, z5, z6, z7, z8, z9, z10, x0, x1, x2, x3, x4, x5, x6, x7, x8, x9, x10⟩ := old11 KG9.out
  go_wp2_with fail
  refine put11_gen KG9.out _ _ _ _ _ _ _ _ _ _ _ (fun WF hf0 hf1 hf2 hf3 => ?_)
  have HF := hid hf0
  have HFB := hid ((hf1 _ _ HB9.out (Nat.le_refl G)))
  clear z0 x0 z1 x1 z2 x2 z3 x3 z4 x4 z5 x5 z6 x6 z7 x7 z8 x8 z9 x9 z10 x10
  clear hf0 hf1 hf2 hf3
  obtain ⟨c0, c1, c2, c3, c4, c5, c6, c7, c8, c9, c10⟩ := all11 HF.out
  refine bodyPost_ret (v := .agg #[.string ⟨#[]⟩, .string ⟨#[]⟩, .int .i64 0, .bool false, .int .i64 0, .string ⟨#[]⟩, .slice none 0 0, .slice none 0 0, .slice none 0 0, .int .i64 (p : Int), .int .i64 c]) (by simp [results, Tryz.results40, go_sem, c0, c1, c2, c3, c4, c5, c6, c7, c8, c9, c10]) rfl ?_
  rw [HR.out]
  exact ⟨by unfold wcs; rfl, HC.out, by rw [HG.out]; exact HFB.out⟩
 | tok tk =>
  have HR := hid HST.out
  unfold Ans.val at HNX
  dsimp only at HNX
  go_enter Tryz.func40, Tryz.ntmps40
  go_upto_region 1 with fail
  refine alloc_gen (fun W hW kG hWs => ?_)
  have HWS := hid hWs
  have hGW := kG.lt
  generalize hG : w.heap.size = G at *
  have HG := hid hG
  have HW := hid hW
  have KG := hid kG
  clear hW kG hWs hG
  go_wp2_with fail
  refine (HB.out _).mono ?_
  rintro e w2 ⟨rfl, rfl⟩
  go_wp2_with fail
  refine (HDG.out _).mono ?_
  rintro e w2 ⟨rfl, rfl⟩
  go_wp2_with fail
  refine (HNX.out _).mono ?_
  rintro e w3 ⟨rfl, hb3⟩
  have H3 := hid hb3
  have h3s := hb3.size
  clear hb3
  go_upto_region 6 with fail
  refine alloc_gn (fun W4 hA4 kT => ?_)
  have H4 := hid (H3.out.trans (hA4.mono h3s))
  generalize w3.heap.size = T at *
  have h4s := H4.out.size
  have t1 := kT.cell 1
  have t4 := kT.cell 4
  clear hA4 kT
  go_wp2_with fail
  refine (r8literal_any 3 false 0 tk.text _ _).mono ?_
  rintro e w2 ⟨rfl, hb2⟩
  have hb9 := H4.out.trans (hb2.mono h4s)
  clear hb2 t1 t4
  have KG9 := hid (KG.out.onto hb9)
  have HB9 := hid (HW.out.trans (hb9.mono (by omega)))
  clear hb9
  obtain ⟨y0, y1, y2, y3, y4, y5, y6, y7, y8, y9, y10, z0, z1, z2, z3, z4, z5, z6, z7, z8, z9, z10, x0, x1, x2, x3, x4, x5, x6, x7, x8, x9, x10⟩ := old11 KG9.out
  go_wp2_with fail
  refine put11_gen KG9.out _ _ _ _ _ _ _ _ _ _ _ (fun WF hf0 hf1 hf2 hf3 => ?_)
  have HF := hid hf0
  have HFB := hid ((hf1 _ _ HB9.out (Nat.le_refl G)))
  clear z0 x0 z1 x1 z2 x2 z3 x3 z4 x4 z5 x5 z6 x6 z7 x7 z8 x8 z9 x9 z10 x10
  clear hf0 hf1 hf2 hf3
  obtain ⟨c0, c1, c2, c3, c4, c5, c6, c7, c8, c9, c10⟩ := all11 HF.out
  refine bodyPost_ret (v := .agg #[.string ⟨#[108, 105, 116]⟩, .string ⟨#[]⟩, .int .i64 3, .bool false, .int .i64 0, .string tk.text, .slice none 0 0, .slice none 0 0, .slice none 0 0, .int .i64 (tk.fin : Int), .int .i64 0]) (by simp [results, Tryz.results40, go_sem, c0, c1, c2, c3, c4, c5, c6, c7, c8, c9, c10]) rfl ?_
  rw [HR.out]
  exact ⟨hd0, rfl, EV.leaf rfl rfl, by rw [HG.out]; exact HFB.out⟩
theorem letter_no {s : ByteArray} {i : Nat} (hl : isLt (bt s (bl s i)) = true) : markP s i opnB = -1 := by
 unfold markP
 rw [if_neg]
 intro h
 have := has_first (t := opnB) (c := 40) (r := []) rfl h
 rw [this] at hl
 cases hl
theorem r8one_resB (u : ByteArray) (hu : u = orB ∨ u = andB ∨ u = notB) (s : ByteArray) (hs : s.size ≤ 2500) (i : Nat) (hi : i ≤ s.size) (hd : isDg (bt s (bl s i)) = false) (h34 : bt s (bl s i) ≠ 34) (hl : isLt (bt s (bl s i)) = true) (hw : wd s i = u) (w : World) : Calls Tryz.prog 40 #[.string s, .int .i64 (i : Int)] w (ReadR (.err (bl s i) 1) w) := by
 have hq := bl_le hi
 have HB := hid (show ∀ w1, Calls Tryz.prog 15 #[.string s, .int .i64 (i : Int)] w1 (fun e w' => e = .returned (.int .i64 (bl s i : Nat)) ∧ w1 = w') from fun w1 => rblanks_any s i w1 (by omega) (by omega))
 have HDG := hid (fun w1 => r8digit_any s (bl s i) w1 (by omega : s.size ≤ 1000000))
 have HMK := hid (show ∀ w1, Calls Tryz.prog 28 #[.string s, .int .i64 (i : Int), .string ⟨#[40]⟩] w1 (fun e w' => e = .returned (.int .i64 (markP s i opnB)) ∧ w1 = w') from fun w1 => r8mark_any s i opnB w1 (by omega) hi (by decide))
 have HWD := hid (fun w1 => r8word_any s i w1 (by omega) hi)
 rw [hd] at HDG
 have hql : bl s i < s.size := lt_lt hl
 have hmk := letter_no hl
 have hwt : wordT s i = wd s i := if_pos hl
 have hwp : wordP s i = wE s (bl s i) := if_pos hl
 rw [hmk] at HMK
 rw [hwt, hwp] at HWD
 have hb0 := bt_at s (bl s i) hql
 have c34 : ((s[bl s i].toNat : Int) == 34) = false := by rw [beq_eq_false_iff_ne]; intro e; exact h34 (by omega)
 have c35 : decide ((s[bl s i].toNat : Int) = 34) = false := decide_eq_false (by intro e; exact h34 (by omega))
 clear hmk hwt hwp hb0 h34 hl hd
 rw [hw] at HWD
 clear hw
 obtain ⟨R, hR⟩ : ∃ R : Res, .err (bl s i) 1 = R := ⟨_, rfl⟩
 rw [hR]
 have HR0 := hid hR.symm
 clear hR
 have HAR := hid (show ∀ w1, Calls Tryz.prog 55 #[.string u] w1 (fun e w' => e = .returned (.int .i64 (0 : Nat)) ∧ w1 = w') from fun w1 => by rcases hu with rfl | rfl | rfl <;> exact r8args_any _ w1)
 have HRS := hid (show ∀ w1, Calls Tryz.prog 57 #[.string u] w1 (fun e w' => e = .returned (.bool true) ∧ w1 = w') from fun w1 => by rcases hu with rfl | rfl | rfl <;> exact r8res_any _ w1)
 rcases hu with rfl | rfl | rfl
 all_goals
  first
   | unfold orB at HWD HAR HRS
   | unfold andB at HWD HAR HRS
   | unfold notB at HWD HAR HRS
  generalize wE s (bl s i) = z at *
  generalize bl s i = q at *
  have i1 : (0 : Int) ≤ (q : Int) := by omega
  have i2 : (q : Int) < (s.size : Int) := by omega
  have u1 : decide ((q : Int) < (s.size : Int)) = true := decide_eq_true i2
  go_enter Tryz.func40, Tryz.ntmps40
  go_upto_region 1 with fail
  refine alloc_gen (fun W hW kG hWs => ?_)
  have HWS := hid hWs
  have hGW := kG.lt
  generalize hG : w.heap.size = G at *
  have HG := hid hG
  have HW := hid hW
  have KG := hid kG
  clear hW kG hWs hG
  go_wp2_with fail
  refine (HB.out _).mono ?_
  rintro e w2 ⟨rfl, rfl⟩
  go_wp2_with fail
  refine (HDG.out _).mono ?_
  rintro e w2 ⟨rfl, rfl⟩
  go_wp2_with fail
  refine (HMK.out _).mono ?_
  rintro e w2 ⟨rfl, rfl⟩
  go_wp2_with fail
  have HR := HR0
  refine (HWD.out _).mono ?_
  rintro e w2 ⟨rfl, rfl⟩
  go_wp2_with fail
  refine (HAR.out _).mono ?_
  rintro e w2 ⟨rfl, rfl⟩
  go_wp2_with fail
  refine (HRS.out _).mono ?_
  rintro e w2 ⟨rfl, rfl⟩
  go_wp2_with fail
  refine (r8wrong_any _ _ _).mono ?_
  rintro e w2 ⟨rfl, hb2⟩
  have KG9 := hid (KG.out.onto hb2)
  have HB9 := hid (HW.out.trans (hb2.mono (by omega)))
  clear hb2
  obtain ⟨y0, y1, y2, y3, y4, y5, y6, y7, y8, y9, y10, z0, z1, z2, z3, z4, z5, z6, z7, z8, z9, z10, x0, x1, x2, x3, x4, x5, x6, x7, x8, x9, x10⟩ := old11 KG9.out
  go_wp2_with fail
  refine put11_gen KG9.out _ _ _ _ _ _ _ _ _ _ _ (fun WF hf0 hf1 hf2 hf3 => ?_)
  have HF := hid hf0
  have HFB := hid ((hf1 _ _ HB9.out (Nat.le_refl G)))
  clear z0 x0 z1 x1 z2 x2 z3 x3 z4 x4 z5 x5 z6 x6 z7 x7 z8 x8 z9 x9 z10 x10
  clear hf0 hf1 hf2 hf3
  obtain ⟨c0, c1, c2, c3, c4, c5, c6, c7, c8, c9, c10⟩ := all11 HF.out
  refine bodyPost_ret (v := .agg #[.string ⟨#[]⟩, .string ⟨#[]⟩, .int .i64 0, .bool false, .int .i64 0, .string ⟨#[]⟩, .slice none 0 0, .slice none 0 0, .slice none 0 0, .int .i64 (q : Int), .int .i64 1]) (by simp [results, Tryz.results40, go_sem, c0, c1, c2, c3, c4, c5, c6, c7, c8, c9, c10]) rfl ?_
  rw [HR.out]
  exact ⟨by unfold wcs; rfl, by decide, by rw [HG.out]; exact HFB.out⟩
theorem r8one_trueB (s : ByteArray) (hs : s.size ≤ 2500) (i : Nat) (hi : i ≤ s.size) (hd : isDg (bt s (bl s i)) = false) (h34 : bt s (bl s i) ≠ 34) (hl : isLt (bt s (bl s i)) = true) (hw : wd s i = trueB) (w : World) : Calls Tryz.prog 40 #[.string s, .int .i64 (i : Int)] w (ReadR (.ok (litE (Rd.truT true)) (wE s (bl s i))) w) := by
 have hq := bl_le hi
 have HB := hid (show ∀ w1, Calls Tryz.prog 15 #[.string s, .int .i64 (i : Int)] w1 (fun e w' => e = .returned (.int .i64 (bl s i : Nat)) ∧ w1 = w') from fun w1 => rblanks_any s i w1 (by omega) (by omega))
 have HDG := hid (fun w1 => r8digit_any s (bl s i) w1 (by omega : s.size ≤ 1000000))
 have HMK := hid (show ∀ w1, Calls Tryz.prog 28 #[.string s, .int .i64 (i : Int), .string ⟨#[40]⟩] w1 (fun e w' => e = .returned (.int .i64 (markP s i opnB)) ∧ w1 = w') from fun w1 => r8mark_any s i opnB w1 (by omega) hi (by decide))
 have HWD := hid (fun w1 => r8word_any s i w1 (by omega) hi)
 rw [hd] at HDG
 have hql : bl s i < s.size := lt_lt hl
 have hmk := letter_no hl
 have hwt : wordT s i = wd s i := if_pos hl
 have hwp : wordP s i = wE s (bl s i) := if_pos hl
 rw [hmk] at HMK
 rw [hwt, hwp] at HWD
 have hb0 := bt_at s (bl s i) hql
 have c34 : ((s[bl s i].toNat : Int) == 34) = false := by rw [beq_eq_false_iff_ne]; intro e; exact h34 (by omega)
 have c35 : decide ((s[bl s i].toNat : Int) = 34) = false := decide_eq_false (by intro e; exact h34 (by omega))
 clear hmk hwt hwp hb0 h34 hl hd
 rw [hw] at HWD
 unfold trueB at HWD
 clear hw
 obtain ⟨R, hR⟩ : ∃ R : Res, .ok (litE (Rd.truT true)) (wE s (bl s i)) = R := ⟨_, rfl⟩
 rw [hR]
 have HR0 := hid hR.symm
 clear hR
 have HAR := hid (show ∀ w1, Calls Tryz.prog 55 #[.string ⟨#[116, 114, 117, 101]⟩] w1 (fun e w' => e = .returned (.int .i64 (0 : Nat)) ∧ w1 = w') from fun w1 => r8args_any ⟨#[116, 114, 117, 101]⟩ w1)
 have HRS := hid (show ∀ w1, Calls Tryz.prog 57 #[.string ⟨#[116, 114, 117, 101]⟩] w1 (fun e w' => e = .returned (.bool true) ∧ w1 = w') from fun w1 => r8res_any ⟨#[116, 114, 117, 101]⟩ w1)
 generalize wE s (bl s i) = z at *
 generalize bl s i = q at *
 have i1 : (0 : Int) ≤ (q : Int) := by omega
 have i2 : (q : Int) < (s.size : Int) := by omega
 have u1 : decide ((q : Int) < (s.size : Int)) = true := decide_eq_true i2
 go_enter Tryz.func40, Tryz.ntmps40
 go_upto_region 1 with fail
 refine alloc_gen (fun W hW kG hWs => ?_)
 have HWS := hid hWs
 have hGW := kG.lt
 generalize hG : w.heap.size = G at *
 have HG := hid hG
 have HW := hid hW
 have KG := hid kG
 clear hW kG hWs hG
 go_wp2_with fail
 refine (HB.out _).mono ?_
 rintro e w2 ⟨rfl, rfl⟩
 go_wp2_with fail
 refine (HDG.out _).mono ?_
 rintro e w2 ⟨rfl, rfl⟩
 go_wp2_with fail
 refine (HMK.out _).mono ?_
 rintro e w2 ⟨rfl, rfl⟩
 go_wp2_with fail
 have HR := HR0
 refine (HWD.out _).mono ?_
 rintro e w2 ⟨rfl, rfl⟩
 go_wp2_with fail
 refine (r8literal_any 1 true 0 ⟨#[]⟩ _ _).mono ?_
 rintro e w2 ⟨rfl, hb2⟩
 have KG9 := hid (KG.out.onto hb2)
 have HB9 := hid (HW.out.trans (hb2.mono (by omega)))
 clear hb2
 obtain ⟨y0, y1, y2, y3, y4, y5, y6, y7, y8, y9, y10, z0, z1, z2, z3, z4, z5, z6, z7, z8, z9, z10, x0, x1, x2, x3, x4, x5, x6, x7, x8, x9, x10⟩ := old11 KG9.out
 go_wp2_with fail
 refine put11_gen KG9.out _ _ _ _ _ _ _ _ _ _ _ (fun WF hf0 hf1 hf2 hf3 => ?_)
 have HF := hid hf0
 have HFB := hid ((hf1 _ _ HB9.out (Nat.le_refl G)))
 clear z0 x0 z1 x1 z2 x2 z3 x3 z4 x4 z5 x5 z6 x6 z7 x7 z8 x8 z9 x9 z10 x10
 clear hf0 hf1 hf2 hf3
 obtain ⟨c0, c1, c2, c3, c4, c5, c6, c7, c8, c9, c10⟩ := all11 HF.out
 refine bodyPost_ret (v := .agg #[.string ⟨#[108, 105, 116]⟩, .string ⟨#[]⟩, .int .i64 1, .bool true, .int .i64 0, .string ⟨#[]⟩, .slice none 0 0, .slice none 0 0, .slice none 0 0, .int .i64 (z : Int), .int .i64 0]) (by simp [results, Tryz.results40, go_sem, c0, c1, c2, c3, c4, c5, c6, c7, c8, c9, c10]) rfl ?_
 rw [HR.out]
 exact ⟨hd0, rfl, EV.leaf rfl rfl, by rw [HG.out]; exact HFB.out⟩
theorem r8one_falseB (s : ByteArray) (hs : s.size ≤ 2500) (i : Nat) (hi : i ≤ s.size) (hd : isDg (bt s (bl s i)) = false) (h34 : bt s (bl s i) ≠ 34) (hl : isLt (bt s (bl s i)) = true) (hw : wd s i = falseB) (w : World) : Calls Tryz.prog 40 #[.string s, .int .i64 (i : Int)] w (ReadR (.ok (litE (Rd.truT false)) (wE s (bl s i))) w) := by
 have hq := bl_le hi
 have HB := hid (show ∀ w1, Calls Tryz.prog 15 #[.string s, .int .i64 (i : Int)] w1 (fun e w' => e = .returned (.int .i64 (bl s i : Nat)) ∧ w1 = w') from fun w1 => rblanks_any s i w1 (by omega) (by omega))
 have HDG := hid (fun w1 => r8digit_any s (bl s i) w1 (by omega : s.size ≤ 1000000))
 have HMK := hid (show ∀ w1, Calls Tryz.prog 28 #[.string s, .int .i64 (i : Int), .string ⟨#[40]⟩] w1 (fun e w' => e = .returned (.int .i64 (markP s i opnB)) ∧ w1 = w') from fun w1 => r8mark_any s i opnB w1 (by omega) hi (by decide))
 have HWD := hid (fun w1 => r8word_any s i w1 (by omega) hi)
 rw [hd] at HDG
 have hql : bl s i < s.size := lt_lt hl
 have hmk := letter_no hl
 have hwt : wordT s i = wd s i := if_pos hl
 have hwp : wordP s i = wE s (bl s i) := if_pos hl
 rw [hmk] at HMK
 rw [hwt, hwp] at HWD
 have hb0 := bt_at s (bl s i) hql
 have c34 : ((s[bl s i].toNat : Int) == 34) = false := by rw [beq_eq_false_iff_ne]; intro e; exact h34 (by omega)
 have c35 : decide ((s[bl s i].toNat : Int) = 34) = false := decide_eq_false (by intro e; exact h34 (by omega))
 clear hmk hwt hwp hb0 h34 hl hd
 rw [hw] at HWD
 unfold falseB at HWD
 clear hw
 obtain ⟨R, hR⟩ : ∃ R : Res, .ok (litE (Rd.truT false)) (wE s (bl s i)) = R := ⟨_, rfl⟩
 rw [hR]
 have HR0 := hid hR.symm
 clear hR
 have HAR := hid (show ∀ w1, Calls Tryz.prog 55 #[.string ⟨#[102, 97, 108, 115, 101]⟩] w1 (fun e w' => e = .returned (.int .i64 (0 : Nat)) ∧ w1 = w') from fun w1 => r8args_any ⟨#[102, 97, 108, 115, 101]⟩ w1)
 have HRS := hid (show ∀ w1, Calls Tryz.prog 57 #[.string ⟨#[102, 97, 108, 115, 101]⟩] w1 (fun e w' => e = .returned (.bool true) ∧ w1 = w') from fun w1 => r8res_any ⟨#[102, 97, 108, 115, 101]⟩ w1)
 generalize wE s (bl s i) = z at *
 generalize bl s i = q at *
 have i1 : (0 : Int) ≤ (q : Int) := by omega
 have i2 : (q : Int) < (s.size : Int) := by omega
 have u1 : decide ((q : Int) < (s.size : Int)) = true := decide_eq_true i2
 go_enter Tryz.func40, Tryz.ntmps40
 go_upto_region 1 with fail
 refine alloc_gen (fun W hW kG hWs => ?_)
 have HWS := hid hWs
 have hGW := kG.lt
 generalize hG : w.heap.size = G at *
 have HG := hid hG
 have HW := hid hW
 have KG := hid kG
 clear hW kG hWs hG
 go_wp2_with fail
 refine (HB.out _).mono ?_
 rintro e w2 ⟨rfl, rfl⟩
 go_wp2_with fail
 refine (HDG.out _).mono ?_
 rintro e w2 ⟨rfl, rfl⟩
 go_wp2_with fail
 refine (HMK.out _).mono ?_
 rintro e w2 ⟨rfl, rfl⟩
 go_wp2_with fail
 have HR := HR0
 refine (HWD.out _).mono ?_
 rintro e w2 ⟨rfl, rfl⟩
 go_wp2_with fail
 refine (r8literal_any 1 false 0 ⟨#[]⟩ _ _).mono ?_
 rintro e w2 ⟨rfl, hb2⟩
 have KG9 := hid (KG.out.onto hb2)
 have HB9 := hid (HW.out.trans (hb2.mono (by omega)))
 clear hb2
 obtain ⟨y0, y1, y2, y3, y4, y5, y6, y7, y8, y9, y10, z0, z1, z2, z3, z4, z5, z6, z7, z8, z9, z10, x0, x1, x2, x3, x4, x5, x6, x7, x8, x9, x10⟩ := old11 KG9.out
 go_wp2_with fail
 refine put11_gen KG9.out _ _ _ _ _ _ _ _ _ _ _ (fun WF hf0 hf1 hf2 hf3 => ?_)
 have HF := hid hf0
 have HFB := hid ((hf1 _ _ HB9.out (Nat.le_refl G)))
 clear z0 x0 z1 x1 z2 x2 z3 x3 z4 x4 z5 x5 z6 x6 z7 x7 z8 x8 z9 x9 z10 x10
 clear hf0 hf1 hf2 hf3
 obtain ⟨c0, c1, c2, c3, c4, c5, c6, c7, c8, c9, c10⟩ := all11 HF.out
 refine bodyPost_ret (v := .agg #[.string ⟨#[108, 105, 116]⟩, .string ⟨#[]⟩, .int .i64 1, .bool false, .int .i64 0, .string ⟨#[]⟩, .slice none 0 0, .slice none 0 0, .slice none 0 0, .int .i64 (z : Int), .int .i64 0]) (by simp [results, Tryz.results40, go_sem, c0, c1, c2, c3, c4, c5, c6, c7, c8, c9, c10]) rfl ?_
 rw [HR.out]
 exact ⟨hd0, rfl, EV.leaf rfl rfl, by rw [HG.out]; exact HFB.out⟩
theorem r8one_nullB (s : ByteArray) (hs : s.size ≤ 2500) (i : Nat) (hi : i ≤ s.size) (hd : isDg (bt s (bl s i)) = false) (h34 : bt s (bl s i) ≠ 34) (hl : isLt (bt s (bl s i)) = true) (hw : wd s i = nullB) (w : World) : Calls Tryz.prog 40 #[.string s, .int .i64 (i : Int)] w (ReadR (.ok (litE Rd.nulT) (wE s (bl s i))) w) := by
 have hq := bl_le hi
 have HB := hid (show ∀ w1, Calls Tryz.prog 15 #[.string s, .int .i64 (i : Int)] w1 (fun e w' => e = .returned (.int .i64 (bl s i : Nat)) ∧ w1 = w') from fun w1 => rblanks_any s i w1 (by omega) (by omega))
 have HDG := hid (fun w1 => r8digit_any s (bl s i) w1 (by omega : s.size ≤ 1000000))
 have HMK := hid (show ∀ w1, Calls Tryz.prog 28 #[.string s, .int .i64 (i : Int), .string ⟨#[40]⟩] w1 (fun e w' => e = .returned (.int .i64 (markP s i opnB)) ∧ w1 = w') from fun w1 => r8mark_any s i opnB w1 (by omega) hi (by decide))
 have HWD := hid (fun w1 => r8word_any s i w1 (by omega) hi)
 rw [hd] at HDG
 have hql : bl s i < s.size := lt_lt hl
 have hmk := letter_no hl
 have hwt : wordT s i = wd s i := if_pos hl
 have hwp : wordP s i = wE s (bl s i) := if_pos hl
 rw [hmk] at HMK
 rw [hwt, hwp] at HWD
 have hb0 := bt_at s (bl s i) hql
 have c34 : ((s[bl s i].toNat : Int) == 34) = false := by rw [beq_eq_false_iff_ne]; intro e; exact h34 (by omega)
 have c35 : decide ((s[bl s i].toNat : Int) = 34) = false := decide_eq_false (by intro e; exact h34 (by omega))
 clear hmk hwt hwp hb0 h34 hl hd
 rw [hw] at HWD
 unfold nullB at HWD
 clear hw
 obtain ⟨R, hR⟩ : ∃ R : Res, .ok (litE Rd.nulT) (wE s (bl s i)) = R := ⟨_, rfl⟩
 rw [hR]
 have HR0 := hid hR.symm
 clear hR
 have HAR := hid (show ∀ w1, Calls Tryz.prog 55 #[.string ⟨#[110, 117, 108, 108]⟩] w1 (fun e w' => e = .returned (.int .i64 (0 : Nat)) ∧ w1 = w') from fun w1 => r8args_any ⟨#[110, 117, 108, 108]⟩ w1)
 have HRS := hid (show ∀ w1, Calls Tryz.prog 57 #[.string ⟨#[110, 117, 108, 108]⟩] w1 (fun e w' => e = .returned (.bool true) ∧ w1 = w') from fun w1 => r8res_any ⟨#[110, 117, 108, 108]⟩ w1)
 generalize wE s (bl s i) = z at *
 generalize bl s i = q at *
 have i1 : (0 : Int) ≤ (q : Int) := by omega
 have i2 : (q : Int) < (s.size : Int) := by omega
 have u1 : decide ((q : Int) < (s.size : Int)) = true := decide_eq_true i2
 go_enter Tryz.func40, Tryz.ntmps40
 go_upto_region 1 with fail
 refine alloc_gen (fun W hW kG hWs => ?_)
 have HWS := hid hWs
 have hGW := kG.lt
 generalize hG : w.heap.size = G at *
 have HG := hid hG
 have HW := hid hW
 have KG := hid kG
 clear hW kG hWs hG
 go_wp2_with fail
 refine (HB.out _).mono ?_
 rintro e w2 ⟨rfl, rfl⟩
 go_wp2_with fail
 refine (HDG.out _).mono ?_
 rintro e w2 ⟨rfl, rfl⟩
 go_wp2_with fail
 refine (HMK.out _).mono ?_
 rintro e w2 ⟨rfl, rfl⟩
 go_wp2_with fail
 have HR := HR0
 refine (HWD.out _).mono ?_
 rintro e w2 ⟨rfl, rfl⟩
 go_wp2_with fail
 refine (r8literal_any 0 false 0 ⟨#[]⟩ _ _).mono ?_
 rintro e w2 ⟨rfl, hb2⟩
 have KG9 := hid (KG.out.onto hb2)
 have HB9 := hid (HW.out.trans (hb2.mono (by omega)))
 clear hb2
 obtain ⟨y0, y1, y2, y3, y4, y5, y6, y7, y8, y9, y10, z0, z1, z2, z3, z4, z5, z6, z7, z8, z9, z10, x0, x1, x2, x3, x4, x5, x6, x7, x8, x9, x10⟩ := old11 KG9.out
 go_wp2_with fail
 refine put11_gen KG9.out _ _ _ _ _ _ _ _ _ _ _ (fun WF hf0 hf1 hf2 hf3 => ?_)
 have HF := hid hf0
 have HFB := hid ((hf1 _ _ HB9.out (Nat.le_refl G)))
 clear z0 x0 z1 x1 z2 x2 z3 x3 z4 x4 z5 x5 z6 x6 z7 x7 z8 x8 z9 x9 z10 x10
 clear hf0 hf1 hf2 hf3
 obtain ⟨c0, c1, c2, c3, c4, c5, c6, c7, c8, c9, c10⟩ := all11 HF.out
 refine bodyPost_ret (v := .agg #[.string ⟨#[108, 105, 116]⟩, .string ⟨#[]⟩, .int .i64 0, .bool false, .int .i64 0, .string ⟨#[]⟩, .slice none 0 0, .slice none 0 0, .slice none 0 0, .int .i64 (z : Int), .int .i64 0]) (by simp [results, Tryz.results40, go_sem, c0, c1, c2, c3, c4, c5, c6, c7, c8, c9, c10]) rfl ?_
 rw [HR.out]
 exact ⟨hd0, rfl, EV.leaf rfl rfl, by rw [HG.out]; exact HFB.out⟩
theorem r8one_thisB (s : ByteArray) (hs : s.size ≤ 2500) (i : Nat) (hi : i ≤ s.size) (hd : isDg (bt s (bl s i)) = false) (h34 : bt s (bl s i) ≠ 34) (hl : isLt (bt s (bl s i)) = true) (hw : wd s i = thisB) (w : World) : Calls Tryz.prog 40 #[.string s, .int .i64 (i : Int)] w (ReadR (.ok (.mk thisB nix Rd.nulT []) (wE s (bl s i))) w) := by
 have hq := bl_le hi
 have HB := hid (show ∀ w1, Calls Tryz.prog 15 #[.string s, .int .i64 (i : Int)] w1 (fun e w' => e = .returned (.int .i64 (bl s i : Nat)) ∧ w1 = w') from fun w1 => rblanks_any s i w1 (by omega) (by omega))
 have HDG := hid (fun w1 => r8digit_any s (bl s i) w1 (by omega : s.size ≤ 1000000))
 have HMK := hid (show ∀ w1, Calls Tryz.prog 28 #[.string s, .int .i64 (i : Int), .string ⟨#[40]⟩] w1 (fun e w' => e = .returned (.int .i64 (markP s i opnB)) ∧ w1 = w') from fun w1 => r8mark_any s i opnB w1 (by omega) hi (by decide))
 have HWD := hid (fun w1 => r8word_any s i w1 (by omega) hi)
 rw [hd] at HDG
 have hql : bl s i < s.size := lt_lt hl
 have hmk := letter_no hl
 have hwt : wordT s i = wd s i := if_pos hl
 have hwp : wordP s i = wE s (bl s i) := if_pos hl
 rw [hmk] at HMK
 rw [hwt, hwp] at HWD
 have hb0 := bt_at s (bl s i) hql
 have c34 : ((s[bl s i].toNat : Int) == 34) = false := by rw [beq_eq_false_iff_ne]; intro e; exact h34 (by omega)
 have c35 : decide ((s[bl s i].toNat : Int) = 34) = false := decide_eq_false (by intro e; exact h34 (by omega))
 clear hmk hwt hwp hb0 h34 hl hd
 rw [hw] at HWD
 unfold thisB at HWD
 clear hw
 obtain ⟨R, hR⟩ : ∃ R : Res, .ok (.mk thisB nix Rd.nulT []) (wE s (bl s i)) = R := ⟨_, rfl⟩
 rw [hR]
 have HR0 := hid hR.symm
 clear hR
 have HAR := hid (show ∀ w1, Calls Tryz.prog 55 #[.string ⟨#[116, 104, 105, 115]⟩] w1 (fun e w' => e = .returned (.int .i64 (0 : Nat)) ∧ w1 = w') from fun w1 => r8args_any ⟨#[116, 104, 105, 115]⟩ w1)
 have HRS := hid (show ∀ w1, Calls Tryz.prog 57 #[.string ⟨#[116, 104, 105, 115]⟩] w1 (fun e w' => e = .returned (.bool true) ∧ w1 = w') from fun w1 => r8res_any ⟨#[116, 104, 105, 115]⟩ w1)
 generalize wE s (bl s i) = z at *
 generalize bl s i = q at *
 have i1 : (0 : Int) ≤ (q : Int) := by omega
 have i2 : (q : Int) < (s.size : Int) := by omega
 have u1 : decide ((q : Int) < (s.size : Int)) = true := decide_eq_true i2
 go_enter Tryz.func40, Tryz.ntmps40
 go_upto_region 1 with fail
 refine alloc_gen (fun W hW kG hWs => ?_)
 have HWS := hid hWs
 have hGW := kG.lt
 generalize hG : w.heap.size = G at *
 have HG := hid hG
 have HW := hid hW
 have KG := hid kG
 clear hW kG hWs hG
 go_wp2_with fail
 refine (HB.out _).mono ?_
 rintro e w2 ⟨rfl, rfl⟩
 go_wp2_with fail
 refine (HDG.out _).mono ?_
 rintro e w2 ⟨rfl, rfl⟩
 go_wp2_with fail
 refine (HMK.out _).mono ?_
 rintro e w2 ⟨rfl, rfl⟩
 go_wp2_with fail
 have HR := HR0
 obtain ⟨y0, y1, y2, y3, y4, y5, y6, y7, y8, y9, y10, z0, z1, z2, z3, z4, z5, z6, z7, z8, z9, z10, x0, x1, x2, x3, x4, x5, x6, x7, x8, x9, x10⟩ := old11 KG.out
 refine (HWD.out _).mono ?_
 rintro e w2 ⟨rfl, rfl⟩
 go_wp2_with fail
 refine put11_gen KG.out _ _ _ _ _ _ _ _ _ _ _ (fun WF hf0 hf1 hf2 hf3 => ?_)
 have HF := hid hf0
 have HFB := hid ((hf1 _ _ HW.out (Nat.le_refl G)))
 clear z0 x0 z1 x1 z2 x2 z3 x3 z4 x4 z5 x5 z6 x6 z7 x7 z8 x8 z9 x9 z10 x10
 clear hf0 hf1 hf2 hf3
 obtain ⟨c0, c1, c2, c3, c4, c5, c6, c7, c8, c9, c10⟩ := all11 HF.out
 refine bodyPost_ret (v := .agg #[.string ⟨#[116, 104, 105, 115]⟩, .string ⟨#[]⟩, .int .i64 0, .bool false, .int .i64 0, .string ⟨#[]⟩, .slice none 0 0, .slice none 0 0, .slice none 0 0, .int .i64 (z : Int), .int .i64 0]) (by simp [results, Tryz.results40, go_sem, c0, c1, c2, c3, c4, c5, c6, c7, c8, c9, c10]) rfl ?_
 rw [HR.out]
 exact ⟨hd0, rfl, EV.leaf rfl rfl, by rw [HG.out]; exact HFB.out⟩
end Go.Proofs.YtfbipnflgjhaiaaGreatDoor
