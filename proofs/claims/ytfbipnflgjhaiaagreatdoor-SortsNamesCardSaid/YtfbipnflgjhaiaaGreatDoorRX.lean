/- The reference's letters, words and signs: contracts. The reference's words and signs: contracts. The reference's signs: contract of Mark. The reference's names of calls and reserved words: contracts. -/
import Derived.Test.YtfbipnflgjhaiaaGreatDoorNB
import Derived.Test.YtfbipnflgjhaiaaGreatDoorEF
set_option linter.unusedVariables false
set_option maxRecDepth 100000
set_option maxHeartbeats 8000000
open Go.Lib (hid)
namespace Go.Proofs.YtfbipnflgjhaiaaGreatDoor
open Go.RowKit
open Tk Ex
theorem r8letter_any (s : ByteArray) (a : Nat) (w : World) (hs : s.size ≤ 1000000) : Calls Tryz.prog 38 #[.string s, .int .i64 a] w fun e w' => e = .returned (.bool (isLt (bt s a))) ∧ w = w' := by
 by_cases hl : a < s.size
 ·
  have u1 : decide (a < s.size) = true := decide_eq_true hl
  have u2 : decide ((a : Int) < (s.size : Int)) = true := decide_eq_true (by omega)
  have i1 : (a : Int) < (s.size : Int) := by omega
  have i2 : (0 : Int) ≤ (a : Int) := by omega
  have HX := hid (bt_at s a hl)
  generalize bt s a = z at *
  have hx := HX.out
  by_cases a1 : (97 : Int) ≤ (s[a].toNat : Int) <;> by_cases a2 : (s[a].toNat : Int) ≤ 122 <;> by_cases a3 : (65 : Int) ≤ (s[a].toNat : Int) <;> by_cases a4 : (s[a].toNat : Int) ≤ 90
  all_goals try (exfalso; omega)
  all_goals
   clear hx
   go_enter Tryz.func38, Tryz.ntmps38
   go_wp2_with fail
   go_ret
   have hx := HX.out
   first
    | exact ⟨by rw [show isLt z = true from isLt_iff.2 (by omega)] <;> rfl, rfl⟩
    | exact ⟨by rw [show isLt z = false from isLt_no.2 (by omega)] <;> rfl, rfl⟩
 ·
  have u1 : decide (a < s.size) = false := decide_eq_false hl
  have u2 : decide ((a : Int) < (s.size : Int)) = false := decide_eq_false (by omega)
  have HX := hid (show isLt (bt s a) = false by rw [bt_end (by omega)]; rfl)
  generalize isLt (bt s a) = z at *
  go_enter Tryz.func38, Tryz.ntmps38
  go_wp2_with fail
  go_ret
  exact ⟨by rw [HX.out] <;> rfl, rfl⟩
theorem r8digit_any (s : ByteArray) (a : Nat) (w : World) (hs : s.size ≤ 1000000) : Calls Tryz.prog 52 #[.string s, .int .i64 a] w fun e w' => e = .returned (.bool (isDg (bt s a))) ∧ w = w' := by
 by_cases hl : a < s.size
 ·
  have u1 : decide (a < s.size) = true := decide_eq_true hl
  have u2 : decide ((a : Int) < (s.size : Int)) = true := decide_eq_true (by omega)
  have i1 : (a : Int) < (s.size : Int) := by omega
  have i2 : (0 : Int) ≤ (a : Int) := by omega
  have HX := hid (bt_at s a hl)
  generalize bt s a = z at *
  have hx := HX.out
  by_cases a1 : (48 : Int) ≤ (s[a].toNat : Int) <;> by_cases a2 : (s[a].toNat : Int) ≤ 57
  all_goals try (exfalso; omega)
  all_goals
   clear hx
   go_enter Tryz.func52, Tryz.ntmps52
   go_wp2_with fail
   go_ret
   have hx := HX.out
   first
    | exact ⟨by rw [show isDg z = true from isDg_iff.2 (by omega)] <;> rfl, rfl⟩
    | exact ⟨by rw [show isDg z = false from isDg_no.2 (by omega)] <;> rfl, rfl⟩
 ·
  have u1 : decide (a < s.size) = false := decide_eq_false hl
  have u2 : decide ((a : Int) < (s.size : Int)) = false := decide_eq_false (by omega)
  have HX := hid (show isDg (bt s a) = false by rw [bt_end (by omega)]; rfl)
  generalize isDg (bt s a) = z at *
  go_enter Tryz.func52, Tryz.ntmps52
  go_wp2_with fail
  go_ret
  exact ⟨by rw [HX.out] <;> rfl, rfl⟩
open Go.RowKit
open Tk Ex
theorem r8goes_any (s : ByteArray) (a : Nat) (w : World) (hs : s.size ≤ 1000000) : Calls Tryz.prog 39 #[.string s, .int .i64 a] w fun e w' => e = .returned (.bool (goes (bt s a))) ∧ w = w' := by
 have HL := hid (fun w1 => r8letter_any s a w1 hs)
 have HD := hid (fun w1 => r8digit_any s a w1 hs)
 have HG := hid (show goes (bt s a) = ((isLt (bt s a) || bt s a == 95) || isDg (bt s a)) from rfl)
 cases hl : isLt (bt s a) with
 | true =>
  have HR := hid (show goes (bt s a) = true by rw [HG.out, hl]; rfl)
  rw [hl] at HL
  clear hl
  generalize goes (bt s a) = z at *
  go_enter Tryz.func39, Tryz.ntmps39
  go_wp2_with fail
  refine (HL.out w).mono ?_
  rintro e w2 ⟨rfl, rfl⟩
  go_wp2_with fail
  go_ret
  exact ⟨by rw [HR.out] <;> rfl, rfl⟩
 | false =>
  rw [hl] at HL
  cases hd : isDg (bt s a) with
  | true =>
   have HR := hid (show goes (bt s a) = true by rw [HG.out, hl, hd]; simp)
   rw [hd] at HD
   clear hl hd
   generalize goes (bt s a) = z at *
   go_enter Tryz.func39, Tryz.ntmps39
   go_wp2_with fail
   refine (HL.out w).mono ?_
   rintro e w2 ⟨rfl, rfl⟩
   go_wp2_with fail
   refine (HD.out w).mono ?_
   rintro e w2 ⟨rfl, rfl⟩
   go_wp2_with fail
   go_ret
   exact ⟨by rw [HR.out] <;> rfl, rfl⟩
  | false =>
   rw [hd] at HD
   have HR1 := hid (show goes (bt s a) = (bt s a == 95) by rw [HG.out, hl, hd]; simp)
   by_cases hlt : a < s.size
   ·
    have u1 : decide (a < s.size) = true := decide_eq_true hlt
    have u2 : decide ((a : Int) < (s.size : Int)) = true := decide_eq_true (by omega)
    have i1 : (a : Int) < (s.size : Int) := by omega
    have i2 : (0 : Int) ≤ (a : Int) := by omega
    have hb := bt_at s a hlt
    by_cases h95 : bt s a = 95
    ·
     have HR := hid (show goes (bt s a) = true by rw [HR1.out, h95]; rfl)
     have u3 : ((bt s a : Int) == 95) = true := by rw [h95]; rfl
     have u4 : decide ((bt s a : Int) = 95) = true := by rw [h95]; rfl
     clear h95 hl hd
     generalize goes (bt s a) = z at *
     go_enter Tryz.func39, Tryz.ntmps39
     go_wp2_with fail
     refine (HL.out w).mono ?_
     rintro e w2 ⟨rfl, rfl⟩
     go_wp2_with fail
     refine (HD.out w).mono ?_
     rintro e w2 ⟨rfl, rfl⟩
     go_wp2_with fail
     go_ret
     exact ⟨by rw [HR.out] <;> rfl, rfl⟩
    ·
     have HR := hid (show goes (bt s a) = false by rw [HR1.out]; simpa using h95)
     have u3 : ((bt s a : Int) == 95) = false := by rw [beq_eq_false_iff_ne]; omega
     have u4 : decide ((bt s a : Int) = 95) = false := decide_eq_false (by omega)
     clear h95 hl hd
     generalize goes (bt s a) = z at *
     go_enter Tryz.func39, Tryz.ntmps39
     go_wp2_with fail
     refine (HL.out w).mono ?_
     rintro e w2 ⟨rfl, rfl⟩
     go_wp2_with fail
     refine (HD.out w).mono ?_
     rintro e w2 ⟨rfl, rfl⟩
     go_wp2_with fail
     go_ret
     exact ⟨by rw [HR.out] <;> rfl, rfl⟩
   ·
    have u1 : decide (a < s.size) = false := decide_eq_false hlt
    have u2 : decide ((a : Int) < (s.size : Int)) = false := decide_eq_false (by omega)
    have HR := hid (show goes (bt s a) = false by rw [HR1.out, bt_end (by omega)]; rfl)
    clear hl hd
    generalize goes (bt s a) = z at *
    go_enter Tryz.func39, Tryz.ntmps39
    go_wp2_with fail
    refine (HL.out w).mono ?_
    rintro e w2 ⟨rfl, rfl⟩
    go_wp2_with fail
    refine (HD.out w).mono ?_
    rintro e w2 ⟨rfl, rfl⟩
    go_wp2_with fail
    go_ret
    exact ⟨by rw [HR.out] <;> rfl, rfl⟩
theorem r8word_any (s : ByteArray) (a : Nat) (w : World) (hs : s.size ≤ 1000000) (ha : a ≤ s.size) : Calls Tryz.prog 26 #[.string s, .int .i64 a] w fun e w' => e = .returned (.tuple #[.string (wordT s a), .int .i64 (wordP s a : Nat)]) ∧ w = w' := by
 have HB := hid (show ∀ w1, Calls Tryz.prog 15 #[.string s, .int .i64 a] w1 (fun e w' => e = .returned (.int .i64 (bl s a : Nat)) ∧ w1 = w') from fun w1 => rblanks_any s a w1 hs (by omega))
 have hq := bl_le ha
 have HT := hid (show wordT s a = if isLt (bt s (bl s a)) = true then sub s (bl s a) (wE s (bl s a)) else nix from rfl)
 have HQ := hid (show wordP s a = if isLt (bt s (bl s a)) = true then wE s (bl s a) else a from rfl)
 generalize wordT s a = T at *
 generalize wordP s a = P at *
 generalize bl s a = q at *
 have HL := hid (fun w1 => r8letter_any s q w1 hs)
 have i0 : (0 : Int) ≤ (q : Int) := by omega
 by_cases hl : isLt (bt s q) = true
 ·
  have hz1 := wE_pos hl
  have hz2 := wE_le (s := s) (a := q) hq
  have HT2 := hid (HT.out.trans (if_pos hl))
  have HQ2 := hid (HQ.out.trans (if_pos hl))
  have HWE := hid (show wE s q = span goes s q by unfold wE; rw [if_pos hl])
  rw [hl] at HL
  clear hl HT HQ
  go_enter Tryz.func26, Tryz.ntmps26
  go_wp2_with fail
  refine (HB.out w).mono ?_
  rintro e w2 ⟨rfl, rfl⟩
  go_wp2_with fail
  refine (HL.out w).mono ?_
  rintro e w2 ⟨rfl, rfl⟩
  go_wp2_with fail
  go_loop [7] (fun i => ∃ k : Nat, q ≤ k ∧ k ≤ span goes s q ∧ i = .int .i64 k) (fun i => span goes s q - (intOf i).toNat)
  case atStart => exact ⟨q, Nat.le_refl _, span_ge _ _ _, rfl⟩
  case round =>
   obtain ⟨k, h1, h2, rfl⟩ := hrel
   have hwe := HWE.out
   have HG := hid (fun w1 => r8goes_any s k w1 hs)
   have i1 : (0 : Int) ≤ (k : Int) := by omega
   have i2 : (k : Int) ≤ (s.size : Int) := by omega
   by_cases hlt : k < span goes s q
   ·
    rw [span_in (p := goes) h1 hlt] at HG
    have hk := hid (show k < 1000000 by omega)
    clear hwe
    go_wp2_with fail
    refine (HG.out _).mono ?_
    rintro e w2 ⟨rfl, rfl⟩
    have := hk.out
    go_wp2_with fail
    go_round
    case rel => exact ⟨k + 1, by omega, by omega, by go_num⟩
    case measure => simp only [intOf, Int.toNat_natCast]; go_num
   ·
    obtain rfl : k = span goes s q := by omega
    have hst : goes (bt s (span goes s q)) = false := by
     rcases Nat.lt_or_ge (span goes s q) s.size with h | h
     · exact span_out (p := goes) h
     · rw [bt_end h]; rfl
    rw [hst] at HG
    have HKE := hid hwe
    clear hwe hst
    generalize span goes s q = k at *
    have i3 : (q : Int) ≤ (k : Int) := by omega
    go_wp2_with fail
    refine (HG.out _).mono ?_
    rintro e w2 ⟨rfl, rfl⟩
    go_wp2_with fail
    refine bodyPost_ret (v := .tuple #[.string (s.extract q k), .int .i64 k]) (by simp [results, Tryz.results26, go_sem]) rfl ⟨?_, rfl⟩
    rw [HT2.out, HQ2.out, HKE.out]
    rfl
 ·
  have HT2 := hid (HT.out.trans (if_neg hl))
  have HQ2 := hid (HQ.out.trans (if_neg hl))
  rw [Bool.eq_false_iff.2 hl] at HL
  clear hl HT HQ
  go_enter Tryz.func26, Tryz.ntmps26
  go_wp2_with fail
  refine (HB.out w).mono ?_
  rintro e w2 ⟨rfl, rfl⟩
  go_wp2_with fail
  refine (HL.out w).mono ?_
  rintro e w2 ⟨rfl, rfl⟩
  go_wp2_with fail
  refine bodyPost_ret (v := .tuple #[.string ⟨#[]⟩, .int .i64 a]) (by simp [results, Tryz.results26, go_sem]) rfl ⟨?_, rfl⟩
  rw [HT2.out, HQ2.out]
  rfl
open Go.RowKit
open Tk Ex
theorem has_take (s : ByteArray) (q : Nat) (t : ByteArray) : has s q t = true ↔ t.data.toList = (s.data.toList.drop q).take t.size := by
 unfold has
 rw [List.isPrefixOf_iff_prefix, List.prefix_iff_eq_take, size_toList]
theorem ext_list (s : ByteArray) (q n : Nat) : (s.extract q (q + n)).data.toList = (s.data.toList.drop q).take n := by
 rw [show (s.extract q (q + n)).data.toList = (s.data.toList.drop q).take (q + n - q) from sub_list s q (q + n), Nat.add_sub_cancel_left]
theorem has_eqb (s : ByteArray) (q : Nat) (t : ByteArray) : has s q t = eqb (s.extract q (q + t.size)) t := by
 cases h : has s q t with
 | true =>
  have h1 := (has_take s q t).1 h
  unfold eqb
  rw [ext_list, ← h1]; exact (beq_self_eq_true _).symm
 | false =>
  cases h2 : eqb (s.extract q (q + t.size)) t with
  | false => rfl
  | true =>
   have h3 : (s.extract q (q + t.size)).data.toList = t.data.toList := by unfold eqb at h2; exact beq_iff_eq.1 h2
   rw [ext_list] at h3
   rw [(has_take s q t).2 h3.symm] at h
   cases h
theorem r8mark_any (s : ByteArray) (a : Nat) (t : ByteArray) (w : World) (hs : s.size ≤ 1000000) (ha : a ≤ s.size) (ht : t.size ≤ 1000) : Calls Tryz.prog 28 #[.string s, .int .i64 a, .string t] w fun e w' => e = .returned (.int .i64 (markP s a t)) ∧ w = w' := by
 have HB := hid (show ∀ w1, Calls Tryz.prog 15 #[.string s, .int .i64 a] w1 (fun e w' => e = .returned (.int .i64 (bl s a : Nat)) ∧ w1 = w') from fun w1 => rblanks_any s a w1 hs (by omega))
 have hq := bl_le ha
 have HM := hid (show markP s a t = if has s (bl s a) t = true then ((bl s a + t.size : Nat) : Int) else -1 from rfl)
 generalize markP s a t = M at *
 generalize bl s a = q at *
 have i0 : (0 : Int) ≤ (q : Int) := by omega
 by_cases hlt : s.size < q + t.size
 ·
  have u1 : decide (((q : Int) + (t.size : Int)) > (s.size : Int)) = true := decide_eq_true (by omega)
  have u2 : decide ((s.size : Int) < (q : Int) + (t.size : Int)) = true := decide_eq_true (by omega)
  have HM2 := hid (show M = -1 by
   rw [HM.out, if_neg]
   intro h
   have := has_le h
   omega)
  clear HM
  go_enter Tryz.func28, Tryz.ntmps28
  go_wp2_with fail
  refine (HB.out w).mono ?_
  rintro e w2 ⟨rfl, rfl⟩
  go_wp2_with fail
  go_ret
  exact ⟨by rw [HM2.out] <;> rfl, rfl⟩
 ·
  have u1 : decide (((q : Int) + (t.size : Int)) > (s.size : Int)) = false := decide_eq_false (by omega)
  have u2 : decide ((s.size : Int) < (q : Int) + (t.size : Int)) = false := decide_eq_false (by omega)
  have i1 : (q : Int) ≤ (q : Int) + (t.size : Int) := by omega
  have i2 : (q : Int) + (t.size : Int) ≤ (s.size : Int) := by omega
  have i3 : (0 : Int) ≤ (q : Int) + (t.size : Int) := by omega
  have c1 : ((q : Int) + (t.size : Int)).toNat = q + t.size := by omega
  have HE := hid (has_eqb s q t)
  cases hh : has s q t with
  | true =>
   have HM2 := hid (show M = ((q + t.size : Nat) : Int) by rw [HM.out, if_pos hh])
   have v1 : ((s.extract q (q + t.size)).toList == t.toList) = true := by rw [tl_eqb, ← HE.out]; exact hh
   clear HM HE hh
   go_enter Tryz.func28, Tryz.ntmps28
   go_wp2_with fail
   refine (HB.out w).mono ?_
   rintro e w2 ⟨rfl, rfl⟩
   go_wp2_with fail
   go_ret
   exact ⟨by rw [HM2.out] <;> go_num, rfl⟩
  | false =>
   have HM2 := hid (show M = -1 by rw [HM.out, if_neg (by rw [hh]; decide)])
   have v1 : ((s.extract q (q + t.size)).toList == t.toList) = false := by rw [tl_eqb, ← HE.out]; exact hh
   clear HM HE hh
   go_enter Tryz.func28, Tryz.ntmps28
   go_wp2_with fail
   refine (HB.out w).mono ?_
   rintro e w2 ⟨rfl, rfl⟩
   go_wp2_with fail
   go_ret
   exact ⟨by rw [HM2.out] <;> rfl, rfl⟩
open Go.RowKit
open Tk Ex
theorem any_hit {l : List ByteArray} {s t : ByteArray} (ht : t ∈ l) (h : eqb s t = true) : l.any (eqb s) = true := List.any_eq_true.2 ⟨t, ht, h⟩
theorem r8args_any (s : ByteArray) (w : World) : Calls Tryz.prog 55 #[.string s] w fun e w' => e = .returned (.int .i64 (argsN s : Nat)) ∧ w = w' := by
 have HN := hid (show argsN s = if ones.any (eqb s) = true then 1 else if twos.any (eqb s) = true then 2 else 0 from rfl)
 generalize argsN s = N at *
 go_enter Tryz.func55, Tryz.ntmps55
 go_wp2_with fail
 go_loop [8] (fun i => ∃ k : Nat, k ≤ 7 ∧ i = .int .i64 k ∧ (ones.take k).any (eqb s) = false) (fun i => 7 - (intOf i).toNat)
 case atStart => exact ⟨0, Nat.zero_le _, rfl, rfl⟩
 case round =>
  obtain ⟨k, hk, rfl, hany⟩ := hrel
  have HANY := hid hany
  clear hany
  by_cases hkn : k < 7
  ·
   obtain ⟨t, ht⟩ : ∃ t, ones[k]? = some t := ⟨_, List.getElem?_eq_getElem (show k < ones.length from hkn)⟩
   have ix : ∀ w1 : World, (Instr.index 138 (.agg #[.string (⟨#[108, 101, 110]⟩ : ByteArray), .string (⟨#[115, 117, 109]⟩ : ByteArray), .string (⟨#[109, 105, 110]⟩ : ByteArray), .string (⟨#[109, 97, 120]⟩ : ByteArray), .string (⟨#[97, 108, 108]⟩ : ByteArray), .string (⟨#[97, 110, 121]⟩ : ByteArray), .string (⟨#[107, 101, 121, 115]⟩ : ByteArray)]) (.int .i64 (k : Int))).run Tryz.prog w1 = .ok (.string t) w1 := by
    intro w1
    rcases (by omega : k = 0 ∨ k = 1 ∨ k = 2 ∨ k = 3 ∨ k = 4 ∨ k = 5 ∨ k = 6) with rfl | rfl | rfl | rfl | rfl | rfl | rfl
    all_goals
     have e := Option.some.inj ht
     subst e
     first
      | kernel_rfl
      | rfl
   have HTK := hid (show ones.take (k + 1) = ones.take k ++ [t] by rw [List.take_add_one, ht]; rfl)
   have HM := hid (List.mem_of_getElem? ht)
   have i1 : (k : Int) < 7 := by omega
   have i2 : (0 : Int) ≤ (k : Int) := by omega
   have u1 : decide ((k : Int) < 7) = true := decide_eq_true i1
   clear ht
   by_cases h : eqb s t = true
   ·
    have f2 : (t.toList == s.toList) = true := by rw [BEq.comm, tl_eqb]; exact h
    have HH := hid h
    clear h
    go_wp2_with fail
    go_ret
    have h1 := HN.out.trans (if_pos (any_hit HM.out HH.out))
    exact ⟨by rw [h1] <;> rfl, rfl⟩
   ·
    have h' : eqb s t = false := Bool.eq_false_iff.2 h
    have f2 : (t.toList == s.toList) = false := by rw [BEq.comm, tl_eqb]; exact h'
    have HH := hid h'
    clear h h'
    go_wp2_with fail
    go_round
    case rel =>
     refine ⟨k + 1, by omega, by go_num, ?_⟩
     rw [HTK.out, List.any_append, HANY.out]
     simp only [List.any_cons, List.any_nil, HH.out, Bool.or_false]
    case measure => simp [intOf]; omega
  ·
   obtain rfl : k = 7 := by omega
   have hany1 : ones.any (eqb s) = false := HANY.out
   have HN2 := hid (HN.out.trans (if_neg (by rw [hany1]; decide)))
   clear hany1 HANY hkn
   go_wp2_with fail
   go_loop [16] (fun i => ∃ k : Nat, k ≤ 5 ∧ i = .int .i64 k ∧ (twos.take k).any (eqb s) = false) (fun i => 5 - (intOf i).toNat)
   case atStart => exact ⟨0, Nat.zero_le _, rfl, rfl⟩
   case round =>
    obtain ⟨k, hk, rfl, hany⟩ := hrel
    have HANY := hid hany
    clear hany
    by_cases hkn : k < 5
    ·
     obtain ⟨t, ht⟩ : ∃ t, twos[k]? = some t := ⟨_, List.getElem?_eq_getElem (show k < twos.length from hkn)⟩
     have ix : ∀ w1 : World, (Instr.index 139 (.agg #[.string (⟨#[104, 97, 115]⟩ : ByteArray), .string (⟨#[99, 111, 117, 110, 116]⟩ : ByteArray), .string (⟨#[115, 116, 97, 114, 116, 115]⟩ : ByteArray), .string (⟨#[101, 110, 100, 115]⟩ : ByteArray), .string (⟨#[106, 111, 105, 110]⟩ : ByteArray)]) (.int .i64 (k : Int))).run Tryz.prog w1 = .ok (.string t) w1 := by
      intro w1
      rcases (by omega : k = 0 ∨ k = 1 ∨ k = 2 ∨ k = 3 ∨ k = 4) with rfl | rfl | rfl | rfl | rfl
      all_goals
       have e := Option.some.inj ht
       subst e
       first
        | kernel_rfl
        | rfl
     have HTK := hid (show twos.take (k + 1) = twos.take k ++ [t] by rw [List.take_add_one, ht]; rfl)
     have HM := hid (List.mem_of_getElem? ht)
     have i1 : (k : Int) < 5 := by omega
     have i2 : (0 : Int) ≤ (k : Int) := by omega
     have u1 : decide ((k : Int) < 5) = true := decide_eq_true i1
     clear ht
     by_cases h : eqb s t = true
     ·
      have f2 : (t.toList == s.toList) = true := by rw [BEq.comm, tl_eqb]; exact h
      have HH := hid h
      clear h
      go_wp2_with fail
      go_ret
      have h1 := HN2.out.trans (if_pos (any_hit HM.out HH.out))
      exact ⟨by rw [h1] <;> rfl, rfl⟩
     ·
      have h' : eqb s t = false := Bool.eq_false_iff.2 h
      have f2 : (t.toList == s.toList) = false := by rw [BEq.comm, tl_eqb]; exact h'
      have HH := hid h'
      clear h h'
      go_wp2_with fail
      go_round
      case rel =>
       refine ⟨k + 1, by omega, by go_num, ?_⟩
       rw [HTK.out, List.any_append, HANY.out]
       simp only [List.any_cons, List.any_nil, HH.out, Bool.or_false]
      case measure => simp [intOf]; omega
    ·
     obtain rfl : k = 5 := by omega
     have hany1 : twos.any (eqb s) = false := HANY.out
     have HN3 := hid (HN2.out.trans (if_neg (by rw [hany1]; decide)))
     clear hany1 HANY hkn
     go_wp2_with fail
     go_ret
     exact ⟨by rw [HN3.out] <;> rfl, rfl⟩
theorem r8res_any (s : ByteArray) (w : World) : Calls Tryz.prog 57 #[.string s] w fun e w' => e = .returned (.bool (isWord s || decide (0 < argsN s))) ∧ w = w' := by
 have HW := hid (show isWord s = words.any (eqb s) from rfl)
 have HAR := hid (fun w1 => r8args_any s w1)
 generalize isWord s = Z at *
 generalize argsN s = N at *
 go_enter Tryz.func57, Tryz.ntmps57
 go_wp2_with fail
 go_loop [6] (fun i => ∃ k : Nat, k ≤ 7 ∧ i = .int .i64 k ∧ (words.take k).any (eqb s) = false) (fun i => 7 - (intOf i).toNat)
 case atStart => exact ⟨0, Nat.zero_le _, rfl, rfl⟩
 case round =>
  obtain ⟨k, hk, rfl, hany⟩ := hrel
  have HANY := hid hany
  clear hany
  by_cases hkn : k < 7
  ·
   obtain ⟨t, ht⟩ : ∃ t, words[k]? = some t := ⟨_, List.getElem?_eq_getElem (show k < words.length from hkn)⟩
   have ix : ∀ w1 : World, (Instr.index 138 (.agg #[.string (⟨#[111, 114]⟩ : ByteArray), .string (⟨#[97, 110, 100]⟩ : ByteArray), .string (⟨#[110, 111, 116]⟩ : ByteArray), .string (⟨#[116, 114, 117, 101]⟩ : ByteArray), .string (⟨#[102, 97, 108, 115, 101]⟩ : ByteArray), .string (⟨#[110, 117, 108, 108]⟩ : ByteArray), .string (⟨#[116, 104, 105, 115]⟩ : ByteArray)]) (.int .i64 (k : Int))).run Tryz.prog w1 = .ok (.string t) w1 := by
    intro w1
    rcases (by omega : k = 0 ∨ k = 1 ∨ k = 2 ∨ k = 3 ∨ k = 4 ∨ k = 5 ∨ k = 6) with rfl | rfl | rfl | rfl | rfl | rfl | rfl
    all_goals
     have e := Option.some.inj ht
     subst e
     first
      | kernel_rfl
      | rfl
   have HTK := hid (show words.take (k + 1) = words.take k ++ [t] by rw [List.take_add_one, ht]; rfl)
   have HM := hid (List.mem_of_getElem? ht)
   have i1 : (k : Int) < 7 := by omega
   have i2 : (0 : Int) ≤ (k : Int) := by omega
   have u1 : decide ((k : Int) < 7) = true := decide_eq_true i1
   clear ht
   by_cases h : eqb s t = true
   ·
    have f2 : (t.toList == s.toList) = true := by rw [BEq.comm, tl_eqb]; exact h
    have HH := hid h
    clear h
    go_wp2_with fail
    go_ret
    have h1 := HW.out.trans (any_hit HM.out HH.out)
    exact ⟨by rw [h1] <;> rfl, rfl⟩
   ·
    have h' : eqb s t = false := Bool.eq_false_iff.2 h
    have f2 : (t.toList == s.toList) = false := by rw [BEq.comm, tl_eqb]; exact h'
    have HH := hid h'
    clear h h'
    go_wp2_with fail
    go_round
    case rel =>
     refine ⟨k + 1, by omega, by go_num, ?_⟩
     rw [HTK.out, List.any_append, HANY.out]
     simp only [List.any_cons, List.any_nil, HH.out, Bool.or_false]
    case measure => simp [intOf]; omega
  ·
   obtain rfl : k = 7 := by omega
   clear hkn
   have hany1 : words.any (eqb s) = false := HANY.out
   have HW2 := hid (HW.out.trans hany1)
   clear hany1 HANY
   go_wp2_with fail
   refine (HAR.out w).mono ?_
   rintro e w2 ⟨rfl, rfl⟩
   by_cases hN : 0 < N
   ·
    have x1 : decide ((N : Int) > 0) = true := decide_eq_true (by omega)
    have x2 : decide ((0 : Int) < (N : Int)) = true := decide_eq_true (by omega)
    have x3 : decide (0 < N) = true := decide_eq_true hN
    clear hN
    go_wp2_with fail
    go_ret
    exact ⟨by rw [HW2.out, x3] <;> rfl, rfl⟩
   ·
    have x1 : decide ((N : Int) > 0) = false := decide_eq_false (by omega)
    have x2 : decide ((0 : Int) < (N : Int)) = false := decide_eq_false (by omega)
    have x3 : decide (0 < N) = false := decide_eq_false hN
    clear hN
    go_wp2_with fail
    go_ret
    exact ⟨by rw [HW2.out, x3] <;> rfl, rfl⟩
end Go.Proofs.YtfbipnflgjhaiaaGreatDoor
