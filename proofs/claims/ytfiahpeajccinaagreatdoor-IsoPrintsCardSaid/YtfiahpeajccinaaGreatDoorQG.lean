/- The reference's isos: one, where a number stands. -/
import Derived.Test.YtfiahpeajccinaaGreatDoorQF
namespace Go.Proofs.YtfiahpeajccinaaGreatDoor
open Go.RowKit
open Tk Ex
set_option linter.unusedVariables false
set_option linter.unusedSimpArgs false

set_option maxRecDepth 100000 in
set_option maxHeartbeats 8000000 in
theorem rone_n1a (s : ByteArray) (i : Nat) (w : World) (hs : s.size ≤ 2000) (hi : i ≤ s.size) (hq : isLt (bt s (bl s i)) = true) (hu : Iz.use (wd s i) = 2 ∨ Iz.use (wd s i) = 3) (hd : isDg (bt s (signE s (bl s (wE s (bl s i))))) = false) (hsg : (signE s (bl s (wE s (bl s i)))) = (bl s (wE s (bl s i))) ∧ bt s (bl s (wE s (bl s i))) ≠ 45) : Calls Tryz.prog 26 #[.string s, .int .i64 i] w (OneR (Iz.oneI s i) w) := by
  have ha0 := bl_le hi
  have hz := Iz.wE_le ha0
  have ha := bl_le hz
  have HB1 := Lib.hid (fun w1 => rblanks_any s i w1 (by omega) (by omega))
  have HB2 := Lib.hid (fun w1 => rblanks_any s (wE s (bl s i)) w1 (by omega) (by omega))
  have HW := Lib.hid (fun w1 => r8word_any s i w1 (by omega) hi)
  rw [show wordT s i = wd s i from by unfold wordT; rw [if_pos hq], show wordP s i = wE s (bl s i) from by unfold wordP; rw [if_pos hq]] at HW
  have HRU := Lib.hid (fun w1 => ruses_any (wd s i) w1)
  have hnt := use_times (wd s i)
  unfold Iz.timesW at hnt
  obtain ⟨hn1, hn2⟩ := wd_ne hq hi
  rw [show span isBl s i = bl s i from rfl] at HB1
  rw [show span isBl s (wE s (bl s i)) = bl s (wE s (bl s i)) from rfl] at HB2
  have HO1 := oneI_5 hq (show Iz.use (wd s i) = 2 ∨ Iz.use (wd s i) = 3 from hu)
  have hus : usesI (Iz.use (wd s i)) = 1 := by rcases hu with h | h <;> rw [h] <;> rfl
  rw [hus] at HRU
  have HEN := Lib.hid (fun w1 => rend_any s (bl s (wE s (bl s i))) w1 (by omega) ha)
  have hf := signE_le ha
  have hE := span_le isDg hf
  have hn1 := numI_1 (w := wd s i) (u := Iz.use (wd s i)) hd
  have HO := Lib.hid (HO1.trans hn1.2)
  have hEf := hn1.1
  have hfb := form_bad1 hd
  rw [hEf] at HEN hE
  have HPA := Lib.hid (fun w1 => W2.rparse_bad (s.extract (bl s (wE s (bl s i))) (signE s (bl s (wE s (bl s i))))) w1 (by rw [ByteArray.size_extract]; omega) hfb)
  clear HO1 hd hn1 hEf hfb
  have HFA := Lib.hid hsg.1
  clear hsg
  generalize (signE s (bl s (wE s (bl s i)))) = E at *
  generalize Iz.oneI s i = res at *
  clear hq
  generalize wd s i = nm at *
  generalize bl s (wE s (bl s i)) = a at *
  generalize wE s (bl s i) = z at *
  generalize bl s i = a0 at *
  go_enter Tryz.func26, Tryz.ntmps26
  go_upto_region 1 with fail
  refine alloc_gz (fun W1 hW hR => ?_)
  have HW1 := Lib.hid hW
  have HR := Lib.hid hR
  clear hW hR
  go_wp2_with fail
  refine (HB1.out _).mono ?_
  rintro e w2 ⟨rfl, rfl⟩
  go_wp2_with fail
  refine (HW.out _).mono ?_
  rintro e w2 ⟨rfl, rfl⟩
  go_upto_region 6 with fail
  refine alloc_gz (fun W2 hW hX => ?_)
  have HW2 := Lib.hid (HW1.out.trans (hW.mono HW1.out.size))
  have hlX0 := HR.out.lt
  have HR := Lib.hid (HR.out.onto hW)
  obtain ⟨X, hXe⟩ : ∃ X, W1.heap.size = X := ⟨_, rfl⟩
  have hlX : w.heap.size < X := by rw [← hXe]; exact hlX0
  rw [hXe] at hX ⊢
  clear hlX0
  have HX := Lib.hid hX
  clear hW hX hXe
  go_wp2_with fail
  refine (HRU.out _).mono ?_
  rintro e w3 ⟨rfl, rfl⟩
  go_wp2_with fail
  refine (HB2.out _).mono ?_
  rintro e w3 ⟨rfl, rfl⟩
  go_wp2_with fail
  refine (HEN.out _).mono ?_
  rintro e w3 ⟨rfl, rfl⟩
  have j1 : (0 : Int) ≤ (a : Int) := by omega
  have j2 : (a : Int) ≤ (E : Int) := by have := HFA.out; omega
  have j3 : (E : Int) ≤ (s.size : Int) := by omega
  have u1 : decide ((E : Int) > (a : Int)) = false := decide_eq_false (by have := HFA.out; omega)
  have u2 : decide ((a : Int) < (E : Int)) = false := u1
  have j5 : (E : Int) ≤ (a : Int) := by have := HFA.out; omega
  go_wp2_with fail
  refine (HPA.out _).mono ?_
  rintro e w4 ⟨rfl, hb⟩
  have HW4 := Lib.hid (HW2.out.trans (hb.mono HW2.out.size))
  have HR := Lib.hid (HR.out.onto hb)
  have HX := Lib.hid (HX.out.onto hb)
  clear hb
  go_upto_region 13 with fail
  refine alloc_gz (fun W5 hW hT => ?_)
  have HW5 := Lib.hid (HW4.out.trans (hW.mono HW4.out.size))
  have HR := Lib.hid (HR.out.onto hW)
  have HX := Lib.hid (HX.out.onto hW)
  clear hW hT
  have r0 := HR.out.cell 0
  have r1 := HR.out.cell 1
  have r2 := HR.out.cell 2
  have q0 := HR.out.free 0
  have q1 := HR.out.free 1
  have q2 := HR.out.free 2
  go_wp2_with fail
  refine bodyPost_ret (v := .agg #[.slice none 0 0, .int .i64 (E : Nat), .int .i64 1]) (by simp [results, Tryz.results26, go_sem, r0, r1, r2]) rfl ?_
  rw [HO.out]
  exact ⟨below_put3 HW5.out (Nat.le_refl _) _ _ _, rfl⟩
set_option maxRecDepth 100000 in
set_option maxHeartbeats 8000000 in
theorem rone_n1b (s : ByteArray) (i : Nat) (w : World) (hs : s.size ≤ 2000) (hi : i ≤ s.size) (hq : isLt (bt s (bl s i)) = true) (hu : Iz.use (wd s i) = 2 ∨ Iz.use (wd s i) = 3) (hd : isDg (bt s (signE s (bl s (wE s (bl s i))))) = false) (hsg : (signE s (bl s (wE s (bl s i)))) = (bl s (wE s (bl s i))) + 1 ∧ bt s (bl s (wE s (bl s i))) = 45) : Calls Tryz.prog 26 #[.string s, .int .i64 i] w (OneR (Iz.oneI s i) w) := by
  have ha0 := bl_le hi
  have hz := Iz.wE_le ha0
  have ha := bl_le hz
  have HB1 := Lib.hid (fun w1 => rblanks_any s i w1 (by omega) (by omega))
  have HB2 := Lib.hid (fun w1 => rblanks_any s (wE s (bl s i)) w1 (by omega) (by omega))
  have HW := Lib.hid (fun w1 => r8word_any s i w1 (by omega) hi)
  rw [show wordT s i = wd s i from by unfold wordT; rw [if_pos hq], show wordP s i = wE s (bl s i) from by unfold wordP; rw [if_pos hq]] at HW
  have HRU := Lib.hid (fun w1 => ruses_any (wd s i) w1)
  have hnt := use_times (wd s i)
  unfold Iz.timesW at hnt
  obtain ⟨hn1, hn2⟩ := wd_ne hq hi
  rw [show span isBl s i = bl s i from rfl] at HB1
  rw [show span isBl s (wE s (bl s i)) = bl s (wE s (bl s i)) from rfl] at HB2
  have HO1 := oneI_5 hq (show Iz.use (wd s i) = 2 ∨ Iz.use (wd s i) = 3 from hu)
  have hus : usesI (Iz.use (wd s i)) = 1 := by rcases hu with h | h <;> rw [h] <;> rfl
  rw [hus] at HRU
  have HEN := Lib.hid (fun w1 => rend_any s (bl s (wE s (bl s i))) w1 (by omega) ha)
  have hf := signE_le ha
  have hE := span_le isDg hf
  have hn1 := numI_1 (w := wd s i) (u := Iz.use (wd s i)) hd
  have HO := Lib.hid (HO1.trans hn1.2)
  have hEf := hn1.1
  have hfb := form_bad1 hd
  rw [hEf] at HEN hE
  have HPA := Lib.hid (fun w1 => W2.rparse_bad (s.extract (bl s (wE s (bl s i))) (signE s (bl s (wE s (bl s i))))) w1 (by rw [ByteArray.size_extract]; omega) hfb)
  clear HO1 hd hn1 hEf hfb
  have h45 : ∃ h : (bl s (wE s (bl s i))) < s.size, (s[(bl s (wE s (bl s i)))]'h).toNat = 45 := by
    have h : (bl s (wE s (bl s i))) < s.size := lt_of_bt (by rw [hsg.2]; decide)
    exact ⟨h, by rw [bt_at s _ h]; exact hsg.2⟩
  rw [hsg.1] at HEN HPA HO hE hf
  clear hsg
  generalize Iz.oneI s i = res at *
  clear hq
  generalize wd s i = nm at *
  generalize bl s (wE s (bl s i)) = a at *
  generalize wE s (bl s i) = z at *
  generalize bl s i = a0 at *
  go_enter Tryz.func26, Tryz.ntmps26
  go_upto_region 1 with fail
  refine alloc_gz (fun W1 hW hR => ?_)
  have HW1 := Lib.hid hW
  have HR := Lib.hid hR
  clear hW hR
  go_wp2_with fail
  refine (HB1.out _).mono ?_
  rintro e w2 ⟨rfl, rfl⟩
  go_wp2_with fail
  refine (HW.out _).mono ?_
  rintro e w2 ⟨rfl, rfl⟩
  go_upto_region 6 with fail
  refine alloc_gz (fun W2 hW hX => ?_)
  have HW2 := Lib.hid (HW1.out.trans (hW.mono HW1.out.size))
  have hlX0 := HR.out.lt
  have HR := Lib.hid (HR.out.onto hW)
  obtain ⟨X, hXe⟩ : ∃ X, W1.heap.size = X := ⟨_, rfl⟩
  have hlX : w.heap.size < X := by rw [← hXe]; exact hlX0
  rw [hXe] at hX ⊢
  clear hlX0
  have HX := Lib.hid hX
  clear hW hX hXe
  go_wp2_with fail
  refine (HRU.out _).mono ?_
  rintro e w3 ⟨rfl, rfl⟩
  go_wp2_with fail
  refine (HB2.out _).mono ?_
  rintro e w3 ⟨rfl, rfl⟩
  go_wp2_with fail
  refine (HEN.out _).mono ?_
  rintro e w3 ⟨rfl, rfl⟩
  obtain ⟨h, h2⟩ := h45
  have e1 : (((s[a]'h).toNat : Int) != 45) = false := by rw [h2]; rfl
  have e2 : (((s[a]'h).toNat : Int) == 45) = true := by rw [h2]; rfl
  have i1 : (0 : Int) ≤ (a : Int) := by omega
  have i2 : (a : Int) < (s.size : Int) := by omega
  clear h2
  have c1 : ((a + 1 : Nat) : Int) = (a : Int) + 1 := by omega
  have j3 : (a : Int) + 1 ≤ (s.size : Int) := by omega
  have u1 : decide ((a : Int) + 1 > (a : Int)) = true := decide_eq_true (by omega)
  have u3 : decide ((a : Int) + 1 ≤ (s.size : Int)) = true := decide_eq_true (by omega)
  have u4 : decide ((a : Int) + 1 > (a : Int) + 1) = false := decide_eq_false (by omega)
  rw [c1]
  go_wp2_with fail
  refine (HPA.out _).mono ?_
  rintro e w4 ⟨rfl, hb⟩
  have HW4 := Lib.hid (HW2.out.trans (hb.mono HW2.out.size))
  have HR := Lib.hid (HR.out.onto hb)
  have HX := Lib.hid (HX.out.onto hb)
  clear hb
  go_upto_region 13 with fail
  refine alloc_gz (fun W5 hW hT => ?_)
  have HW5 := Lib.hid (HW4.out.trans (hW.mono HW4.out.size))
  have HR := Lib.hid (HR.out.onto hW)
  have HX := Lib.hid (HX.out.onto hW)
  clear hW hT
  have r0 := HR.out.cell 0
  have r1 := HR.out.cell 1
  have r2 := HR.out.cell 2
  have q0 := HR.out.free 0
  have q1 := HR.out.free 1
  have q2 := HR.out.free 2
  go_wp2_with fail
  refine bodyPost_ret (v := .agg #[.slice none 0 0, .int .i64 ((a : Int) + 1), .int .i64 1]) (by simp [results, Tryz.results26, go_sem, r0, r1, r2]) rfl ?_
  rw [HO.out]
  exact ⟨below_put3 HW5.out (Nat.le_refl _) _ _ _, rfl⟩
set_option maxRecDepth 100000 in
set_option maxHeartbeats 8000000 in
theorem rone_n2a (s : ByteArray) (i : Nat) (w : World) (hs : s.size ≤ 2000) (hi : i ≤ s.size) (hq : isLt (bt s (bl s i)) = true) (hu : Iz.use (wd s i) = 2 ∨ Iz.use (wd s i) = 3) (hd : isDg (bt s (signE s (bl s (wE s (bl s i))))) = true) (h48 : bt s (signE s (bl s (wE s (bl s i)))) = 48) (hlt : (signE s (bl s (wE s (bl s i)))) + 1 < span isDg s (signE s (bl s (wE s (bl s i))))) (hsg : (signE s (bl s (wE s (bl s i)))) = (bl s (wE s (bl s i))) ∧ bt s (bl s (wE s (bl s i))) ≠ 45) : Calls Tryz.prog 26 #[.string s, .int .i64 i] w (OneR (Iz.oneI s i) w) := by
  have ha0 := bl_le hi
  have hz := Iz.wE_le ha0
  have ha := bl_le hz
  have HB1 := Lib.hid (fun w1 => rblanks_any s i w1 (by omega) (by omega))
  have HB2 := Lib.hid (fun w1 => rblanks_any s (wE s (bl s i)) w1 (by omega) (by omega))
  have HW := Lib.hid (fun w1 => r8word_any s i w1 (by omega) hi)
  rw [show wordT s i = wd s i from by unfold wordT; rw [if_pos hq], show wordP s i = wE s (bl s i) from by unfold wordP; rw [if_pos hq]] at HW
  have HRU := Lib.hid (fun w1 => ruses_any (wd s i) w1)
  have hnt := use_times (wd s i)
  unfold Iz.timesW at hnt
  obtain ⟨hn1, hn2⟩ := wd_ne hq hi
  rw [show span isBl s i = bl s i from rfl] at HB1
  rw [show span isBl s (wE s (bl s i)) = bl s (wE s (bl s i)) from rfl] at HB2
  have HO1 := oneI_5 hq (show Iz.use (wd s i) = 2 ∨ Iz.use (wd s i) = 3 from hu)
  have hus : usesI (Iz.use (wd s i)) = 1 := by rcases hu with h | h <;> rw [h] <;> rfl
  rw [hus] at HRU
  have HEN := Lib.hid (fun w1 => rend_any s (bl s (wE s (bl s i))) w1 (by omega) ha)
  have hf := signE_le ha
  have hE := span_le isDg hf
  have HO := Lib.hid (HO1.trans (numI_2 (w := wd s i) (u := Iz.use (wd s i)) hd h48 hlt))
  have hfb := form_bad2 hd h48 hlt
  have HLT0 : (signE s (bl s (wE s (bl s i)))) < s.size := lt_of_bt (by rw [h48]; decide)
  have HPA := Lib.hid (fun w1 => W2.rparse_bad (s.extract (bl s (wE s (bl s i))) (span isDg s (signE s (bl s (wE s (bl s i)))))) w1 (by rw [ByteArray.size_extract]; omega) hfb)
  clear HO1 hd h48 hfb
  rw [hsg.1] at HEN HPA HO hE hf HLT0 hlt
  have HLT := HLT0
  have h45 : ∃ h : (bl s (wE s (bl s i))) < s.size, ¬ (s[(bl s (wE s (bl s i)))]'h).toNat = 45 := by
    have h : (bl s (wE s (bl s i))) < s.size := HLT
    exact ⟨h, by rw [bt_at s _ h]; exact hsg.2⟩
  clear hsg HLT0
  generalize span isDg s (bl s (wE s (bl s i))) = E at *
  generalize Iz.oneI s i = res at *
  clear hq
  generalize wd s i = nm at *
  generalize bl s (wE s (bl s i)) = a at *
  generalize wE s (bl s i) = z at *
  generalize bl s i = a0 at *
  go_enter Tryz.func26, Tryz.ntmps26
  go_upto_region 1 with fail
  refine alloc_gz (fun W1 hW hR => ?_)
  have HW1 := Lib.hid hW
  have HR := Lib.hid hR
  clear hW hR
  go_wp2_with fail
  refine (HB1.out _).mono ?_
  rintro e w2 ⟨rfl, rfl⟩
  go_wp2_with fail
  refine (HW.out _).mono ?_
  rintro e w2 ⟨rfl, rfl⟩
  go_upto_region 6 with fail
  refine alloc_gz (fun W2 hW hX => ?_)
  have HW2 := Lib.hid (HW1.out.trans (hW.mono HW1.out.size))
  have hlX0 := HR.out.lt
  have HR := Lib.hid (HR.out.onto hW)
  obtain ⟨X, hXe⟩ : ∃ X, W1.heap.size = X := ⟨_, rfl⟩
  have hlX : w.heap.size < X := by rw [← hXe]; exact hlX0
  rw [hXe] at hX ⊢
  clear hlX0
  have HX := Lib.hid hX
  clear hW hX hXe
  go_wp2_with fail
  refine (HRU.out _).mono ?_
  rintro e w3 ⟨rfl, rfl⟩
  go_wp2_with fail
  refine (HB2.out _).mono ?_
  rintro e w3 ⟨rfl, rfl⟩
  go_wp2_with fail
  refine (HEN.out _).mono ?_
  rintro e w3 ⟨rfl, rfl⟩
  obtain ⟨h, h2⟩ := h45
  have e1 : (((s[a]'h).toNat : Int) != 45) = true := by rw [bne_iff_ne]; omega
  have e2 : (((s[a]'h).toNat : Int) == 45) = false := beq_eq_false_iff_ne.2 (by omega)
  have i1 : (0 : Int) ≤ (a : Int) := by omega
  have i2 : (a : Int) < (s.size : Int) := by omega
  clear h2
  have j1 : (0 : Int) ≤ (a : Int) := by omega
  have j2 : (a : Int) ≤ (E : Int) := by omega
  have j3 : (E : Int) ≤ (s.size : Int) := by omega
  have j4 : (E : Int) ≤ 2000 := by omega
  have u1 : decide ((E : Int) > (a : Int)) = true := decide_eq_true (by omega)
  have u3 : decide ((E : Int) ≤ (s.size : Int)) = true := decide_eq_true (by omega)
  go_wp2_with fail
  refine (HPA.out _).mono ?_
  rintro e w4 ⟨rfl, hb⟩
  have HW4 := Lib.hid (HW2.out.trans (hb.mono HW2.out.size))
  have HR := Lib.hid (HR.out.onto hb)
  have HX := Lib.hid (HX.out.onto hb)
  clear hb
  go_upto_region 13 with fail
  refine alloc_gz (fun W5 hW hT => ?_)
  have HW5 := Lib.hid (HW4.out.trans (hW.mono HW4.out.size))
  have HR := Lib.hid (HR.out.onto hW)
  have HX := Lib.hid (HX.out.onto hW)
  clear hW hT
  have r0 := HR.out.cell 0
  have r1 := HR.out.cell 1
  have r2 := HR.out.cell 2
  have q0 := HR.out.free 0
  have q1 := HR.out.free 1
  have q2 := HR.out.free 2
  go_wp2_with fail
  refine bodyPost_ret (v := .agg #[.slice none 0 0, .int .i64 ((a : Int) + 1), .int .i64 1]) (by simp [results, Tryz.results26, go_sem, r0, r1, r2]) rfl ?_
  rw [HO.out]
  exact ⟨below_put3 HW5.out (Nat.le_refl _) _ _ _, rfl⟩
set_option maxRecDepth 100000 in
set_option maxHeartbeats 8000000 in
theorem rone_n2b (s : ByteArray) (i : Nat) (w : World) (hs : s.size ≤ 2000) (hi : i ≤ s.size) (hq : isLt (bt s (bl s i)) = true) (hu : Iz.use (wd s i) = 2 ∨ Iz.use (wd s i) = 3) (hd : isDg (bt s (signE s (bl s (wE s (bl s i))))) = true) (h48 : bt s (signE s (bl s (wE s (bl s i)))) = 48) (hlt : (signE s (bl s (wE s (bl s i)))) + 1 < span isDg s (signE s (bl s (wE s (bl s i))))) (hsg : (signE s (bl s (wE s (bl s i)))) = (bl s (wE s (bl s i))) + 1 ∧ bt s (bl s (wE s (bl s i))) = 45) : Calls Tryz.prog 26 #[.string s, .int .i64 i] w (OneR (Iz.oneI s i) w) := by
  have ha0 := bl_le hi
  have hz := Iz.wE_le ha0
  have ha := bl_le hz
  have HB1 := Lib.hid (fun w1 => rblanks_any s i w1 (by omega) (by omega))
  have HB2 := Lib.hid (fun w1 => rblanks_any s (wE s (bl s i)) w1 (by omega) (by omega))
  have HW := Lib.hid (fun w1 => r8word_any s i w1 (by omega) hi)
  rw [show wordT s i = wd s i from by unfold wordT; rw [if_pos hq], show wordP s i = wE s (bl s i) from by unfold wordP; rw [if_pos hq]] at HW
  have HRU := Lib.hid (fun w1 => ruses_any (wd s i) w1)
  have hnt := use_times (wd s i)
  unfold Iz.timesW at hnt
  obtain ⟨hn1, hn2⟩ := wd_ne hq hi
  rw [show span isBl s i = bl s i from rfl] at HB1
  rw [show span isBl s (wE s (bl s i)) = bl s (wE s (bl s i)) from rfl] at HB2
  have HO1 := oneI_5 hq (show Iz.use (wd s i) = 2 ∨ Iz.use (wd s i) = 3 from hu)
  have hus : usesI (Iz.use (wd s i)) = 1 := by rcases hu with h | h <;> rw [h] <;> rfl
  rw [hus] at HRU
  have HEN := Lib.hid (fun w1 => rend_any s (bl s (wE s (bl s i))) w1 (by omega) ha)
  have hf := signE_le ha
  have hE := span_le isDg hf
  have HO := Lib.hid (HO1.trans (numI_2 (w := wd s i) (u := Iz.use (wd s i)) hd h48 hlt))
  have hfb := form_bad2 hd h48 hlt
  have HLT0 : (signE s (bl s (wE s (bl s i)))) < s.size := lt_of_bt (by rw [h48]; decide)
  have HPA := Lib.hid (fun w1 => W2.rparse_bad (s.extract (bl s (wE s (bl s i))) (span isDg s (signE s (bl s (wE s (bl s i)))))) w1 (by rw [ByteArray.size_extract]; omega) hfb)
  clear HO1 hd h48 hfb
  have h45 : ∃ h : (bl s (wE s (bl s i))) < s.size, (s[(bl s (wE s (bl s i)))]'h).toNat = 45 := by
    have h : (bl s (wE s (bl s i))) < s.size := lt_of_bt (by rw [hsg.2]; decide)
    exact ⟨h, by rw [bt_at s _ h]; exact hsg.2⟩
  rw [hsg.1] at HEN HPA HO hE hf HLT0 hlt
  clear hsg HLT0
  generalize span isDg s ((bl s (wE s (bl s i))) + 1) = E at *
  generalize Iz.oneI s i = res at *
  clear hq
  generalize wd s i = nm at *
  generalize bl s (wE s (bl s i)) = a at *
  generalize wE s (bl s i) = z at *
  generalize bl s i = a0 at *
  go_enter Tryz.func26, Tryz.ntmps26
  go_upto_region 1 with fail
  refine alloc_gz (fun W1 hW hR => ?_)
  have HW1 := Lib.hid hW
  have HR := Lib.hid hR
  clear hW hR
  go_wp2_with fail
  refine (HB1.out _).mono ?_
  rintro e w2 ⟨rfl, rfl⟩
  go_wp2_with fail
  refine (HW.out _).mono ?_
  rintro e w2 ⟨rfl, rfl⟩
  go_upto_region 6 with fail
  refine alloc_gz (fun W2 hW hX => ?_)
  have HW2 := Lib.hid (HW1.out.trans (hW.mono HW1.out.size))
  have hlX0 := HR.out.lt
  have HR := Lib.hid (HR.out.onto hW)
  obtain ⟨X, hXe⟩ : ∃ X, W1.heap.size = X := ⟨_, rfl⟩
  have hlX : w.heap.size < X := by rw [← hXe]; exact hlX0
  rw [hXe] at hX ⊢
  clear hlX0
  have HX := Lib.hid hX
  clear hW hX hXe
  go_wp2_with fail
  refine (HRU.out _).mono ?_
  rintro e w3 ⟨rfl, rfl⟩
  go_wp2_with fail
  refine (HB2.out _).mono ?_
  rintro e w3 ⟨rfl, rfl⟩
  go_wp2_with fail
  refine (HEN.out _).mono ?_
  rintro e w3 ⟨rfl, rfl⟩
  obtain ⟨h, h2⟩ := h45
  have e1 : (((s[a]'h).toNat : Int) != 45) = false := by rw [h2]; rfl
  have e2 : (((s[a]'h).toNat : Int) == 45) = true := by rw [h2]; rfl
  have i1 : (0 : Int) ≤ (a : Int) := by omega
  have i2 : (a : Int) < (s.size : Int) := by omega
  clear h2
  have j1 : (0 : Int) ≤ (a : Int) := by omega
  have j2 : (a : Int) ≤ (E : Int) := by omega
  have j3 : (E : Int) ≤ (s.size : Int) := by omega
  have j4 : (E : Int) ≤ 2000 := by omega
  have u1 : decide ((E : Int) > (a : Int)) = true := decide_eq_true (by omega)
  have u3 : decide ((E : Int) ≤ (s.size : Int)) = true := decide_eq_true (by omega)
  have u4 : decide ((E : Int) > (a : Int) + 1) = true := decide_eq_true (by omega)
  go_wp2_with fail
  refine (HPA.out _).mono ?_
  rintro e w4 ⟨rfl, hb⟩
  have HW4 := Lib.hid (HW2.out.trans (hb.mono HW2.out.size))
  have HR := Lib.hid (HR.out.onto hb)
  have HX := Lib.hid (HX.out.onto hb)
  clear hb
  go_upto_region 13 with fail
  refine alloc_gz (fun W5 hW hT => ?_)
  have HW5 := Lib.hid (HW4.out.trans (hW.mono HW4.out.size))
  have HR := Lib.hid (HR.out.onto hW)
  have HX := Lib.hid (HX.out.onto hW)
  clear hW hT
  have r0 := HR.out.cell 0
  have r1 := HR.out.cell 1
  have r2 := HR.out.cell 2
  have q0 := HR.out.free 0
  have q1 := HR.out.free 1
  have q2 := HR.out.free 2
  go_wp2_with fail
  refine bodyPost_ret (v := .agg #[.slice none 0 0, .int .i64 ((a : Int) + 1 + 1), .int .i64 1]) (by simp [results, Tryz.results26, go_sem, r0, r1, r2]) rfl ?_
  rw [HO.out]
  exact ⟨below_put3 HW5.out (Nat.le_refl _) _ _ _, rfl⟩
set_option maxRecDepth 100000 in
set_option maxHeartbeats 8000000 in
theorem rone_n3 (s : ByteArray) (i : Nat) (w : World) (hs : s.size ≤ 2000) (hi : i ≤ s.size) (hq : isLt (bt s (bl s i)) = true) (hu : Iz.use (wd s i) = 2 ∨ Iz.use (wd s i) = 3) (hd : isDg (bt s (signE s (bl s (wE s (bl s i))))) = true) (hno : ¬ (bt s (signE s (bl s (wE s (bl s i)))) = 48 ∧ (signE s (bl s (wE s (bl s i)))) + 1 < span isDg s (signE s (bl s (wE s (bl s i)))))) (h64 : ¬ Tk.In64 (De.numL (sub s (bl s (wE s (bl s i))) (intE s (bl s (wE s (bl s i))))).data.toList)) : Calls Tryz.prog 26 #[.string s, .int .i64 i] w (OneR (Iz.oneI s i) w) := by
  have ha0 := bl_le hi
  have hz := Iz.wE_le ha0
  have ha := bl_le hz
  have HB1 := Lib.hid (fun w1 => rblanks_any s i w1 (by omega) (by omega))
  have HB2 := Lib.hid (fun w1 => rblanks_any s (wE s (bl s i)) w1 (by omega) (by omega))
  have HW := Lib.hid (fun w1 => r8word_any s i w1 (by omega) hi)
  rw [show wordT s i = wd s i from by unfold wordT; rw [if_pos hq], show wordP s i = wE s (bl s i) from by unfold wordP; rw [if_pos hq]] at HW
  have HRU := Lib.hid (fun w1 => ruses_any (wd s i) w1)
  have hnt := use_times (wd s i)
  unfold Iz.timesW at hnt
  obtain ⟨hn1, hn2⟩ := wd_ne hq hi
  rw [show span isBl s i = bl s i from rfl] at HB1
  rw [show span isBl s (wE s (bl s i)) = bl s (wE s (bl s i)) from rfl] at HB2
  have HO1 := oneI_5 hq (show Iz.use (wd s i) = 2 ∨ Iz.use (wd s i) = 3 from hu)
  have hus : usesI (Iz.use (wd s i)) = 1 := by rcases hu with h | h <;> rw [h] <;> rfl
  rw [hus] at HRU
  have HEN := Lib.hid (fun w1 => rend_any s (bl s (wE s (bl s i))) w1 (by omega) ha)
  have hf := signE_le ha
  have hE := span_le isDg hf
  have he := numI_e hd hno
  rw [he.1] at HEN hE
  have hsz : (s.extract (bl s (wE s (bl s i))) (intE s (bl s (wE s (bl s i))))).size ≤ 2600 := by rw [ByteArray.size_extract]; omega
  have HO := Lib.hid (HO1.trans (numI_3 (w := wd s i) (u := Iz.use (wd s i)) hd hno h64))
  have HPA := Lib.hid (fun w1 => W2.rparse_far (s.extract (bl s (wE s (bl s i))) (intE s (bl s (wE s (bl s i))))) w1 hsz he.2.1 (fun k => h64 ⟨k.1, k.2⟩))
  have haE := he.2.2.2
  clear HO1 hd hno h64 he hsz
  generalize intE s (bl s (wE s (bl s i))) = E at *
  generalize Iz.oneI s i = res at *
  clear hq
  generalize wd s i = nm at *
  generalize bl s (wE s (bl s i)) = a at *
  generalize wE s (bl s i) = z at *
  generalize bl s i = a0 at *
  go_enter Tryz.func26, Tryz.ntmps26
  go_upto_region 1 with fail
  refine alloc_gz (fun W1 hW hR => ?_)
  have HW1 := Lib.hid hW
  have HR := Lib.hid hR
  clear hW hR
  go_wp2_with fail
  refine (HB1.out _).mono ?_
  rintro e w2 ⟨rfl, rfl⟩
  go_wp2_with fail
  refine (HW.out _).mono ?_
  rintro e w2 ⟨rfl, rfl⟩
  go_upto_region 6 with fail
  refine alloc_gz (fun W2 hW hX => ?_)
  have HW2 := Lib.hid (HW1.out.trans (hW.mono HW1.out.size))
  have hlX0 := HR.out.lt
  have HR := Lib.hid (HR.out.onto hW)
  obtain ⟨X, hXe⟩ : ∃ X, W1.heap.size = X := ⟨_, rfl⟩
  have hlX : w.heap.size < X := by rw [← hXe]; exact hlX0
  rw [hXe] at hX ⊢
  clear hlX0
  have HX := Lib.hid hX
  clear hW hX hXe
  go_wp2_with fail
  refine (HRU.out _).mono ?_
  rintro e w3 ⟨rfl, rfl⟩
  go_wp2_with fail
  refine (HB2.out _).mono ?_
  rintro e w3 ⟨rfl, rfl⟩
  go_wp2_with fail
  refine (HEN.out _).mono ?_
  rintro e w3 ⟨rfl, rfl⟩
  have j1 : (0 : Int) ≤ (a : Int) := by omega
  have j2 : (a : Int) ≤ (E : Int) := by omega
  have j3 : (E : Int) ≤ (s.size : Int) := by omega
  have j4 : (E : Int) ≤ 2000 := by omega
  have u1 : decide ((E : Int) > (a : Int)) = true := decide_eq_true (by omega)
  have u3 : decide ((E : Int) ≤ (s.size : Int)) = true := decide_eq_true (by omega)
  go_wp2_with fail
  refine (HPA.out _).mono ?_
  rintro e w4 ⟨rfl, hb⟩
  have HW4 := Lib.hid (HW2.out.trans (hb.mono HW2.out.size))
  have HR := Lib.hid (HR.out.onto hb)
  have HX := Lib.hid (HX.out.onto hb)
  clear hb
  go_upto_region 13 with fail
  refine alloc_gz (fun W5 hW hT => ?_)
  have HW5 := Lib.hid (HW4.out.trans (hW.mono HW4.out.size))
  have HR := Lib.hid (HR.out.onto hW)
  have HX := Lib.hid (HX.out.onto hW)
  clear hW hT
  have r0 := HR.out.cell 0
  have r1 := HR.out.cell 1
  have r2 := HR.out.cell 2
  have q0 := HR.out.free 0
  have q1 := HR.out.free 1
  have q2 := HR.out.free 2
  go_wp2_with fail
  refine bodyPost_ret (v := .agg #[.slice none 0 0, .int .i64 (a : Nat), .int .i64 4]) (by simp [results, Tryz.results26, go_sem, r0, r1, r2]) rfl ?_
  rw [HO.out]
  exact ⟨below_put3 HW5.out (Nat.le_refl _) _ _ _, rfl⟩
set_option maxRecDepth 100000 in
set_option maxHeartbeats 8000000 in
theorem rone_n4 (s : ByteArray) (i : Nat) (w : World) (hs : s.size ≤ 2000) (hi : i ≤ s.size) (hq : isLt (bt s (bl s i)) = true) (hu : Iz.use (wd s i) = 2 ∨ Iz.use (wd s i) = 3) (hd : isDg (bt s (signE s (bl s (wE s (bl s i))))) = true) (hno : ¬ (bt s (signE s (bl s (wE s (bl s i)))) = 48 ∧ (signE s (bl s (wE s (bl s i)))) + 1 < span isDg s (signE s (bl s (wE s (bl s i)))))) (h64 : Tk.In64 (De.numL (sub s (bl s (wE s (bl s i))) (intE s (bl s (wE s (bl s i))))).data.toList)) (h4 : Iz.use (wd s i) = 3 ∧ De.numL (sub s (bl s (wE s (bl s i))) (intE s (bl s (wE s (bl s i))))).data.toList = 0) : Calls Tryz.prog 26 #[.string s, .int .i64 i] w (OneR (Iz.oneI s i) w) := by
  have ha0 := bl_le hi
  have hz := Iz.wE_le ha0
  have ha := bl_le hz
  have HB1 := Lib.hid (fun w1 => rblanks_any s i w1 (by omega) (by omega))
  have HB2 := Lib.hid (fun w1 => rblanks_any s (wE s (bl s i)) w1 (by omega) (by omega))
  have HW := Lib.hid (fun w1 => r8word_any s i w1 (by omega) hi)
  rw [show wordT s i = wd s i from by unfold wordT; rw [if_pos hq], show wordP s i = wE s (bl s i) from by unfold wordP; rw [if_pos hq]] at HW
  have HRU := Lib.hid (fun w1 => ruses_any (wd s i) w1)
  have hnt := use_times (wd s i)
  unfold Iz.timesW at hnt
  obtain ⟨hn1, hn2⟩ := wd_ne hq hi
  rw [show span isBl s i = bl s i from rfl] at HB1
  rw [show span isBl s (wE s (bl s i)) = bl s (wE s (bl s i)) from rfl] at HB2
  have HO1 := oneI_5 hq (show Iz.use (wd s i) = 2 ∨ Iz.use (wd s i) = 3 from hu)
  have hus : usesI (Iz.use (wd s i)) = 1 := by rcases hu with h | h <;> rw [h] <;> rfl
  rw [hus] at HRU
  have HEN := Lib.hid (fun w1 => rend_any s (bl s (wE s (bl s i))) w1 (by omega) ha)
  have hf := signE_le ha
  have hE := span_le isDg hf
  have he := numI_e hd hno
  rw [he.1] at HEN hE
  have hsz : (s.extract (bl s (wE s (bl s i))) (intE s (bl s (wE s (bl s i))))).size ≤ 2600 := by rw [ByteArray.size_extract]; omega
  have HO := Lib.hid (HO1.trans (numI_4 (w := wd s i) (u := Iz.use (wd s i)) hd hno h64 h4))
  have HPA := Lib.hid (fun w1 => W2.rparse_ok (s.extract (bl s (wE s (bl s i))) (intE s (bl s (wE s (bl s i))))) w1 hsz he.2.1 ⟨h64.1, h64.2⟩)
  have haE := he.2.2.2
  rw [show sub s (bl s (wE s (bl s i))) (intE s (bl s (wE s (bl s i)))) = s.extract (bl s (wE s (bl s i))) (intE s (bl s (wE s (bl s i)))) from rfl] at h64 h4
  try rw [show sub s (bl s (wE s (bl s i))) (intE s (bl s (wE s (bl s i)))) = s.extract (bl s (wE s (bl s i))) (intE s (bl s (wE s (bl s i)))) from rfl] at HO
  clear HO1 hd hno he hsz hus
  generalize De.numL (s.extract (bl s (wE s (bl s i))) (intE s (bl s (wE s (bl s i))))).data.toList = N at *
  generalize intE s (bl s (wE s (bl s i))) = E at *
  have hnt3 := hnt.trans (decide_eq_true h4.1)
  have hN0 := h4.2
  subst hN0
  clear h4 hnt hu
  generalize Iz.oneI s i = res at *
  clear hq
  generalize wd s i = nm at *
  generalize bl s (wE s (bl s i)) = a at *
  generalize wE s (bl s i) = z at *
  generalize bl s i = a0 at *
  go_enter Tryz.func26, Tryz.ntmps26
  go_upto_region 1 with fail
  refine alloc_gz (fun W1 hW hR => ?_)
  have HW1 := Lib.hid hW
  have HR := Lib.hid hR
  clear hW hR
  go_wp2_with fail
  refine (HB1.out _).mono ?_
  rintro e w2 ⟨rfl, rfl⟩
  go_wp2_with fail
  refine (HW.out _).mono ?_
  rintro e w2 ⟨rfl, rfl⟩
  go_upto_region 6 with fail
  refine alloc_gz (fun W2 hW hX => ?_)
  have HW2 := Lib.hid (HW1.out.trans (hW.mono HW1.out.size))
  have hlX0 := HR.out.lt
  have HR := Lib.hid (HR.out.onto hW)
  obtain ⟨X, hXe⟩ : ∃ X, W1.heap.size = X := ⟨_, rfl⟩
  have hlX : w.heap.size < X := by rw [← hXe]; exact hlX0
  rw [hXe] at hX ⊢
  clear hlX0
  have HX := Lib.hid hX
  clear hW hX hXe
  go_wp2_with fail
  refine (HRU.out _).mono ?_
  rintro e w3 ⟨rfl, rfl⟩
  go_wp2_with fail
  refine (HB2.out _).mono ?_
  rintro e w3 ⟨rfl, rfl⟩
  go_wp2_with fail
  refine (HEN.out _).mono ?_
  rintro e w3 ⟨rfl, rfl⟩
  have j1 : (0 : Int) ≤ (a : Int) := by omega
  have j2 : (a : Int) ≤ (E : Int) := by omega
  have j3 : (E : Int) ≤ (s.size : Int) := by omega
  have j4 : (E : Int) ≤ 2000 := by omega
  have u1 : decide ((E : Int) > (a : Int)) = true := decide_eq_true (by omega)
  have u3 : decide ((E : Int) ≤ (s.size : Int)) = true := decide_eq_true (by omega)
  go_wp2_with fail
  refine (HPA.out _).mono ?_
  rintro e w4 ⟨nb, nA, nn, nc, rfl, hnz, hb⟩
  have HW4 := Lib.hid (HW2.out.trans (hb.mono HW2.out.size))
  have HR := Lib.hid (HR.out.onto hb)
  have HX := Lib.hid (HX.out.onto hb)
  have HNZ := Lib.hid hnz
  clear hb hnz
  go_upto_region 13 with fail
  refine alloc_gz (fun W5 hW hT => ?_)
  have HW5 := Lib.hid (HW4.out.trans (hW.mono HW4.out.size))
  have HR := Lib.hid (HR.out.onto hW)
  have hX4 := HX.out.lt
  have HX := Lib.hid (HX.out.onto hW)
  have HIN := Lib.hid (fun w1 (hb : Below W5.heap.size W5 w1) => Go.Proofs.YtfiahpeajccinaaGreatDoor.W2.int_any _ _ w1 ((HNZ.out.on hW).on hb) ⟨h64.1, h64.2⟩)
  have t0 := hT.cell 0
  have t1 := hT.cell 1
  clear hW hT
  go_wp2_with fail
  refine (HIN.out _ (Below.refl _ _)).mono ?_
  rintro e w6 ⟨rfl, hb⟩
  have HW6 := Lib.hid (HW5.out.trans (hb.mono HW5.out.size))
  have HR := Lib.hid (HR.out.onto hb)
  have HX := Lib.hid (HX.out.onto hb)
  clear hb t0 t1
  have x0 := HX.out.cell 0
  have x1 := HX.out.cell 1
  have x2 := HX.out.cell 2
  have y0 := HX.out.free 0
  have y1 := HX.out.free 1
  have y2 := HX.out.free 2
  have f2 := tl_lit2 (l := [116, 105, 109, 101, 115]) rfl hnt3
  have g2 := (tl_eqb nm ⟨#[116, 105, 109, 101, 115]⟩).trans hnt3
  go_upto_region 23 with fail
  have HX := Lib.hid (show Blk (w6.setCell ⟨X, 1, none⟩ (.int .i64 0)) X _ #[.string nm, .int .i64 0, .string ⟨#[]⟩] from HX.out.set_ 1 _)
  have HR := Lib.hid (HR.out.far (p := ⟨X, 1, none⟩) (show ¬ w.heap.size = X by omega) (.int .i64 0))
  have HW7 := Lib.hid (HW6.out.setCell (p := ⟨X, 1, none⟩) (show w.heap.size ≤ X by omega) (.int .i64 0))
  clear x0 x1 x2 y0 y1 y2
  generalize (w6.setCell ⟨X, 1, none⟩ (.int .i64 0)) = W7 at *
  have x0 := HX.out.cell 0
  have x1 := HX.out.cell 1
  have x2 := HX.out.cell 2
  have r0 := HR.out.cell 0
  have r1 := HR.out.cell 1
  have r2 := HR.out.cell 2
  have q0 := HR.out.free 0
  have q1 := HR.out.free 1
  have q2 := HR.out.free 2
  go_wp2_with fail
  refine bodyPost_ret (v := .agg #[.slice none 0 0, .int .i64 (a : Nat), .int .i64 8]) (by simp [results, Tryz.results26, go_sem, r0, r1, r2]) rfl ?_
  rw [HO.out]
  exact ⟨below_put3 HW7.out (Nat.le_refl _) _ _ _, rfl⟩
set_option maxRecDepth 100000 in
set_option maxHeartbeats 8000000 in
theorem rone_n5 (s : ByteArray) (i : Nat) (w : World) (hs : s.size ≤ 2000) (hi : i ≤ s.size) (hq : isLt (bt s (bl s i)) = true) (hu : Iz.use (wd s i) = 2 ∨ Iz.use (wd s i) = 3) (hd : isDg (bt s (signE s (bl s (wE s (bl s i))))) = true) (hno : ¬ (bt s (signE s (bl s (wE s (bl s i)))) = 48 ∧ (signE s (bl s (wE s (bl s i)))) + 1 < span isDg s (signE s (bl s (wE s (bl s i)))))) (h64 : Tk.In64 (De.numL (sub s (bl s (wE s (bl s i))) (intE s (bl s (wE s (bl s i))))).data.toList)) (h4 : ¬ (Iz.use (wd s i) = 3 ∧ De.numL (sub s (bl s (wE s (bl s i))) (intE s (bl s (wE s (bl s i))))).data.toList = 0)) : Calls Tryz.prog 26 #[.string s, .int .i64 i] w (OneR (Iz.oneI s i) w) := by
  have ha0 := bl_le hi
  have hz := Iz.wE_le ha0
  have ha := bl_le hz
  have HB1 := Lib.hid (fun w1 => rblanks_any s i w1 (by omega) (by omega))
  have HB2 := Lib.hid (fun w1 => rblanks_any s (wE s (bl s i)) w1 (by omega) (by omega))
  have HW := Lib.hid (fun w1 => r8word_any s i w1 (by omega) hi)
  rw [show wordT s i = wd s i from by unfold wordT; rw [if_pos hq], show wordP s i = wE s (bl s i) from by unfold wordP; rw [if_pos hq]] at HW
  have HRU := Lib.hid (fun w1 => ruses_any (wd s i) w1)
  have hnt := use_times (wd s i)
  unfold Iz.timesW at hnt
  obtain ⟨hn1, hn2⟩ := wd_ne hq hi
  rw [show span isBl s i = bl s i from rfl] at HB1
  rw [show span isBl s (wE s (bl s i)) = bl s (wE s (bl s i)) from rfl] at HB2
  have HO1 := oneI_5 hq (show Iz.use (wd s i) = 2 ∨ Iz.use (wd s i) = 3 from hu)
  have hus : usesI (Iz.use (wd s i)) = 1 := by rcases hu with h | h <;> rw [h] <;> rfl
  rw [hus] at HRU
  have HEN := Lib.hid (fun w1 => rend_any s (bl s (wE s (bl s i))) w1 (by omega) ha)
  have hf := signE_le ha
  have hE := span_le isDg hf
  have he := numI_e hd hno
  rw [he.1] at HEN hE
  have hsz : (s.extract (bl s (wE s (bl s i))) (intE s (bl s (wE s (bl s i))))).size ≤ 2600 := by rw [ByteArray.size_extract]; omega
  have HO := Lib.hid (HO1.trans (numI_5 (w := wd s i) (u := Iz.use (wd s i)) hd hno h64 h4))
  have HPA := Lib.hid (fun w1 => W2.rparse_ok (s.extract (bl s (wE s (bl s i))) (intE s (bl s (wE s (bl s i))))) w1 hsz he.2.1 ⟨h64.1, h64.2⟩)
  have haE := he.2.2.2
  rw [show sub s (bl s (wE s (bl s i))) (intE s (bl s (wE s (bl s i)))) = s.extract (bl s (wE s (bl s i))) (intE s (bl s (wE s (bl s i)))) from rfl] at h64 h4
  try rw [show sub s (bl s (wE s (bl s i))) (intE s (bl s (wE s (bl s i)))) = s.extract (bl s (wE s (bl s i))) (intE s (bl s (wE s (bl s i)))) from rfl] at HO
  clear HO1 hd hno he hsz hus
  generalize De.numL (s.extract (bl s (wE s (bl s i))) (intE s (bl s (wE s (bl s i))))).data.toList = N at *
  generalize intE s (bl s (wE s (bl s i))) = E at *
  have hnt3 : ∃ b, eqb (wd s i) ⟨#[116, 105, 109, 101, 115]⟩ = b ∧ (b = false ∨ ¬ N = 0) := by
    refine ⟨_, hnt, ?_⟩
    by_cases h : Iz.use (wd s i) = 3
    · exact .inr (fun e => h4 ⟨h, e⟩)
    · exact .inl (decide_eq_false h)
  clear h4 hnt hu
  generalize Iz.oneI s i = res at *
  clear hq
  generalize wd s i = nm at *
  generalize bl s (wE s (bl s i)) = a at *
  generalize wE s (bl s i) = z at *
  generalize bl s i = a0 at *
  go_enter Tryz.func26, Tryz.ntmps26
  go_upto_region 1 with fail
  refine alloc_gz (fun W1 hW hR => ?_)
  have HW1 := Lib.hid hW
  have HR := Lib.hid hR
  clear hW hR
  go_wp2_with fail
  refine (HB1.out _).mono ?_
  rintro e w2 ⟨rfl, rfl⟩
  go_wp2_with fail
  refine (HW.out _).mono ?_
  rintro e w2 ⟨rfl, rfl⟩
  go_upto_region 6 with fail
  refine alloc_gz (fun W2 hW hX => ?_)
  have HW2 := Lib.hid (HW1.out.trans (hW.mono HW1.out.size))
  have hlX0 := HR.out.lt
  have HR := Lib.hid (HR.out.onto hW)
  obtain ⟨X, hXe⟩ : ∃ X, W1.heap.size = X := ⟨_, rfl⟩
  have hlX : w.heap.size < X := by rw [← hXe]; exact hlX0
  rw [hXe] at hX ⊢
  clear hlX0
  have HX := Lib.hid hX
  clear hW hX hXe
  go_wp2_with fail
  refine (HRU.out _).mono ?_
  rintro e w3 ⟨rfl, rfl⟩
  go_wp2_with fail
  refine (HB2.out _).mono ?_
  rintro e w3 ⟨rfl, rfl⟩
  go_wp2_with fail
  refine (HEN.out _).mono ?_
  rintro e w3 ⟨rfl, rfl⟩
  have j1 : (0 : Int) ≤ (a : Int) := by omega
  have j2 : (a : Int) ≤ (E : Int) := by omega
  have j3 : (E : Int) ≤ (s.size : Int) := by omega
  have j4 : (E : Int) ≤ 2000 := by omega
  have u1 : decide ((E : Int) > (a : Int)) = true := decide_eq_true (by omega)
  have u3 : decide ((E : Int) ≤ (s.size : Int)) = true := decide_eq_true (by omega)
  go_wp2_with fail
  refine (HPA.out _).mono ?_
  rintro e w4 ⟨nb, nA, nn, nc, rfl, hnz, hb⟩
  have HW4 := Lib.hid (HW2.out.trans (hb.mono HW2.out.size))
  have HR := Lib.hid (HR.out.onto hb)
  have HX := Lib.hid (HX.out.onto hb)
  have HNZ := Lib.hid hnz
  clear hb hnz
  go_upto_region 13 with fail
  refine alloc_gz (fun W5 hW hT => ?_)
  have HW5 := Lib.hid (HW4.out.trans (hW.mono HW4.out.size))
  have HR := Lib.hid (HR.out.onto hW)
  have hX4 := HX.out.lt
  have HX := Lib.hid (HX.out.onto hW)
  have HIN := Lib.hid (fun w1 (hb : Below W5.heap.size W5 w1) => Go.Proofs.YtfiahpeajccinaaGreatDoor.W2.int_any _ _ w1 ((HNZ.out.on hW).on hb) ⟨h64.1, h64.2⟩)
  have t0 := hT.cell 0
  have t1 := hT.cell 1
  clear hW hT
  go_wp2_with fail
  refine (HIN.out _ (Below.refl _ _)).mono ?_
  rintro e w6 ⟨rfl, hb⟩
  have HW6 := Lib.hid (HW5.out.trans (hb.mono HW5.out.size))
  have HR := Lib.hid (HR.out.onto hb)
  have HX := Lib.hid (HX.out.onto hb)
  clear hb t0 t1
  have x0 := HX.out.cell 0
  have x1 := HX.out.cell 1
  have x2 := HX.out.cell 2
  have y0 := HX.out.free 0
  have y1 := HX.out.free 1
  have y2 := HX.out.free 2
  obtain ⟨b3, hb3, hor⟩ := hnt3
  have f2 := tl_lit2 (l := [116, 105, 109, 101, 115]) rfl hb3
  have g2 := (tl_eqb nm ⟨#[116, 105, 109, 101, 115]⟩).trans hb3
  go_upto_region 23 with fail
  have HX := Lib.hid (show Blk (w6.setCell ⟨X, 1, none⟩ (.int .i64 N)) X _ #[.string nm, .int .i64 N, .string ⟨#[]⟩] from HX.out.set_ 1 _)
  have HR := Lib.hid (HR.out.far (p := ⟨X, 1, none⟩) (show ¬ w.heap.size = X by omega) (.int .i64 N))
  have HW7 := Lib.hid (HW6.out.setCell (p := ⟨X, 1, none⟩) (show w.heap.size ≤ X by omega) (.int .i64 N))
  clear x0 x1 x2 y0 y1 y2 hb3
  generalize (w6.setCell ⟨X, 1, none⟩ (.int .i64 N)) = W7 at *
  rcases hor with rfl | hN
  · skip
    have HRq := Lib.hid (HR.out.alloc (.cells #[.string nm, .int .i64 N, .string ⟨#[]⟩] 27))
    have hlq := HX.out.lt
    have x0 := HX.out.cell 0
    have x1 := HX.out.cell 1
    have x2 := HX.out.cell 2
    have r0 := HRq.out.cell 0
    have r1 := HRq.out.cell 1
    have r2 := HRq.out.cell 2
    have q0 := HRq.out.free 0
    have q1 := HRq.out.free 1
    have q2 := HRq.out.free 2
    go_wp2_with fail
    refine bodyPost_ret (v := .agg #[.slice (some ⟨(W7).heap.size, 0, none⟩) 1 1, .int .i64 (E : Nat), .int .i64 0]) (by simp [results, Tryz.results26, go_sem, r0, r1, r2]) rfl ?_
    rw [HO.out]
    exact ⟨below_put3 (HW7.out.alloc HW7.out.size _) (Nat.le_refl _) _ _ _, _, HW7.out.size, rfl, blk_far3 (Blk.new _ _ _) (by omega) _ _ _⟩
  · have z1 : (N == 0) = false := beq_eq_false_iff_ne.2 hN
    cases b3
    all_goals
      have HRq := Lib.hid (HR.out.alloc (.cells #[.string nm, .int .i64 N, .string ⟨#[]⟩] 27))
      have hlq := HX.out.lt
      have x0 := HX.out.cell 0
      have x1 := HX.out.cell 1
      have x2 := HX.out.cell 2
      have r0 := HRq.out.cell 0
      have r1 := HRq.out.cell 1
      have r2 := HRq.out.cell 2
      have q0 := HRq.out.free 0
      have q1 := HRq.out.free 1
      have q2 := HRq.out.free 2
      go_wp2_with fail
      refine bodyPost_ret (v := .agg #[.slice (some ⟨(W7).heap.size, 0, none⟩) 1 1, .int .i64 (E : Nat), .int .i64 0]) (by simp [results, Tryz.results26, go_sem, r0, r1, r2]) rfl ?_
      rw [HO.out]
      exact ⟨below_put3 (HW7.out.alloc HW7.out.size _) (Nat.le_refl _) _ _ _, _, HW7.out.size, rfl, blk_far3 (Blk.new _ _ _) (by omega) _ _ _⟩
theorem rone_any (s : ByteArray) (i : Nat) (w : World) (hs : s.size ≤ 2000) (hi : i ≤ s.size) : Calls Tryz.prog 26 #[.string s, .int .i64 i] w (OneR (Iz.oneI s i) w) := by
  cases hq : isLt (bt s (bl s i)) with
  | false => exact rone_w s i w hs hi hq
  | true =>
    have hu := Iz.use_le (wd s i)
    rcases (by omega : Iz.use (wd s i) = 0 ∨ Iz.use (wd s i) = 1 ∨ (Iz.use (wd s i) = 2 ∨ Iz.use (wd s i) = 3) ∨ Iz.use (wd s i) = 4) with h | h | h | h
    · exact rone_0 s i w hs hi hq h
    · exact rone_1 s i w hs hi hq h
    · cases hd : isDg (bt s (signE s (bl s (wE s (bl s i))))) with
      | false =>
        rcases sign_cases s (bl s (wE s (bl s i))) with hsg | hsg
        · exact rone_n1a s i w hs hi hq h hd hsg
        · exact rone_n1b s i w hs hi hq h hd hsg
      | true =>
        by_cases hno : bt s (signE s (bl s (wE s (bl s i)))) = 48 ∧ (signE s (bl s (wE s (bl s i)))) + 1 < span isDg s (signE s (bl s (wE s (bl s i))))
        · rcases sign_cases s (bl s (wE s (bl s i))) with hsg | hsg
          · exact rone_n2a s i w hs hi hq h hd hno.1 hno.2 hsg
          · exact rone_n2b s i w hs hi hq h hd hno.1 hno.2 hsg
        · by_cases h64 : Tk.In64 (De.numL (sub s (bl s (wE s (bl s i))) (intE s (bl s (wE s (bl s i))))).data.toList)
          · by_cases h4 : Iz.use (wd s i) = 3 ∧ De.numL (sub s (bl s (wE s (bl s i))) (intE s (bl s (wE s (bl s i))))).data.toList = 0
            · exact rone_n4 s i w hs hi hq h hd hno h64 h4
            · exact rone_n5 s i w hs hi hq h hd hno h64 h4
          · exact rone_n3 s i w hs hi hq h hd hno h64
    · by_cases hk : bt s (bl s (wE s (bl s i))) = 34
      · cases hx : strAns s (bl s (wE s (bl s i))) with
        | err p c => exact rone_k1 s i w hs hi hq h hk p c hx
        | tok tk => exact rone_k2 s i w hs hi hq h hk tk hx
      · exact rone_k0 s i w hs hi hq h hk
end Go.Proofs.YtfiahpeajccinaaGreatDoor
