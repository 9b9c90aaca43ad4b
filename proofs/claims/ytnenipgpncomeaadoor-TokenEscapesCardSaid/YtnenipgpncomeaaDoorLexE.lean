/- The lexer's reader of an escape: its contract. -/
import Derived.Test.YtnenipgpncomeaaDoorLexD
import Derived.Test.YtnenipgpncomeaaDoorBase
namespace Go.Proofs.YtnenipgpncomeaaDoor
open Go.RowKit
open Tk
open Pl
set_option linter.unusedVariables false

theorem unitV_no {s : ByteArray} {a : Nat} (h : isEsc s a = false) : unitV s a = Uni.val 0 a false := by unfold unitV; rw [h]; rfl
theorem unitV_bad {s : ByteArray} {a : Nat} (h : isEsc s a = true) (k : (four s (a + 2)).1 < 0) : unitV s a = Uni.val 0 (four s (a + 2)).2 false := by unfold unitV; rw [if_pos h, if_pos k]
theorem unitV_yes {s : ByteArray} {a : Nat} (h : isEsc s a = true) (k : ¬ (four s (a + 2)).1 < 0) : unitV s a = Uni.val (four s (a + 2)).1 (a + 6 : Nat) true := by
  unfold unitV; rw [if_pos h, if_neg k]
  rcases four_range s (a + 2) with ⟨x, _⟩ | ⟨_, _, x, _⟩
  · omega
  · rw [x]
theorem isPt_pt (n : Int) : isPt n = pt n := by
  rw [Bool.eq_iff_iff, isPt_iff, pt_iff]
/-- the second half: what the second escape's number leaves of the pair -/
theorem uni_two {s : ByteArray} {a : Nat} (k : ¬ (four s (a + 2)).1 < 0) (kp : pt (four s (a + 2)).1 = false) :
    (∃ l : Int, (unitV s (a + 6) = Uni.val l (a + 12 : Nat) true) ∧ (55296 ≤ (four s (a + 2)).1 ∧ (four s (a + 2)).1 < 56320) ∧ (56320 ≤ l ∧ l < 57344) ∧ uniCh s a = .pt (65536 + ((four s (a + 2)).1 - 55296) * 1024 + (l - 56320)) (a + 12)) ∨
    (∃ (l : Int) (q : Nat) (z : Bool), unitV s (a + 6) = Uni.val l q z ∧ (z = false ∨ ¬ ((55296 ≤ (four s (a + 2)).1 ∧ (four s (a + 2)).1 < 56320) ∧ (56320 ≤ l ∧ l < 57344))) ∧ uniCh s a = .bad a 3) := by
  have hno : ¬ pt (four s (a + 2)).1 = true := by rw [kp]; decide
  cases h : isEsc s (a + 6) with
  | false =>
    right
    refine ⟨0, a + 6, false, unitV_no h, .inl rfl, ?_⟩
    unfold uniCh
    rw [if_neg k, if_neg hno, if_neg]
    rintro ⟨_, x, y, _⟩
    unfold isEsc at h
    rw [x, show a + 6 + 1 = a + 7 from rfl, y] at h
    cases h
  | true =>
    by_cases k2 : (four s (a + 6 + 2)).1 < 0
    · right
      refine ⟨0, _, false, unitV_bad h k2, .inl rfl, ?_⟩
      unfold uniCh
      rw [if_neg k, if_neg hno, if_neg]
      rintro ⟨_, _, _, x⟩
      simp only [isLow, decide_eq_true_eq] at x
      rw [show a + 6 + 2 = a + 8 from rfl] at k2
      omega
    · have hy := unitV_yes h k2
      rw [show a + 6 + 6 = a + 12 from rfl, show a + 6 + 2 = a + 8 from rfl] at hy
      unfold isEsc at h
      simp only [Bool.and_eq_true, beq_iff_eq] at h
      by_cases hh : (55296 ≤ (four s (a + 2)).1 ∧ (four s (a + 2)).1 < 56320) ∧ (56320 ≤ (four s (a + 8)).1 ∧ (four s (a + 8)).1 < 57344)
      · left
        refine ⟨_, hy, hh.1, hh.2, ?_⟩
        unfold uniCh
        rw [if_neg k, if_neg hno, if_pos ⟨by simp only [isHigh, decide_eq_true_eq]; exact hh.1, h.1, h.2, by simp only [isLow, decide_eq_true_eq]; exact hh.2⟩]
      · right
        refine ⟨_, _, true, hy, .inr hh, ?_⟩
        unfold uniCh
        rw [if_neg k, if_neg hno, if_neg]
        rintro ⟨x, _, _, y⟩
        simp only [isHigh, isLow, decide_eq_true_eq] at x y
        exact hh ⟨x, y⟩
set_option maxRecDepth 100000 in
set_option maxHeartbeats 2000000 in
theorem escaped_any5 (b : Nat) (s : ByteArray) (a : Nat) (w : World) (hs : s.size ≤ 1000000) (hc : w.cell? ⟨b, 0, none⟩ = some (.string s)) (ha : a ≤ s.size) (he : isEsc s a = true) : Calls Tryd.prog 47 #[.pointer (some ⟨b, 0, none⟩), .int .i64 a] w fun e w' => e = .returned (uniCh s a).val ∧ w = w' := by
  have i2 : (0 : Int) ≤ (a : Int) := by omega
  have HU := Lib.hid (unit_any5 b s a w hs hc ha)
  by_cases k : (four s (a + 2)).1 < 0
  · have HR := Lib.hid (show uniCh s a = .bad (four s (a + 2)).2 1 by unfold uniCh; rw [if_pos k])
    have HV := Lib.hid (unitV_bad he k)
    generalize uniCh s a = v at *
    generalize unitV s a = uv at *
    generalize four s (a + 2) = fr at *
    clear he k
    go_enter Tryd.func47, Tryd.ntmps47
    go_wp2_with fail
    refine HU.out.mono ?_
    rintro e w2 ⟨rfl, rfl⟩
    rw [HV.out]
    unfold Uni.val
    go_wp2_with fail
    go_ret3
    exact ⟨by rw [HR.out]; rfl, rfl⟩
  · have hr := four_range s (a + 2)
    have ha6 : a + 6 ≤ s.size := by omega
    have HU2 := Lib.hid (unit_any5 b s (a + 6) w hs hc ha6)
    have HV := Lib.hid (unitV_yes he k)
    cases kp : pt (four s (a + 2)).1 with
    | true =>
      have HR := Lib.hid (show uniCh s a = .pt (four s (a + 2)).1 (a + 6) by
        unfold uniCh; rw [if_neg k, if_pos kp]
        rcases hr with ⟨x, _⟩ | ⟨_, _, x, _⟩
        · omega
        · rw [x])
      have HP := Lib.hid (show isPt (four s (a + 2)).1 = true by rw [isPt_pt]; exact kp)
      generalize uniCh s a = v at *
      generalize unitV s a = uv at *
      generalize (four s (a + 2)).1 = fr at *
      clear he k kp hr HU2
      go_enter Tryd.func47, Tryd.ntmps47
      go_wp2_with fail
      refine HU.out.mono ?_
      rintro e w2 ⟨rfl, rfl⟩
      rw [HV.out]
      unfold Uni.val
      go_wp2_with fail
      refine (gis_yes _ _ HP.out).mono ?_
      rintro e w2 ⟨rfl, rfl⟩
      go_wp2_with fail
      go_ret3
      exact ⟨by rw [HR.out]; rfl, rfl⟩
    | false =>
      have HP := Lib.hid (show isPt (four s (a + 2)).1 = false by rw [isPt_pt]; exact kp)
      rcases uni_two k kp with ⟨l, g1, g2, g3, g4⟩ | ⟨l, q, z, g1, g2, g4⟩
      · have HG := Lib.hid g1
        have HR := Lib.hid g4
        have HA := Lib.hid g2
        have HB := Lib.hid g3
        have v1 : ¬ 65536 + ((four s (a + 2)).1 - 55296) * 1024 + (l - 56320) < 0 := by omega
        generalize uniCh s a = v at *
        generalize unitV s a = uv at *
        generalize unitV s (a + 6) = uw at *
        generalize (four s (a + 2)).1 = fr at *
        clear he k kp hr g1 g2 g3 g4
        go_enter Tryd.func47, Tryd.ntmps47
        go_wp2_with fail
        refine HU.out.mono ?_
        rintro e w2 ⟨rfl, rfl⟩
        rw [HV.out]
        unfold Uni.val
        go_wp2_with fail
        refine (gis_no _ _ HP.out).mono ?_
        rintro e w2 ⟨rfl, rfl⟩
        go_wp2_with fail
        refine HU2.out.mono ?_
        rintro e w2 ⟨rfl, rfl⟩
        rw [HG.out]
        unfold Uni.val
        go_wp2_with fail
        refine (pair_yes _ _ _ HA.out HB.out).mono ?_
        rintro e w2 ⟨rfl, rfl⟩
        go_wp2_with fail
        go_ret3
        exact ⟨by rw [HR.out]; rfl, rfl⟩
      · have HG := Lib.hid g1
        have HR := Lib.hid g4
        have HX := Lib.hid (show ∃ y : Int, (z = false ∨ y = -1) ∧ ∀ w : World, Calls Tryd.prog 60 #[.int .i64 (four s (a + 2)).1, .int .i64 l] w fun e w' => e = .returned (.int .i64 y) ∧ w = w' by
          by_cases hh : (55296 ≤ (four s (a + 2)).1 ∧ (four s (a + 2)).1 < 56320) ∧ (56320 ≤ l ∧ l < 57344)
          · exact ⟨_, g2.imp id (fun x => absurd hh x), fun w => pair_yes _ _ w hh.1 hh.2⟩
          · exact ⟨-1, .inr rfl, fun w => pair_no _ _ w hh⟩)
        generalize uniCh s a = v at *
        generalize unitV s a = uv at *
        generalize unitV s (a + 6) = uw at *
        generalize (four s (a + 2)).1 = fr at *
        clear he k kp hr g1 g2 g4
        obtain ⟨y, hy1, hy2⟩ := HX.out
        have HY := Lib.hid hy2
        clear hy2 HX
        go_enter Tryd.func47, Tryd.ntmps47
        go_wp2_with fail
        refine HU.out.mono ?_
        rintro e w2 ⟨rfl, rfl⟩
        rw [HV.out]
        unfold Uni.val
        go_wp2_with fail
        refine (gis_no _ _ HP.out).mono ?_
        rintro e w2 ⟨rfl, rfl⟩
        go_wp2_with fail
        refine HU2.out.mono ?_
        rintro e w2 ⟨rfl, rfl⟩
        rw [HG.out]
        unfold Uni.val
        cases z with
        | false =>
          clear hy1
          go_wp2_with fail
          refine (HY.out _).mono ?_
          rintro e w2 ⟨rfl, rfl⟩
          go_wp2_with fail
          go_ret3
          exact ⟨by rw [HR.out]; rfl, rfl⟩
        | true =>
          obtain rfl : y = -1 := by rcases hy1 with h | h; cases h; exact h
          clear hy1
          go_wp2_with fail
          refine (HY.out _).mono ?_
          rintro e w2 ⟨rfl, rfl⟩
          go_wp2_with fail
          go_ret3
          exact ⟨by rw [HR.out]; rfl, rfl⟩
end Go.Proofs.YtnenipgpncomeaaDoor
