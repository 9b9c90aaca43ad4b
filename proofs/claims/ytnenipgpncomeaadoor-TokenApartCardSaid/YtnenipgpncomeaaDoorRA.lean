/- The reference's small steps of a text: contracts. -/
import Derived.Test.YtnenipgpncomeaaDoorLexC
namespace Go.Proofs.YtnenipgpncomeaaDoor
open Go.RowKit
open Tk
set_option linter.unusedVariables false

set_option maxRecDepth 100000 in
theorem rb_any (s : ByteArray) (a : Nat) (c : Int) (w : World) (hs : s.size ≤ 1000000) (hc : 0 < c) (hc2 : c < 256) :
    Calls Tryd.prog 18 #[.string s, .int .i64 a, .int .u8 c] w fun e w' => e = .returned (.bool ((bt s a : Int) == c)) ∧ w = w' := by
  by_cases hl : a < s.size
  · have u1 : decide (a < s.size) = true := decide_eq_true hl
    have u2 : decide ((a : Int) < (s.size : Int)) = true := decide_eq_true (by omega)
    have i1 : (a : Int) < (s.size : Int) := by omega
    have i2 : (0 : Int) ≤ (a : Int) := by omega
    have HX := Lib.hid (bt_at s a hl)
    generalize bt s a = z at *
    go_enter Tryd.func18, Tryd.ntmps18
    go_wp2_with fail
    go_ret
    exact ⟨by rw [← HX.out] <;> rfl, rfl⟩
  · have u1 : decide (a < s.size) = false := decide_eq_false hl
    have u2 : decide ((a : Int) < (s.size : Int)) = false := decide_eq_false (by omega)
    have HX := Lib.hid (show ((bt s a : Int) == c) = false by rw [bt_end (by omega), beq_eq_false_iff_ne]; omega)
    generalize ((bt s a : Int) == c) = z at *
    go_enter Tryd.func18, Tryd.ntmps18
    go_wp2_with fail
    go_ret
    exact ⟨by rw [HX.out] <;> rfl, rfl⟩
/-- the same, told by yes and no -/
theorem rb_yes {s : ByteArray} {a : Nat} {c : Int} (h : (bt s a : Int) = c) (w : World) (hs : s.size ≤ 1000000) (hc : 0 < c) (hc2 : c < 256) :
    Calls Tryd.prog 18 #[.string s, .int .i64 a, .int .u8 c] w fun e w' => e = .returned (.bool true) ∧ w = w' := by
  have := rb_any s a c w hs hc hc2
  rwa [beq_iff_eq.2 h] at this
theorem rb_no {s : ByteArray} {a : Nat} {c : Int} (h : ¬ (bt s a : Int) = c) (w : World) (hs : s.size ≤ 1000000) (hc : 0 < c) (hc2 : c < 256) :
    Calls Tryd.prog 18 #[.string s, .int .i64 a, .int .u8 c] w fun e w' => e = .returned (.bool false) ∧ w = w' := by
  have := rb_any s a c w hs hc hc2
  rwa [beq_eq_false_iff_ne.2 h] at this
set_option maxRecDepth 100000 in
set_option maxHeartbeats 2000000 in
theorem rblanks_any (s : ByteArray) (a : Nat) (w : World) (hs : s.size ≤ 1000000) (ha : a ≤ 2000000) :
    Calls Tryd.prog 9 #[.string s, .int .i64 a] w fun e w' => e = .returned (.int .i64 (span isBl s a : Nat)) ∧ w = w' := by
  have hE : span isBl s a ≤ 2000000 := by
    rcases Nat.lt_or_ge a s.size with h | h
    · have := span_le isBl (s := s) (i := a) (by omega); omega
    · rw [span_end h]; exact ha
  go_enter Tryd.func9, Tryd.ntmps9
  go_wp2_with fail
  go_loop [1] (fun i => ∃ k : Nat, a ≤ k ∧ k ≤ span isBl s a ∧ i = .int .i64 k) (fun i => span isBl s a - (intOf i).toNat)
  case atStart => exact ⟨a, Nat.le_refl _, span_ge _ _ _, rfl⟩
  case round =>
    obtain ⟨k, h1, h2, rfl⟩ := hrel
    by_cases hlt : k < span isBl s a
    · have hd := isBl_iff.1 (span_in (p := isBl) h1 hlt)
      rcases hd with hd | hd | hd | hd
      · go_wp2_with fail
        refine (rb_yes (c := 32) (by omega) _ hs (by decide) (by decide)).mono ?_
        rintro e w2 ⟨rfl, rfl⟩
        go_wp2_with fail
        go_round
        case rel => exact ⟨k + 1, by omega, hlt, by go_num⟩
        case measure => simp [intOf]; omega
      · go_wp2_with fail
        refine (rb_no (c := 32) (by omega) _ hs (by decide) (by decide)).mono ?_
        rintro e w2 ⟨rfl, rfl⟩
        go_wp2_with fail
        refine (rb_yes (c := 9) (by omega) _ hs (by decide) (by decide)).mono ?_
        rintro e w2 ⟨rfl, rfl⟩
        go_wp2_with fail
        go_round
        case rel => exact ⟨k + 1, by omega, hlt, by go_num⟩
        case measure => simp [intOf]; omega
      · go_wp2_with fail
        refine (rb_no (c := 32) (by omega) _ hs (by decide) (by decide)).mono ?_
        rintro e w2 ⟨rfl, rfl⟩
        go_wp2_with fail
        refine (rb_no (c := 9) (by omega) _ hs (by decide) (by decide)).mono ?_
        rintro e w2 ⟨rfl, rfl⟩
        go_wp2_with fail
        refine (rb_yes (c := 10) (by omega) _ hs (by decide) (by decide)).mono ?_
        rintro e w2 ⟨rfl, rfl⟩
        go_wp2_with fail
        go_round
        case rel => exact ⟨k + 1, by omega, hlt, by go_num⟩
        case measure => simp [intOf]; omega
      · go_wp2_with fail
        refine (rb_no (c := 32) (by omega) _ hs (by decide) (by decide)).mono ?_
        rintro e w2 ⟨rfl, rfl⟩
        go_wp2_with fail
        refine (rb_no (c := 9) (by omega) _ hs (by decide) (by decide)).mono ?_
        rintro e w2 ⟨rfl, rfl⟩
        go_wp2_with fail
        refine (rb_no (c := 10) (by omega) _ hs (by decide) (by decide)).mono ?_
        rintro e w2 ⟨rfl, rfl⟩
        go_wp2_with fail
        refine (rb_yes (c := 13) (by omega) _ hs (by decide) (by decide)).mono ?_
        rintro e w2 ⟨rfl, rfl⟩
        go_wp2_with fail
        go_round
        case rel => exact ⟨k + 1, by omega, hlt, by go_num⟩
        case measure => simp [intOf]; omega
    · obtain hk : k = span isBl s a := by omega
      have ho : isBl (bt s k) = false := by
        rw [hk]
        rcases Nat.lt_or_ge (span isBl s a) s.size with h | h
        · exact span_out (p := isBl) h
        · rw [bt_end h]; rfl
      have hn : ¬ (bt s k = 32 ∨ bt s k = 9 ∨ bt s k = 10 ∨ bt s k = 13) := by rw [← isBl_iff, ho]; decide
      have HK := Lib.hid hk
      clear hk ho
      go_wp2_with fail
      refine (rb_no (c := 32) (by omega) _ hs (by decide) (by decide)).mono ?_
      rintro e w2 ⟨rfl, rfl⟩
      go_wp2_with fail
      refine (rb_no (c := 9) (by omega) _ hs (by decide) (by decide)).mono ?_
      rintro e w2 ⟨rfl, rfl⟩
      go_wp2_with fail
      refine (rb_no (c := 10) (by omega) _ hs (by decide) (by decide)).mono ?_
      rintro e w2 ⟨rfl, rfl⟩
      go_wp2_with fail
      refine (rb_no (c := 13) (by omega) _ hs (by decide) (by decide)).mono ?_
      rintro e w2 ⟨rfl, rfl⟩
      go_wp2_with fail
      go_ret
      exact ⟨by rw [← HK.out] <;> rfl, rfl⟩
end Go.Proofs.YtnenipgpncomeaaDoor
