/- The reference's small steps of a text: contracts. The reference's hexadecimal digits and escapes: contracts. The reference's reader of an escape: its contract. The reference's reader of a text: its contract. The reference's number: contracts. -/
import Derived.Test.YtfiahpeajccinaaGreatDoorPB
import Derived.Test.YtfiahpeajccinaaGreatDoorPE
import Derived.Deep.DeepCutAuto
import Derived.Deep.RegionLaw
import Derived.BigQuiet
import Derived.Test.YtfiahpeajccinaaGreatDoorPD
namespace Go.Proofs.YtfiahpeajccinaaGreatDoor
open Go.RowKit
open Tk
set_option linter.unusedVariables false

set_option maxRecDepth 100000 in
theorem rb_any (s : ByteArray) (a : Nat) (c : Int) (w : World) (hs : s.size ≤ 1000000) (hc : 0 < c) (hc2 : c < 256) :
    Calls Tryz.prog 103 #[.string s, .int .i64 a, .int .u8 c] w fun e w' => e = .returned (.bool ((bt s a : Int) == c)) ∧ w = w' := by
  by_cases hl : a < s.size
  · have u1 : decide (a < s.size) = true := decide_eq_true hl
    have u2 : decide ((a : Int) < (s.size : Int)) = true := decide_eq_true (by omega)
    have i1 : (a : Int) < (s.size : Int) := by omega
    have i2 : (0 : Int) ≤ (a : Int) := by omega
    have HX := Lib.hid (bt_at s a hl)
    generalize bt s a = z at *
    go_enter Tryz.func103, Tryz.ntmps103
    go_wp2_with fail
    go_ret
    exact ⟨by rw [← HX.out] <;> rfl, rfl⟩
  · have u1 : decide (a < s.size) = false := decide_eq_false hl
    have u2 : decide ((a : Int) < (s.size : Int)) = false := decide_eq_false (by omega)
    have HX := Lib.hid (show ((bt s a : Int) == c) = false by rw [bt_end (by omega), beq_eq_false_iff_ne]; omega)
    generalize ((bt s a : Int) == c) = z at *
    go_enter Tryz.func103, Tryz.ntmps103
    go_wp2_with fail
    go_ret
    exact ⟨by rw [HX.out] <;> rfl, rfl⟩
/-- the same, told by yes and no -/
theorem rb_yes {s : ByteArray} {a : Nat} {c : Int} (h : (bt s a : Int) = c) (w : World) (hs : s.size ≤ 1000000) (hc : 0 < c) (hc2 : c < 256) :
    Calls Tryz.prog 103 #[.string s, .int .i64 a, .int .u8 c] w fun e w' => e = .returned (.bool true) ∧ w = w' := by
  have := rb_any s a c w hs hc hc2
  rwa [beq_iff_eq.2 h] at this
theorem rb_no {s : ByteArray} {a : Nat} {c : Int} (h : ¬ (bt s a : Int) = c) (w : World) (hs : s.size ≤ 1000000) (hc : 0 < c) (hc2 : c < 256) :
    Calls Tryz.prog 103 #[.string s, .int .i64 a, .int .u8 c] w fun e w' => e = .returned (.bool false) ∧ w = w' := by
  have := rb_any s a c w hs hc hc2
  rwa [beq_eq_false_iff_ne.2 h] at this
set_option maxRecDepth 100000 in
theorem rdg_any (s : ByteArray) (a : Nat) (w : World) (hs : s.size ≤ 1000000) :
    Calls Tryz.prog 112 #[.string s, .int .i64 a] w fun e w' => e = .returned (.bool (isDg (bt s a))) ∧ w = w' := by
  by_cases hl : a < s.size
  · have u1 : decide (a < s.size) = true := decide_eq_true hl
    have u2 : decide ((a : Int) < (s.size : Int)) = true := decide_eq_true (by omega)
    have i1 : (a : Int) < (s.size : Int) := by omega
    have i2 : (0 : Int) ≤ (a : Int) := by omega
    have hx := bt_at s a hl
    by_cases h1 : 48 ≤ bt s a
    · have v1 : (48 : Int) ≤ (s[a].toNat : Int) := by omega
      have v1' : decide ((s[a].toNat : Int) ≥ 48) = true := decide_eq_true (by omega)
      by_cases h2 : bt s a ≤ 57
      · have v2 : (s[a].toNat : Int) ≤ 57 := by omega
        have HR := Lib.hid (isDg_iff.2 ⟨h1, h2⟩)
        generalize isDg (bt s a) = z at *
        clear hx h1 h2
        go_enter Tryz.func112, Tryz.ntmps112
        go_wp2_with fail
        go_ret
        exact ⟨by rw [HR.out] <;> rfl, rfl⟩
      · have v2 : ¬ (s[a].toNat : Int) ≤ 57 := by omega
        have HR := Lib.hid (isDg_no.2 (.inr (by omega : 57 < bt s a)))
        generalize isDg (bt s a) = z at *
        clear hx h1 h2
        go_enter Tryz.func112, Tryz.ntmps112
        go_wp2_with fail
        go_ret
        exact ⟨by rw [HR.out] <;> rfl, rfl⟩
    · have v1 : ¬ (48 : Int) ≤ (s[a].toNat : Int) := by omega
      have v1' : decide ((s[a].toNat : Int) ≥ 48) = false := decide_eq_false (by omega)
      have HR := Lib.hid (isDg_no.2 (.inl (by omega : bt s a < 48)))
      generalize isDg (bt s a) = z at *
      clear hx h1
      go_enter Tryz.func112, Tryz.ntmps112
      go_wp2_with fail
      go_ret
      exact ⟨by rw [HR.out] <;> rfl, rfl⟩
  · have u1 : decide (a < s.size) = false := decide_eq_false hl
    have u2 : decide ((a : Int) < (s.size : Int)) = false := decide_eq_false (by omega)
    have HX := Lib.hid (show isDg (bt s a) = false by rw [bt_end (by omega)]; rfl)
    generalize isDg (bt s a) = z at *
    go_enter Tryz.func112, Tryz.ntmps112
    go_wp2_with fail
    go_ret
    exact ⟨by rw [HX.out] <;> rfl, rfl⟩
theorem rdg_yes {s : ByteArray} {a : Nat} (h : isDg (bt s a) = true) (w : World) (hs : s.size ≤ 1000000) :
    Calls Tryz.prog 112 #[.string s, .int .i64 a] w fun e w' => e = .returned (.bool true) ∧ w = w' := by
  have := rdg_any s a w hs
  rwa [h] at this
theorem rdg_no {s : ByteArray} {a : Nat} (h : isDg (bt s a) = false) (w : World) (hs : s.size ≤ 1000000) :
    Calls Tryz.prog 112 #[.string s, .int .i64 a] w fun e w' => e = .returned (.bool false) ∧ w = w' := by
  have := rdg_any s a w hs
  rwa [h] at this
set_option maxRecDepth 100000 in
set_option maxHeartbeats 2000000 in
theorem rblanks_any (s : ByteArray) (a : Nat) (w : World) (hs : s.size ≤ 1000000) (ha : a ≤ 2000000) :
    Calls Tryz.prog 62 #[.string s, .int .i64 a] w fun e w' => e = .returned (.int .i64 (span isBl s a : Nat)) ∧ w = w' := by
  have hE : span isBl s a ≤ 2000000 := by
    rcases Nat.lt_or_ge a s.size with h | h
    · have := span_le isBl (s := s) (i := a) (by omega); omega
    · rw [span_end h]; exact ha
  go_enter Tryz.func62, Tryz.ntmps62
  go_wp2_with fail
  go_loop [1] (fun i => ∃ k : Nat, a ≤ k ∧ k ≤ span isBl s a ∧ i = .int .i64 k) (fun i => span isBl s a - (intOf i).toNat)
  case atStart => exact ⟨a, Nat.le_refl _, span_ge _ _ _, rfl⟩
  case round =>
    obtain ⟨k, h1, h2, rfl⟩ := hrel
    by_cases hlt : k < span isBl s a
    · have hd := isBl_iff.1 (span_in (p := isBl) h1 hlt)
      rcases hd with hd | hd | hd | hd
      · go_wp2_with fail
        refine (rb_yes (c := 32) (by omega) _ hs (by decide) (by decide)).mono ?_
        rintro e w2 ⟨rfl, rfl⟩
        go_wp2_with fail
        go_round
        case rel => exact ⟨k + 1, by omega, hlt, by go_num⟩
        case measure => simp [intOf]; omega
      · go_wp2_with fail
        refine (rb_no (c := 32) (by omega) _ hs (by decide) (by decide)).mono ?_
        rintro e w2 ⟨rfl, rfl⟩
        go_wp2_with fail
        refine (rb_yes (c := 9) (by omega) _ hs (by decide) (by decide)).mono ?_
        rintro e w2 ⟨rfl, rfl⟩
        go_wp2_with fail
        go_round
        case rel => exact ⟨k + 1, by omega, hlt, by go_num⟩
        case measure => simp [intOf]; omega
      · go_wp2_with fail
        refine (rb_no (c := 32) (by omega) _ hs (by decide) (by decide)).mono ?_
        rintro e w2 ⟨rfl, rfl⟩
        go_wp2_with fail
        refine (rb_no (c := 9) (by omega) _ hs (by decide) (by decide)).mono ?_
        rintro e w2 ⟨rfl, rfl⟩
        go_wp2_with fail
        refine (rb_yes (c := 10) (by omega) _ hs (by decide) (by decide)).mono ?_
        rintro e w2 ⟨rfl, rfl⟩
        go_wp2_with fail
        go_round
        case rel => exact ⟨k + 1, by omega, hlt, by go_num⟩
        case measure => simp [intOf]; omega
      · go_wp2_with fail
        refine (rb_no (c := 32) (by omega) _ hs (by decide) (by decide)).mono ?_
        rintro e w2 ⟨rfl, rfl⟩
        go_wp2_with fail
        refine (rb_no (c := 9) (by omega) _ hs (by decide) (by decide)).mono ?_
        rintro e w2 ⟨rfl, rfl⟩
        go_wp2_with fail
        refine (rb_no (c := 10) (by omega) _ hs (by decide) (by decide)).mono ?_
        rintro e w2 ⟨rfl, rfl⟩
        go_wp2_with fail
        refine (rb_yes (c := 13) (by omega) _ hs (by decide) (by decide)).mono ?_
        rintro e w2 ⟨rfl, rfl⟩
        go_wp2_with fail
        go_round
        case rel => exact ⟨k + 1, by omega, hlt, by go_num⟩
        case measure => simp [intOf]; omega
    · obtain hk : k = span isBl s a := by omega
      have ho : isBl (bt s k) = false := by
        rw [hk]
        rcases Nat.lt_or_ge (span isBl s a) s.size with h | h
        · exact span_out (p := isBl) h
        · rw [bt_end h]; rfl
      have hn : ¬ (bt s k = 32 ∨ bt s k = 9 ∨ bt s k = 10 ∨ bt s k = 13) := by rw [← isBl_iff, ho]; decide
      have HK := Lib.hid hk
      clear hk ho
      go_wp2_with fail
      refine (rb_no (c := 32) (by omega) _ hs (by decide) (by decide)).mono ?_
      rintro e w2 ⟨rfl, rfl⟩
      go_wp2_with fail
      refine (rb_no (c := 9) (by omega) _ hs (by decide) (by decide)).mono ?_
      rintro e w2 ⟨rfl, rfl⟩
      go_wp2_with fail
      refine (rb_no (c := 10) (by omega) _ hs (by decide) (by decide)).mono ?_
      rintro e w2 ⟨rfl, rfl⟩
      go_wp2_with fail
      refine (rb_no (c := 13) (by omega) _ hs (by decide) (by decide)).mono ?_
      rintro e w2 ⟨rfl, rfl⟩
      go_wp2_with fail
      go_ret
      exact ⟨by rw [← HK.out] <;> rfl, rfl⟩
end Go.Proofs.YtfiahpeajccinaaGreatDoor
namespace Go.Proofs.YtfiahpeajccinaaGreatDoor
open Go.RowKit
open Tk
open Pl
set_option linter.unusedVariables false

def smallB : ByteArray := ⟨#[48, 49, 50, 51, 52, 53, 54, 55, 56, 57, 97, 98, 99, 100, 101, 102]⟩
def greatB : ByteArray := ⟨#[48, 49, 50, 51, 52, 53, 54, 55, 56, 57, 65, 66, 67, 68, 69, 70]⟩
def smallN (k : Nat) : Nat := if k < 10 then 48 + k else 87 + k
def greatN (k : Nat) : Nat := if k < 10 then 48 + k else 55 + k
theorem small_at (k : Nat) (h : k < 16) (h' : k < smallB.size) : (smallB[k]'h').toNat = smallN k := by
  rcases (by omega : k = 0 ∨ k = 1 ∨ k = 2 ∨ k = 3 ∨ k = 4 ∨ k = 5 ∨ k = 6 ∨ k = 7 ∨ k = 8 ∨ k = 9 ∨ k = 10 ∨ k = 11 ∨ k = 12 ∨ k = 13 ∨ k = 14 ∨ k = 15) with rfl | rfl | rfl | rfl | rfl | rfl | rfl | rfl | rfl | rfl | rfl | rfl | rfl | rfl | rfl | rfl <;> rfl
theorem great_at (k : Nat) (h : k < 16) (h' : k < greatB.size) : (greatB[k]'h').toNat = greatN k := by
  rcases (by omega : k = 0 ∨ k = 1 ∨ k = 2 ∨ k = 3 ∨ k = 4 ∨ k = 5 ∨ k = 6 ∨ k = 7 ∨ k = 8 ∨ k = 9 ∨ k = 10 ∨ k = 11 ∨ k = 12 ∨ k = 13 ∨ k = 14 ∨ k = 15) with rfl | rfl | rfl | rfl | rfl | rfl | rfl | rfl | rfl | rfl | rfl | rfl | rfl | rfl | rfl | rfl <;> rfl
theorem small_bd (k : Nat) (h : k < 16) : 48 ≤ smallN k ∧ smallN k < 103 := by unfold smallN; split <;> omega
theorem great_bd (k : Nat) (h : k < 16) : 48 ≤ greatN k ∧ greatN k < 103 := by unfold greatN; split <;> omega
theorem hex_hit {c k : Nat} (h : k < 16) (hc : c = smallN k ∨ c = greatN k) : hexOf c = k := by
  unfold smallN greatN at hc
  unfold hexOf
  by_cases h1 : k < 10
  · simp only [h1, if_true] at hc
    rw [if_pos (by omega)]; omega
  · simp only [h1, if_false] at hc
    rw [if_neg (by omega)]
    rcases hc with hc | hc
    · rw [if_pos (by omega)]; omega
    · rw [if_neg (by omega), if_pos (by omega)]; omega
theorem hex_none {c : Nat} (h : ∀ j, j < 16 → c ≠ smallN j ∧ c ≠ greatN j) : hexOf c = -1 := by
  unfold hexOf
  by_cases h1 : 48 ≤ c ∧ c ≤ 57
  · have := (h (c - 48) (by omega)).1
    unfold smallN at this
    rw [if_pos (by omega)] at this
    omega
  · rw [if_neg h1]
    by_cases h2 : 97 ≤ c ∧ c ≤ 102
    · have := (h (c - 87) (by omega)).1
      unfold smallN at this
      rw [if_neg (by omega)] at this
      omega
    · rw [if_neg h2]
      by_cases h3 : 65 ≤ c ∧ c ≤ 70
      · have := (h (c - 55) (by omega)).2
        unfold greatN at this
        rw [if_neg (by omega)] at this
        omega
      · rw [if_neg h3]
set_option maxRecDepth 100000 in
set_option maxHeartbeats 2000000 in
theorem rhex_any (s : ByteArray) (a : Nat) (w : World) (hs : s.size ≤ 1000000) :
    Calls Tryz.prog 179 #[.string s, .int .i64 a] w fun e w' => e = .returned (.int .i64 (hexOf (bt s a))) ∧ w = w' := by
  go_enter Tryz.func179, Tryz.ntmps179
  go_wp2_with fail
  go_loop [7] (fun i => ∃ k : Nat, k ≤ 16 ∧ (∀ j, j < k → bt s a ≠ smallN j ∧ bt s a ≠ greatN j) ∧ i = .int .i64 k) (fun i => 16 - (intOf i).toNat)
  case atStart => exact ⟨0, by omega, fun j h => absurd h (by omega), rfl⟩
  case round =>
    obtain ⟨k, hk, hno, rfl⟩ := hrel
    by_cases hlt : k < 16
    · have t1 : (k : Int) < 16 := by omega
      have t2 : decide ((k : Int) < 16) = true := decide_eq_true t1
      have i2 : (0 : Int) ≤ (k : Int) := by omega
      have SA := Lib.hid (show ∀ h' : k < (⟨#[48, 49, 50, 51, 52, 53, 54, 55, 56, 57, 97, 98, 99, 100, 101, 102]⟩ : ByteArray).size, ((⟨#[48, 49, 50, 51, 52, 53, 54, 55, 56, 57, 97, 98, 99, 100, 101, 102]⟩ : ByteArray)[k]'h').toNat = smallN k from fun h' => small_at k hlt h')
      have GA := Lib.hid (show ∀ h' : k < (⟨#[48, 49, 50, 51, 52, 53, 54, 55, 56, 57, 65, 66, 67, 68, 69, 70]⟩ : ByteArray).size, ((⟨#[48, 49, 50, 51, 52, 53, 54, 55, 56, 57, 65, 66, 67, 68, 69, 70]⟩ : ByteArray)[k]'h').toNat = greatN k from fun h' => great_at k hlt h')
      have sb := small_bd k hlt
      have gb := great_bd k hlt
      by_cases h1 : bt s a = smallN k
      · have HR := Lib.hid (hex_hit hlt (.inl h1))
        have HS := Lib.hid h1
        clear h1 hno
        go_wp2_with fail
        refine (rb_yes (by have h2 := SA.out (by show k < 16; omega); have h3 := HS.out; omega) _ hs (by have h2 := SA.out (by show k < 16; omega); omega) (by have h2 := SA.out (by show k < 16; omega); omega)).mono ?_
        rintro e w2 ⟨rfl, rfl⟩
        go_wp2_with fail
        go_ret
        exact ⟨by rw [HR.out] <;> rfl, rfl⟩
      · by_cases h3 : bt s a = greatN k
        · have HR := Lib.hid (hex_hit hlt (.inr h3))
          have HS := Lib.hid h1
          have HG := Lib.hid h3
          clear h1 h3 hno
          go_wp2_with fail
          refine (rb_no (by have h2 := SA.out (by show k < 16; omega); have h3 := HS.out; omega) _ hs (by have h2 := SA.out (by show k < 16; omega); omega) (by have h2 := SA.out (by show k < 16; omega); omega)).mono ?_
          rintro e w2 ⟨rfl, rfl⟩
          go_wp2_with fail
          refine (rb_yes (by have h2 := GA.out (by show k < 16; omega); have h3 := HG.out; omega) _ hs (by have h2 := GA.out (by show k < 16; omega); omega) (by have h2 := GA.out (by show k < 16; omega); omega)).mono ?_
          rintro e w2 ⟨rfl, rfl⟩
          go_wp2_with fail
          go_ret
          exact ⟨by rw [HR.out] <;> rfl, rfl⟩
        · have HS := Lib.hid h1
          have HG := Lib.hid h3
          have HN := Lib.hid (show ∀ j, j < k + 1 → bt s a ≠ smallN j ∧ bt s a ≠ greatN j from fun j hj => by
            rcases Nat.lt_or_ge j k with h | h
            · exact hno j h
            · obtain rfl : j = k := by omega
              exact ⟨h1, h3⟩)
          clear h1 h3 hno
          go_wp2_with fail
          refine (rb_no (by have h2 := SA.out (by show k < 16; omega); have h3 := HS.out; omega) _ hs (by have h2 := SA.out (by show k < 16; omega); omega) (by have h2 := SA.out (by show k < 16; omega); omega)).mono ?_
          rintro e w2 ⟨rfl, rfl⟩
          go_wp2_with fail
          refine (rb_no (by have h2 := GA.out (by show k < 16; omega); have h3 := HG.out; omega) _ hs (by have h2 := GA.out (by show k < 16; omega); omega) (by have h2 := GA.out (by show k < 16; omega); omega)).mono ?_
          rintro e w2 ⟨rfl, rfl⟩
          go_wp2_with fail
          go_round
          case rel => exact ⟨k + 1, by omega, HN.out, by go_num⟩
          case measure => simp [intOf]; omega
    · obtain rfl : k = 16 := by omega
      have HR := Lib.hid (hex_none hno)
      clear hno
      go_wp2_with fail
      go_ret
      exact ⟨by rw [HR.out] <;> rfl, rfl⟩
set_option maxRecDepth 100000 in
set_option maxHeartbeats 2000000 in
theorem rfour_any (s : ByteArray) (a : Nat) (w : World) (hs : s.size ≤ 1000000) (ha : a ≤ 2000000) :
    Calls Tryz.prog 156 #[.string s, .int .i64 a] w fun e w' => e = .returned (.tuple #[.int .i64 (four s a).1, .int .i64 (four s a).2]) ∧ w = w' := by
  have HF := Lib.hid (show fourF s 4 a 0 = four s a from rfl)
  generalize four s a = fr at *
  go_enter Tryz.func156, Tryz.ntmps156
  go_wp2_with fail
  go_loop [1, 6, 7] (fun j i k => ∃ (n : Int) (r : Nat), r ≤ 4 ∧ 0 ≤ n ∧ n < 16 ^ r ∧ fourF s (4 - r) (a + r) n = fr ∧ i = .int .i64 n ∧ j = .int .i64 (a + r : Nat) ∧ k = .int .i64 r) (fun j i k => 4 - (intOf k).toNat)
  case atStart => exact ⟨0, 0, by omega, by omega, by decide, HF.out, rfl, rfl, rfl⟩
  case round =>
    obtain ⟨n, r, h1, h2, h3, h5, rfl, rfl, rfl⟩ := hrel
    by_cases hr : r < 4
    · have v0 : (r : Int) < 4 := by omega
      have h16 : (n + 1) * 16 ≤ 65536 := by
        have : r = 0 ∨ r = 1 ∨ r = 2 ∨ r = 3 := by omega
        rcases this with rfl | rfl | rfl | rfl <;> simp at h3 <;> omega
      obtain ⟨m, hm⟩ : ∃ m, 4 - r = m + 1 := ⟨3 - r, by omega⟩
      have hm2 : 4 - (r + 1) = m := by omega
      rw [hm] at h5
      generalize hq : a + r = q at *
      have hq1 : a + (r + 1) = q + 1 := by omega
      have hle := hexOf_le (bt s q)
      by_cases h0 : hexOf (bt s q) < 0
      · have HR := Lib.hid (show fr = (-1, q) by rw [fourF_no h0] at h5; exact h5.symm)
        have HX := Lib.hid (rhex_any s q)
        clear h5 HF h3
        generalize hexOf (bt s q) = z at *
        go_wp2_with fail
        refine (HX.out _ hs).mono ?_
        rintro e w2 ⟨rfl, rfl⟩
        go_wp2_with fail
        go_ret2
        exact ⟨by rw [HR.out] <;> rfl, rfl⟩
      · have h0' : 0 ≤ hexOf (bt s q) := by omega
        have HR := Lib.hid (show fourF s m (q + 1) (n * 16 + hexOf (bt s q)) = fr by rw [fourF_yes h0'] at h5; exact h5)
        have HP := Lib.hid (show n * 16 + hexOf (bt s q) < 16 ^ (r + 1) by rw [Int.pow_succ]; omega)
        have HX := Lib.hid (rhex_any s q)
        clear h5 HF h3
        generalize hexOf (bt s q) = z at *
        go_wp2_with fail
        refine (HX.out _ hs).mono ?_
        rintro e w2 ⟨rfl, rfl⟩
        go_wp2_with fail
        go_round
        case rel => exact ⟨n * 16 + z, r + 1, hr, by omega, HP.out, by rw [hm2, hq1]; exact HR.out, by go_num, by rw [hq1]; go_num, by go_num⟩
        case measure => simp [intOf]; omega
    · obtain rfl : r = 4 := by omega
      have HR := Lib.hid (show fr = (n, a + 4) by rw [← h5]; rfl)
      clear h5 HF h3
      go_wp2_with fail
      go_ret2
      exact ⟨by rw [HR.out] <;> rfl, rfl⟩
/-- the letters behind a backslash, and their points -/
def letN (k : Nat) : Nat := [34, 92, 47, 98, 102, 110, 114, 116].getD k 0
def ptN (k : Nat) : Int := [34, 92, 47, 8, 12, 10, 13, 9].getD k 0
def lettersB : ByteArray := ⟨#[34, 92, 47, 98, 102, 110, 114, 116]⟩
def pointsB : ByteArray := ⟨#[34, 92, 47, 8, 12, 10, 13, 9]⟩
theorem let_at (k : Nat) (h : k < 8) (h' : k < lettersB.size) : (lettersB[k]'h').toNat = letN k := by
  rcases (by omega : k = 0 ∨ k = 1 ∨ k = 2 ∨ k = 3 ∨ k = 4 ∨ k = 5 ∨ k = 6 ∨ k = 7) with rfl | rfl | rfl | rfl | rfl | rfl | rfl | rfl <;> rfl
theorem pt_at (k : Nat) (h : k < 8) (h' : k < pointsB.size) : wrap64 ((pointsB[k]'h').toNat : Int) = ptN k := by
  rcases (by omega : k = 0 ∨ k = 1 ∨ k = 2 ∨ k = 3 ∨ k = 4 ∨ k = 5 ∨ k = 6 ∨ k = 7) with rfl | rfl | rfl | rfl | rfl | rfl | rfl | rfl
  · exact (by unfold wrap64; decide : wrap64 ((pointsB[0]'(by decide)).toNat : Int) = ptN 0)
  · exact (by unfold wrap64; decide : wrap64 ((pointsB[1]'(by decide)).toNat : Int) = ptN 1)
  · exact (by unfold wrap64; decide : wrap64 ((pointsB[2]'(by decide)).toNat : Int) = ptN 2)
  · exact (by unfold wrap64; decide : wrap64 ((pointsB[3]'(by decide)).toNat : Int) = ptN 3)
  · exact (by unfold wrap64; decide : wrap64 ((pointsB[4]'(by decide)).toNat : Int) = ptN 4)
  · exact (by unfold wrap64; decide : wrap64 ((pointsB[5]'(by decide)).toNat : Int) = ptN 5)
  · exact (by unfold wrap64; decide : wrap64 ((pointsB[6]'(by decide)).toNat : Int) = ptN 6)
  · exact (by unfold wrap64; decide : wrap64 ((pointsB[7]'(by decide)).toNat : Int) = ptN 7)
theorem let_bd (k : Nat) (h : k < 8) : 0 < letN k ∧ letN k < 256 := by
  rcases (by omega : k = 0 ∨ k = 1 ∨ k = 2 ∨ k = 3 ∨ k = 4 ∨ k = 5 ∨ k = 6 ∨ k = 7) with rfl | rfl | rfl | rfl | rfl | rfl | rfl | rfl <;> decide
theorem short_hit {c k : Nat} (h : k < 8) (hc : c = letN k) : shortOf c = some (ptN k) := by
  rcases (by omega : k = 0 ∨ k = 1 ∨ k = 2 ∨ k = 3 ∨ k = 4 ∨ k = 5 ∨ k = 6 ∨ k = 7) with rfl | rfl | rfl | rfl | rfl | rfl | rfl | rfl <;> (subst hc; rfl)
theorem short_none {c : Nat} (h : ∀ j, j < 8 → c ≠ letN j) : shortOf c = none := by
  have h0 := h 0 (by omega); have h1 := h 1 (by omega); have h2 := h 2 (by omega); have h3 := h 3 (by omega)
  have h4 := h 4 (by omega); have h5 := h 5 (by omega); have h6 := h 6 (by omega); have h7 := h 7 (by omega)
  simp only [letN, List.getD_cons_zero, List.getD_cons_succ] at h0 h1 h2 h3 h4 h5 h6 h7
  unfold shortOf
  simp only [h0, h1, h2, h3, h4, h5, h6, h7, if_false]
theorem escCh_short {s : ByteArray} {p : Nat} {n : Int} (h : shortOf (bt s (p + 1)) = some n) : escCh s p = .pt n (p + 2) := by unfold escCh; rw [h]
theorem escCh_uni {s : ByteArray} {p : Nat} (h : shortOf (bt s (p + 1)) = none) (k : bt s (p + 1) = 117) : escCh s p = uniCh s p := by unfold escCh; rw [h]; exact if_pos k
theorem escCh_bad {s : ByteArray} {p : Nat} (h : shortOf (bt s (p + 1)) = none) (k : bt s (p + 1) ≠ 117) : escCh s p = .bad (p + 1) 1 := by unfold escCh; rw [h]; exact if_neg k
theorem uniCh_neg {s : ByteArray} {p : Nat} (h : (four s (p + 2)).1 < 0) : uniCh s p = .bad (four s (p + 2)).2 1 := by unfold uniCh; rw [if_pos h]
theorem uniCh_one {s : ByteArray} {p : Nat} (h : ¬ (four s (p + 2)).1 < 0) (k : pt (four s (p + 2)).1 = true) : uniCh s p = .pt (four s (p + 2)).1 (four s (p + 2)).2 := by unfold uniCh; rw [if_neg h, if_pos k]
theorem uniCh_pair {s : ByteArray} {p : Nat} (h : ¬ (four s (p + 2)).1 < 0) (k : pt (four s (p + 2)).1 = false) (h1 : (four s (p + 2)).1 < 56320) (h2 : bt s (p + 6) = 92) (h3 : bt s (p + 7) = 117) (h4 : 56320 ≤ (four s (p + 8)).1) (h5 : (four s (p + 8)).1 ≤ 57343) : uniCh s p = .pt (65536 + ((four s (p + 2)).1 - 55296) * 1024 + ((four s (p + 8)).1 - 56320)) (p + 12) := by
  unfold uniCh
  have hk : ¬ pt (four s (p + 2)).1 = true := by rw [k]; decide
  have hr : ¬ (0 ≤ (four s (p + 2)).1 ∧ (four s (p + 2)).1 < 55296) := fun h => hk ((pt_iff _).2 (.inl h))
  rw [if_neg h, if_neg hk, if_pos ⟨by simp only [isHigh, decide_eq_true_eq]; omega, h2, h3, by simp only [isLow, decide_eq_true_eq]; omega⟩]
theorem uniCh_lone {s : ByteArray} {p : Nat} (h : ¬ (four s (p + 2)).1 < 0) (k : pt (four s (p + 2)).1 = false) (h1 : ¬ (four s (p + 2)).1 < 56320 ∨ bt s (p + 6) ≠ 92 ∨ bt s (p + 7) ≠ 117 ∨ (four s (p + 8)).1 < 56320 ∨ 57343 < (four s (p + 8)).1) : uniCh s p = .bad p 3 := by
  unfold uniCh
  have hk : ¬ pt (four s (p + 2)).1 = true := by rw [k]; decide
  rw [if_neg h, if_neg hk, if_neg]
  rintro ⟨a, b, c, d⟩
  simp only [isHigh, isLow, decide_eq_true_eq] at a d
  rcases h1 with h1 | h1 | h1 | h1 | h1 <;> first | exact absurd b h1 | exact absurd c h1 | omega
end Go.Proofs.YtfiahpeajccinaaGreatDoor
namespace Go.Proofs.YtfiahpeajccinaaGreatDoor
open Go.RowKit
open Tk
open Pl
set_option linter.unusedVariables false

theorem is_eq {s : ByteArray} {a c : Nat} (h : bt s a = c) : (bt s a : Int) = (c : Int) := by rw [h]
theorem ris1_any (n : Int) (w : World) (b : Bool) (h : pt n = b) : Calls Tryz.prog 117 #[.int .i64 n] w fun e w' => e = .returned (.bool b) ∧ w = w' := by
  cases b with
  | true => exact ris_yes n w (by rw [isPt_pt]; exact h)
  | false => exact ris_no n w (by rw [isPt_pt]; exact h)
set_option maxRecDepth 100000 in
set_option maxHeartbeats 8000000 in
theorem resc_any (s : ByteArray) (a : Nat) (w : World) (hs : s.size ≤ 1000000) (ha : a ≤ 1000000) :
    Calls Tryz.prog 133 #[.string s, .int .i64 a] w fun e w' => e = .returned (escCh s a).val ∧ w = w' := by
  go_enter Tryz.func133, Tryz.ntmps133
  go_wp2_with fail
  go_loop [9] (fun i => ∃ k : Nat, k ≤ 8 ∧ (∀ j, j < k → bt s (a + 1) ≠ letN j) ∧ i = .int .i64 k) (fun i => 8 - (intOf i).toNat)
  case atStart => exact ⟨0, by omega, fun j h => absurd h (by omega), rfl⟩
  case round =>
    obtain ⟨k, hk, hno, rfl⟩ := hrel
    by_cases hlt : k < 8
    · have t1 : (k : Int) < 8 := by omega
      have t2 : decide ((k : Int) < 8) = true := decide_eq_true t1
      have i2 : (0 : Int) ≤ (k : Int) := by omega
      have LA := Lib.hid (show ∀ h' : k < (⟨#[34, 92, 47, 98, 102, 110, 114, 116]⟩ : ByteArray).size, ((⟨#[34, 92, 47, 98, 102, 110, 114, 116]⟩ : ByteArray)[k]'h').toNat = letN k from fun h' => let_at k hlt h')
      have PA := Lib.hid (show ∀ h' : k < (⟨#[34, 92, 47, 8, 12, 10, 13, 9]⟩ : ByteArray).size, wrap64 (((⟨#[34, 92, 47, 8, 12, 10, 13, 9]⟩ : ByteArray)[k]'h').toNat : Int) = ptN k from fun h' => pt_at k hlt h')
      have lb := let_bd k hlt
      by_cases h1 : bt s (a + 1) = letN k
      · have HR := Lib.hid (escCh_short (p := a) (short_hit hlt h1))
        have HS := Lib.hid h1
        clear h1 hno
        go_wp2_with fail
        refine (rb_yes (a := a + 1) (by have h2 := LA.out (by show k < 8; omega); have h3 := HS.out; omega) _ hs (by have h2 := LA.out (by show k < 8; omega); omega) (by have h2 := LA.out (by show k < 8; omega); omega)).mono ?_
        rintro e w2 ⟨rfl, rfl⟩
        go_wp2_with fail
        go_ret3
        exact ⟨by rw [HR.out]; exact sig_end (PA.out (by show k < 8; omega)) _ _, rfl⟩
      · have HS := Lib.hid h1
        have HN := Lib.hid (show ∀ j, j < k + 1 → bt s (a + 1) ≠ letN j from fun j hj => by
          rcases Nat.lt_or_ge j k with h | h
          · exact hno j h
          · obtain rfl : j = k := by omega
            exact h1)
        clear h1 hno
        go_wp2_with fail
        refine (rb_no (a := a + 1) (by have h2 := LA.out (by show k < 8; omega); have h3 := HS.out; omega) _ hs (by have h2 := LA.out (by show k < 8; omega); omega) (by have h2 := LA.out (by show k < 8; omega); omega)).mono ?_
        rintro e w2 ⟨rfl, rfl⟩
        go_wp2_with fail
        go_round
        case rel => exact ⟨k + 1, by omega, HN.out, by go_num⟩
        case measure => simp [intOf]; omega
    · obtain rfl : k = 8 := by omega
      have hsh := short_none hno
      clear hno
      by_cases hu : bt s (a + 1) = 117
      · have hesc := escCh_uni hsh hu
        have HX := Lib.hid (rfour_any s (a + 2))
        have HU := Lib.hid (is_eq hu)
        have hfr := four_range s (a + 2)
        by_cases hneg : (four s (a + 2)).1 < 0
        · have HR := Lib.hid (hesc.trans (uniCh_neg hneg))
          clear hsh hu hesc hfr
          generalize four s (a + 2) = fr at *
          go_wp2_with fail
          refine (rb_yes (a := a + 1) HU.out _ hs (by decide) (by decide)).mono ?_
          rintro e w2 ⟨rfl, rfl⟩
          go_wp2_with fail
          refine (HX.out _ hs (by omega)).mono ?_
          rintro e w2 ⟨rfl, rfl⟩
          go_wp2_with fail
          go_ret3
          exact ⟨by rw [HR.out]; rfl, rfl⟩
        · have hend : (four s (a + 2)).2 = a + 6 ∧ a + 6 ≤ s.size ∧ (four s (a + 2)).1 < 65536 := by
            rcases hfr with ⟨x, _⟩ | ⟨_, x, y, z⟩
            · omega
            · exact ⟨y, z, x⟩
          cases kp : pt (four s (a + 2)).1 with
          | true =>
            have HR := Lib.hid (hesc.trans (uniCh_one hneg kp))
            have HP := Lib.hid kp
            clear hsh hu hesc hfr kp hend
            generalize four s (a + 2) = fr at *
            go_wp2_with fail
            refine (rb_yes (a := a + 1) HU.out _ hs (by decide) (by decide)).mono ?_
            rintro e w2 ⟨rfl, rfl⟩
            go_wp2_with fail
            refine (HX.out _ hs (by omega)).mono ?_
            rintro e w2 ⟨rfl, rfl⟩
            go_wp2_with fail
            refine (ris1_any _ _ true HP.out).mono ?_
            rintro e w2 ⟨rfl, rfl⟩
            go_wp2_with fail
            go_ret3
            exact ⟨by rw [HR.out]; rfl, rfl⟩
          | false =>
            have HP := Lib.hid kp
            have HL := Lib.hid (fun h => hesc.trans (uniCh_lone hneg kp h))
            have HQ := Lib.hid (fun h1 h2 h3 h4 h5 => hesc.trans (uniCh_pair hneg kp h1 h2 h3 h4 h5))
            have HY := Lib.hid (rfour_any s (a + 8))
            have HE := Lib.hid hend.1
            have he1 := hend.2.1
            have he2 := hend.2.2
            clear hsh hu hesc hfr kp hend
            generalize four s (a + 2) = fr at *
            obtain ⟨n, q⟩ := fr
            obtain rfl : q = a + 6 := HE.out
            simp only at hneg he2
            by_cases c1 : n < 56320
            · by_cases c2 : bt s (a + 6) = 92
              · by_cases c3 : bt s (a + 7) = 117
                · have C2 := Lib.hid (is_eq c2)
                  have C3 := Lib.hid (is_eq c3)
                  by_cases c4 : 56320 ≤ (four s (a + 8)).1
                  · by_cases c5 : (four s (a + 8)).1 ≤ 57343
                    · have HR := Lib.hid (HQ.out c1 c2 c3 c4 c5)
                      have hb : (four s (a + 8)).2 = a + 12 := by
                        rcases four_range s (a + 8) with ⟨x, _⟩ | ⟨_, _, x, _⟩
                        · omega
                        · exact x
                      have HB := Lib.hid hb
                      clear hb c2 c3 HQ HL
                      generalize four s (a + 8) = lo at *
                      obtain ⟨m, p2⟩ := lo
                      obtain rfl : p2 = a + 12 := HB.out
                      simp only at c4 c5
                      go_wp2_with fail
                      refine (rb_yes (a := a + 1) HU.out _ hs (by decide) (by decide)).mono ?_
                      rintro e w2 ⟨rfl, rfl⟩
                      go_wp2_with fail
                      refine (HX.out _ hs (by omega)).mono ?_
                      rintro e w2 ⟨rfl, rfl⟩
                      go_wp2_with fail
                      refine (ris1_any _ _ false HP.out).mono ?_
                      rintro e w2 ⟨rfl, rfl⟩
                      go_wp2_with fail
                      refine (rb_yes (a := a + 6) C2.out _ hs (by decide) (by decide)).mono ?_
                      rintro e w2 ⟨rfl, rfl⟩
                      go_wp2_with fail
                      refine (rb_yes (a := a + 7) C3.out _ hs (by decide) (by decide)).mono ?_
                      rintro e w2 ⟨rfl, rfl⟩
                      go_wp2_with fail
                      refine (HY.out _ hs (by omega)).mono ?_
                      rintro e w2 ⟨rfl, rfl⟩
                      go_wp2_with fail
                      go_ret3
                      exact ⟨by rw [HR.out]; exact sig_end (by omega) _ _, rfl⟩
                    · have HR := Lib.hid (HL.out (.inr (.inr (.inr (.inr (by omega))))))
                      clear c2 c3 HQ HL
                      generalize four s (a + 8) = lo at *
                      obtain ⟨m, p2⟩ := lo
                      simp only at c4 c5
                      go_wp2_with fail
                      refine (rb_yes (a := a + 1) HU.out _ hs (by decide) (by decide)).mono ?_
                      rintro e w2 ⟨rfl, rfl⟩
                      go_wp2_with fail
                      refine (HX.out _ hs (by omega)).mono ?_
                      rintro e w2 ⟨rfl, rfl⟩
                      go_wp2_with fail
                      refine (ris1_any _ _ false HP.out).mono ?_
                      rintro e w2 ⟨rfl, rfl⟩
                      go_wp2_with fail
                      refine (rb_yes (a := a + 6) C2.out _ hs (by decide) (by decide)).mono ?_
                      rintro e w2 ⟨rfl, rfl⟩
                      go_wp2_with fail
                      refine (rb_yes (a := a + 7) C3.out _ hs (by decide) (by decide)).mono ?_
                      rintro e w2 ⟨rfl, rfl⟩
                      go_wp2_with fail
                      refine (HY.out _ hs (by omega)).mono ?_
                      rintro e w2 ⟨rfl, rfl⟩
                      go_wp2_with fail
                      go_ret3
                      exact ⟨by rw [HR.out]; rfl, rfl⟩
                  · have HR := Lib.hid (HL.out (.inr (.inr (.inr (.inl (by omega))))))
                    clear c2 c3 HQ HL
                    generalize four s (a + 8) = lo at *
                    obtain ⟨m, p2⟩ := lo
                    simp only at c4
                    go_wp2_with fail
                    refine (rb_yes (a := a + 1) HU.out _ hs (by decide) (by decide)).mono ?_
                    rintro e w2 ⟨rfl, rfl⟩
                    go_wp2_with fail
                    refine (HX.out _ hs (by omega)).mono ?_
                    rintro e w2 ⟨rfl, rfl⟩
                    go_wp2_with fail
                    refine (ris1_any _ _ false HP.out).mono ?_
                    rintro e w2 ⟨rfl, rfl⟩
                    go_wp2_with fail
                    refine (rb_yes (a := a + 6) C2.out _ hs (by decide) (by decide)).mono ?_
                    rintro e w2 ⟨rfl, rfl⟩
                    go_wp2_with fail
                    refine (rb_yes (a := a + 7) C3.out _ hs (by decide) (by decide)).mono ?_
                    rintro e w2 ⟨rfl, rfl⟩
                    go_wp2_with fail
                    refine (HY.out _ hs (by omega)).mono ?_
                    rintro e w2 ⟨rfl, rfl⟩
                    go_wp2_with fail
                    go_ret3
                    exact ⟨by rw [HR.out]; rfl, rfl⟩
                · have HR := Lib.hid (HL.out (.inr (.inr (.inl c3))))
                  have C2 := Lib.hid (is_eq c2)
                  have C3 := Lib.hid (show ¬ (bt s (a + 7) : Int) = 117 by omega)
                  clear c2 c3 HQ HL
                  go_wp2_with fail
                  refine (rb_yes (a := a + 1) HU.out _ hs (by decide) (by decide)).mono ?_
                  rintro e w2 ⟨rfl, rfl⟩
                  go_wp2_with fail
                  refine (HX.out _ hs (by omega)).mono ?_
                  rintro e w2 ⟨rfl, rfl⟩
                  go_wp2_with fail
                  refine (ris1_any _ _ false HP.out).mono ?_
                  rintro e w2 ⟨rfl, rfl⟩
                  go_wp2_with fail
                  refine (rb_yes (a := a + 6) C2.out _ hs (by decide) (by decide)).mono ?_
                  rintro e w2 ⟨rfl, rfl⟩
                  go_wp2_with fail
                  refine (rb_no (a := a + 7) C3.out _ hs (by decide) (by decide)).mono ?_
                  rintro e w2 ⟨rfl, rfl⟩
                  go_wp2_with fail
                  go_ret3
                  exact ⟨by rw [HR.out]; rfl, rfl⟩
              · have HR := Lib.hid (HL.out (.inr (.inl c2)))
                have C2 := Lib.hid (show ¬ (bt s (a + 6) : Int) = 92 by omega)
                clear c2 HQ HL
                go_wp2_with fail
                refine (rb_yes (a := a + 1) HU.out _ hs (by decide) (by decide)).mono ?_
                rintro e w2 ⟨rfl, rfl⟩
                go_wp2_with fail
                refine (HX.out _ hs (by omega)).mono ?_
                rintro e w2 ⟨rfl, rfl⟩
                go_wp2_with fail
                refine (ris1_any _ _ false HP.out).mono ?_
                rintro e w2 ⟨rfl, rfl⟩
                go_wp2_with fail
                refine (rb_no (a := a + 6) C2.out _ hs (by decide) (by decide)).mono ?_
                rintro e w2 ⟨rfl, rfl⟩
                go_wp2_with fail
                go_ret3
                exact ⟨by rw [HR.out]; rfl, rfl⟩
            · have HR := Lib.hid (HL.out (.inl c1))
              clear HQ HL
              go_wp2_with fail
              refine (rb_yes (a := a + 1) HU.out _ hs (by decide) (by decide)).mono ?_
              rintro e w2 ⟨rfl, rfl⟩
              go_wp2_with fail
              refine (HX.out _ hs (by omega)).mono ?_
              rintro e w2 ⟨rfl, rfl⟩
              go_wp2_with fail
              refine (ris1_any _ _ false HP.out).mono ?_
              rintro e w2 ⟨rfl, rfl⟩
              go_wp2_with fail
              go_ret3
              exact ⟨by rw [HR.out]; rfl, rfl⟩
      · have HR := Lib.hid (escCh_bad hsh hu)
        have HU := Lib.hid (show ¬ (bt s (a + 1) : Int) = 117 by omega)
        clear hsh hu
        go_wp2_with fail
        refine (rb_no (a := a + 1) HU.out _ hs (by decide) (by decide)).mono ?_
        rintro e w2 ⟨rfl, rfl⟩
        go_wp2_with fail
        go_ret3
        exact ⟨by rw [HR.out]; rfl, rfl⟩
end Go.Proofs.YtfiahpeajccinaaGreatDoor
namespace Go.Proofs.YtfiahpeajccinaaGreatDoor
open Go.RowKit
open Tk
open Pl
set_option linter.unusedVariables false

/-- what the reference's text answers: a row of points, or the error -/
def TextGives (r : St) (w : World) (e : Ending) (w' : World) : Prop :=
  (match r with
    | .pts l q => ∃ A c, e = .returned (.tuple #[.slice A l.length c, .int .i64 q, .int .i64 0]) ∧ Reads w' w'.heap.size A l
    | .bad p c => e = .returned (.tuple #[.slice none 0 0, .int .i64 p, .int .i64 c])) ∧ Below w.heap.size w w'
theorem chAt_low {s : ByteArray} {p : Nat} (h : s.size ≤ p ∨ bt s p < 32) : chAt s p = .bad p 1 := by unfold chAt; rw [if_pos h]
theorem chAt_back {s : ByteArray} {p : Nat} (h : p < s.size) (k : bt s p = 92) : chAt s p = escCh s p := by unfold chAt; rw [if_neg (by omega), if_pos k]
theorem chAt_raw2 {s : ByteArray} {p : Nat} (h : p < s.size) (h32 : ¬ bt s p < 32) (k : bt s p ≠ 92) : chAt s p = rawCh s p := by unfold chAt; rw [if_neg (by omega), if_neg k]
theorem str_short {s : ByteArray} {p : Nat} {acc : List Int} (hp : p ≤ s.size) (h : s.size ≤ p ∨ bt s p < 32) : str s p acc = .bad p 1 := by
  refine str_bad hp ?_ (chAt_low h)
  rcases h with h | h
  · rw [bt_end h]; decide
  · omega
theorem rawCh_ok {s : ByteArray} {p : Nat} (h : ok (s.data.toList.drop p) = true) : rawCh s p = .pt (decN (s.data.toList.drop p)) (p + (decL (s.data.toList.drop p)).2) := by
  unfold rawCh decN; rw [if_pos h, if_pos h]
theorem rawCh_no {s : ByteArray} {p : Nat} (h : ok (s.data.toList.drop p) = false) : rawCh s p = .bad p 2 := by
  unfold rawCh; rw [if_neg (by rw [h]; decide)]
set_option maxRecDepth 100000 in
set_option maxHeartbeats 8000000 in
theorem rtext5_any (s : ByteArray) (a : Nat) (w : World) (hs : s.size ≤ 900000) (ha : a < s.size) :
    Calls Tryz.prog 110 #[.string s, .int .i64 a] w (TextGives (str s (a + 1) []) w) := by
  obtain ⟨i0, hi, hz0, hz1, hz2⟩ := info_parts info3
  generalize hfr : str s (a + 1) [] = fr at *
  have HF := Lib.hid hfr
  clear hfr
  go_enter Tryz.func110, Tryz.ntmps110
  go_wp2_with fail
  go_loopw [1, 7] (fun i v wr => ∃ (p : Nat) (acc : List Int), p ≤ s.size ∧ acc.length ≤ p ∧ i = .int .i64 p ∧ str s p acc = fr ∧ wr.ownsRow w.heap.size 3 1 v acc.length (acc.map (Value.int .i64)) ∧ Below w.heap.size w wr) (fun i _ _ => s.size + 1 - (intOf i).toNat)
  case atStart => exact ⟨a + 1, [], ha, Nat.zero_le _, by go_num, HF.out, World.ownsRow_nil _ _ _ _, Below.refl _ _⟩
  case round =>
    obtain ⟨p, acc, hp, hacc, rfl, hstr, hown, hbel⟩ := hrel
    have Hown := Lib.hid hown
    have Hbel := Lib.hid hbel
    have Hstr := Lib.hid hstr
    have i2 : (0 : Int) ≤ (p : Int) := by omega
    clear hown hbel hstr HF
    by_cases hl : p < s.size
    · have u1 : decide (p < s.size) = true := decide_eq_true hl
      have g1 : decide ((p : Int) ≥ (s.size : Int)) = false := decide_eq_false (by omega)
      have g2 : decide ((s.size : Int) ≤ (p : Int)) = false := decide_eq_false (by omega)
      have g3 : ¬ (s.size : Int) ≤ (p : Int) := by omega
      have j1 : (p : Int) < (s.size : Int) := by omega
      have hx := bt_at s p hl
      by_cases h32 : bt s p < 32
      · have HR := Lib.hid (show fr = .bad p 1 from Hstr.out.symm.trans (str_short hp (.inr h32)))
        have v1 : (s[p].toNat : Int) < 32 := by omega
        clear hx h32 Hstr Hown
        go_wp2_with fail
        go_ret3
        exact ⟨by rw [HR.out] <;> rfl, Hbel.out⟩
      · have v1 : ¬ (s[p].toNat : Int) < 32 := by omega
        by_cases h34 : bt s p = 34
        · have HR := Lib.hid (show fr = .pts acc (p + 1) from Hstr.out.symm.trans (str_end hp h34))
          have v2 : (s[p].toNat : Int) = 34 := by omega
          have v3 : ((s[p].toNat : Int) == 34) = true := beq_iff_eq.2 v2
          obtain ⟨A, c, hv, hr⟩ := own_reads Hown.out
          have HA := Lib.hid hr
          subst hv
          clear hx h32 h34 Hstr Hown hr
          go_wp2_with fail
          go_ret3
          exact ⟨by rw [HR.out]; exact ⟨A, c, rfl, HA.out⟩, Hbel.out⟩
        · have v2 : ¬ (s[p].toNat : Int) = 34 := by omega
          have v3 : ((s[p].toNat : Int) == 34) = false := beq_eq_false_iff_ne.2 v2
          by_cases h92 : bt s p = 92
          · have v4 : (s[p].toNat : Int) = 92 := by omega
            have v5 : ((s[p].toNat : Int) == 92) = true := beq_iff_eq.2 v4
            have HX := Lib.hid (fun w => resc_any s p w (by omega) (by omega))
            have hch := chAt_back hl h92
            cases hc : escCh s p with
            | pt n e =>
              rw [hc] at hch HX
              have hst := (str_pt hp h34 hch).symm.trans Hstr.out
              have he := chAt_pt hch
              have he1 := he.2.1
              have he2 := he.2.2
              have HS := Lib.hid hst
              clear hx h32 h34 h92 Hstr hst hch hc he
              go_wp2_with fail
              refine (HX.out _).mono ?_
              rintro e0 w2 ⟨rfl, rfl⟩
              unfold Ch.val
              go_wp2_with (at_builtin; refine wpList_append_own _ rfl _ _ 83 rfl w.heap.size 3 i0 (.int .i64 0) 1 8 Tryz.underlying83 hi hz0 hz1 hz2 rfl (by decide) _ _ _ rfl (Hown.out.alloc _) ⟨wr.heap.size, 0, none⟩ 1 1 [.int .i64 n] rfl rfl ?c1 ?c2 ?c3 ?c4 ?c5 ?_)
              case c1 =>
                intro a u hu
                match a, hu with
                | 0, hu => simp at hu; subst hu; simp [Addr.add]
              case c2 => intro u hu; simp at hu; subst hu; rfl
              case c3 => unfold maxLen; omega
              case c4 => omega
              case c5 => have := Hbel.out.size; simp; omega
              · intro v' w3 hown3 hgrow _
                have Hbel3 := Lib.hid ((Hbel.out.alloc Hbel.out.size _).grown hgrow (by have := Hbel.out.size; simp; omega) (fun a ha => (Hown.out.lt a ha).1))
                have Hown3 := Lib.hid hown3
                clear hown3 hgrow
                go_wp2_with fail
                go_roundw
                case rel => exact ⟨e, acc ++ [n], he2, by rw [List.length_append, List.length_singleton]; omega, rfl, HS.out, by rw [List.length_append, List.map_append]; exact Hown3.out, Hbel3.out⟩
                case measure => simp [intOf]; omega
            | bad q c =>
              rw [hc] at hch HX
              have HR := Lib.hid (show fr = .bad q c from Hstr.out.symm.trans (str_bad hp h34 hch))
              have hcc : c ≠ 0 := by
                unfold escCh at hc
                split at hc
                · cases hc
                · split at hc
                  · unfold uniCh at hc
                    split at hc
                    · injection hc with _ hc; omega
                    · split at hc
                      · cases hc
                      · split at hc
                        · cases hc
                        · injection hc with _ hc; omega
                  · injection hc with _ hc; omega
              clear hx h32 h34 h92 Hstr hch hc Hown
              go_wp2_with fail
              refine (HX.out _).mono ?_
              rintro e0 w2 ⟨rfl, rfl⟩
              unfold Ch.val
              go_wp2_with fail
              go_ret3
              exact ⟨by rw [HR.out] <;> rfl, Hbel.out⟩
          · have v4 : ¬ (s[p].toNat : Int) = 92 := by omega
            have v5 : ((s[p].toNat : Int) == 92) = false := beq_eq_false_iff_ne.2 v4
            have hch := chAt_raw2 hl h32 h92
            have HX := Lib.hid (fun w => first_any s p w hl (by omega))
            cases hok : ok (s.data.toList.drop p) with
            | true =>
              have hch2 := hch.trans (rawCh_ok hok)
              have hst := (str_pt hp h34 hch2).symm.trans Hstr.out
              have he := chAt_pt hch2
              have he1 := he.2.1
              have he2 := he.2.2
              have HM := Lib.hid (decM_yes hok)
              have HS := Lib.hid hst
              clear hx h32 h34 h92 Hstr hst hch hch2 he hok
              generalize decN (s.data.toList.drop p) = n at *
              generalize decM (s.data.toList.drop p) = m at *
              generalize (decL (s.data.toList.drop p)).2 = k at *
              obtain rfl : m = (k : Int) := HM.out
              have v6 : ((k : Int) == 0) = false := by rw [beq_eq_false_iff_ne]; omega
              have v7 : ¬ (k : Int) = 0 := by omega
              go_wp2_with fail
              refine (HX.out _).mono ?_
              rintro e0 w2 ⟨rfl, hb2⟩
              have Hown2 := Lib.hid (World.ownsRow.kept Hown.out (w' := w2) (row := none) ⟨hb2.os, hb2.tape, hb2.output, hb2.size, fun a ha _ => hb2.block a ha⟩ (by cases u7 <;> simp [Value.ownBlock] <;> split <;> simp))
              have Hbel2 := Lib.hid (Hbel.out.trans (hb2.mono Hbel.out.size))
              clear hb2 Hown Hbel
              go_wp2_with (at_builtin; refine wpList_append_own _ rfl _ _ 83 rfl w.heap.size 3 i0 (.int .i64 0) 1 8 Tryz.underlying83 hi hz0 hz1 hz2 rfl (by decide) _ _ _ rfl (Hown2.out.alloc _) ⟨w2.heap.size, 0, none⟩ 1 1 [.int .i64 n] rfl rfl ?c1 ?c2 ?c3 ?c4 ?c5 ?_)
              case c1 =>
                intro a u hu
                match a, hu with
                | 0, hu => simp at hu; subst hu; simp [Addr.add]
              case c2 => intro u hu; simp at hu; subst hu; rfl
              case c3 => unfold maxLen; omega
              case c4 => omega
              case c5 => have := Hbel2.out.size; simp; omega
              · intro v' w3 hown3 hgrow _
                have Hbel3 := Lib.hid ((Hbel2.out.alloc Hbel2.out.size _).grown hgrow (by have := Hbel2.out.size; simp; omega) (fun a ha => (Hown2.out.lt a ha).1))
                have Hown3 := Lib.hid hown3
                clear hown3 hgrow
                go_wp2_with fail
                go_roundw
                case rel => exact ⟨p + k, acc ++ [n], he2, by rw [List.length_append, List.length_singleton]; omega, by go_num, HS.out, by rw [List.length_append, List.map_append]; exact Hown3.out, Hbel3.out⟩
                case measure => simp [intOf]; omega
            | false =>
              have HR := Lib.hid (show fr = .bad p 2 from Hstr.out.symm.trans (str_bad hp h34 (hch.trans (rawCh_no hok))))
              have HM := Lib.hid (decM_no hok)
              clear hx h32 h34 h92 Hstr hch hok Hown
              generalize decN (s.data.toList.drop p) = n at *
              generalize decM (s.data.toList.drop p) = m at *
              obtain rfl : m = 0 := HM.out
              go_wp2_with fail
              refine (HX.out _).mono ?_
              rintro e0 w2 ⟨rfl, hb2⟩
              have Hbel2 := Lib.hid (Hbel.out.trans (hb2.mono Hbel.out.size))
              clear hb2
              go_wp2_with fail
              go_ret3
              exact ⟨by rw [HR.out] <;> rfl, Hbel2.out⟩
    · obtain rfl : p = s.size := by omega
      have HR := Lib.hid (show fr = .bad s.size 1 from Hstr.out.symm.trans (str_short hp (.inl (Nat.le_refl _))))
      have u1 : decide (s.size < s.size) = false := decide_eq_false hl
      have g1 : decide ((s.size : Int) ≥ (s.size : Int)) = true := decide_eq_true (by omega)
      have g2 : decide ((s.size : Int) ≤ (s.size : Int)) = true := decide_eq_true (by omega)
      clear Hstr Hown
      go_wp2_with fail
      go_ret3
      exact ⟨by rw [HR.out] <;> rfl, Hbel.out⟩
end Go.Proofs.YtfiahpeajccinaaGreatDoor
namespace Go.Proofs.YtfiahpeajccinaaGreatDoor
open Go.RowKit
open Tk
open Pl
set_option linter.unusedVariables false

set_option maxRecDepth 100000 in
theorem rdigits_any (s : ByteArray) (a : Nat) (w : World) (hs : s.size ≤ 1000000) (h : isDg (bt s a) = true) :
    Calls Tryz.prog 134 #[.string s, .int .i64 a] w fun e w' => e = .returned (.int .i64 (span isDg s a : Nat)) ∧ w = w' := by
  have ha := lt_of_bt (s := s) (i := a) (fun e => by rw [e] at h; cases h)
  have HE := Lib.hid (span_le isDg (Nat.le_of_lt ha))
  have H0 := Lib.hid h
  clear h
  go_enter Tryz.func134, Tryz.ntmps134
  go_wp2_with fail
  refine (rdg_yes H0.out _ hs).mono ?_
  rintro e w2 ⟨rfl, rfl⟩
  go_wp2_with fail
  go_loop [1] (fun i => ∃ k : Nat, a ≤ k ∧ k ≤ span isDg s a ∧ i = .int .i64 k) (fun i => span isDg s a - (intOf i).toNat)
  case atStart => exact ⟨a, Nat.le_refl _, span_ge _ _ _, rfl⟩
  case round =>
    obtain ⟨k, h1, h2, rfl⟩ := hrel
    have hle := HE.out
    by_cases hlt : k < span isDg s a
    · have hd := Lib.hid (span_in (p := isDg) h1 hlt)
      go_wp2_with fail
      refine (rdg_yes hd.out _ hs).mono ?_
      rintro e w2 ⟨rfl, rfl⟩
      go_wp2_with fail
      go_round
      case rel => exact ⟨k + 1, by omega, hlt, by go_num⟩
      case measure => simp [intOf]; omega
    · have hk : k = span isDg s a := by omega
      have ho : isDg (bt s k) = false := by
        rw [hk]
        rcases Nat.lt_or_ge (span isDg s a) s.size with h | h
        · exact span_out (p := isDg) h
        · rw [bt_end h]; rfl
      have HK := Lib.hid hk
      have HO := Lib.hid ho
      clear hk ho
      go_wp2_with fail
      refine (rdg_no HO.out _ hs).mono ?_
      rintro e w2 ⟨rfl, rfl⟩
      go_wp2_with fail
      go_ret
      exact ⟨by rw [← HK.out] <;> rfl, rfl⟩
/-- the reference's number: the place, whether it is plain, whether it is one -/
def Tk.numR (s : ByteArray) (a : Nat) : Nat × Bool × Bool :=
  if intB s a = false then (intE s a, false, false)
  else if fracB s (intE s a) = false then (fracE s (intE s a), false, false)
  else if expB s (fracE s (intE s a)) = false then (expE s (fracE s (intE s a)), false, false)
  else (expE s (fracE s (intE s a)), !(bt s (intE s a) == 46) && !isE (bt s (fracE s (intE s a))), true)
theorem numR_1 {s : ByteArray} {a : Nat} (h : intB s a = false) : numR s a = (intE s a, false, false) := by unfold numR; rw [if_pos h]
theorem numR_2 {s : ByteArray} {a : Nat} (h : intB s a = true) (h2 : fracB s (intE s a) = false) : numR s a = (fracE s (intE s a), false, false) := by unfold numR; rw [if_neg (by rw [h]; decide), if_pos h2]
theorem numR_3 {s : ByteArray} {a : Nat} (h : intB s a = true) (h2 : fracB s (intE s a) = true) (h3 : expB s (fracE s (intE s a)) = false) : numR s a = (expE s (fracE s (intE s a)), false, false) := by unfold numR; rw [if_neg (by rw [h]; decide), if_neg (by rw [h2]; decide), if_pos h3]
theorem numR_4 {s : ByteArray} {a : Nat} (h : intB s a = true) (h2 : fracB s (intE s a) = true) (h3 : expB s (fracE s (intE s a)) = true) : numR s a = (expE s (fracE s (intE s a)), !(bt s (intE s a) == 46) && !isE (bt s (fracE s (intE s a))), true) := by unfold numR; rw [if_neg (by rw [h]; decide), if_neg (by rw [h2]; decide), if_neg (by rw [h3]; decide)]
theorem isE_cases {c : Nat} (h : isE c = true) : c = 101 ∨ c = 69 := by unfold isE at h; simpa using h
theorem isE_none {c : Nat} (h : isE c = false) : c ≠ 101 ∧ c ≠ 69 := by unfold isE at h; simpa using h
theorem isSg_cases (c : Nat) : (c = 43 ∧ isSg c = true) ∨ (c = 45 ∧ isSg c = true) ∨ (c ≠ 43 ∧ c ≠ 45 ∧ isSg c = false) := by
  unfold isSg
  by_cases h : c = 43
  · left; exact ⟨h, by simp [h]⟩
  · by_cases h2 : c = 45
    · right; left; exact ⟨h2, by simp [h2]⟩
    · right; right; exact ⟨h, h2, by simp [h, h2]⟩
theorem nb {s : ByteArray} {a : Nat} {k : Nat} (h : bt s a ≠ k) : ¬ (bt s a : Int) = (k : Int) := fun e => h (by omega)
set_option maxRecDepth 100000 in
set_option maxHeartbeats 8000000 in
theorem rnumber_any (s : ByteArray) (a : Nat) (w : World) (hs : s.size ≤ 90000) (ha : a ≤ s.size) :
    Calls Tryz.prog 113 #[.string s, .int .i64 a] w fun e w' => e = .returned (.tuple #[.int .i64 (numR s a).1, .bool (numR s a).2.1, .bool (numR s a).2.2]) ∧ w = w' := by
  have hs2 : s.size ≤ 1000000 := by omega
  have h1 := intE_le ha
  have h2 := fracE_le h1
  have HN1 := Lib.hid (fun h => numR_1 (s := s) (a := a) h)
  have HN2 := Lib.hid (fun h h2 => numR_2 (s := s) (a := a) h h2)
  have HN3 := Lib.hid (fun h h2 h3 => numR_3 (s := s) (a := a) h h2 h3)
  have HN4 := Lib.hid (fun h h2 h3 => numR_4 (s := s) (a := a) h h2 h3)
  generalize hR : numR s a = R at *
  have HSG := Lib.hid (show signE s a = (if bt s a = 45 then a + 1 else a) from rfl)
  have HIE := Lib.hid (show intE s a = (if bt s (signE s a) = 48 then signE s a + 1 else span isDg s (signE s a)) from rfl)
  have HIB := Lib.hid (show intB s a = isDg (bt s (signE s a)) from rfl)
  have HFE := Lib.hid (show fracE s (intE s a) = (if bt s (intE s a) = 46 then span isDg s (intE s a + 1) else intE s a) from rfl)
  have HFB := Lib.hid (show fracB s (intE s a) = (!(bt s (intE s a) == 46) || isDg (bt s (intE s a + 1))) from rfl)
  have HXE := Lib.hid (show expE s (fracE s (intE s a)) = (if isE (bt s (fracE s (intE s a))) = true then span isDg s (expS s (fracE s (intE s a))) else fracE s (intE s a)) from rfl)
  have HXB := Lib.hid (show expB s (fracE s (intE s a)) = (!isE (bt s (fracE s (intE s a))) || isDg (bt s (expS s (fracE s (intE s a))))) from rfl)
  have HXS := Lib.hid (show expS s (fracE s (intE s a)) = (if isSg (bt s (fracE s (intE s a) + 1)) = true then fracE s (intE s a) + 2 else fracE s (intE s a) + 1) from rfl)
  have hf := signE_le ha
  clear hR
  generalize expS s (fracE s (intE s a)) = XS at *
  generalize expE s (fracE s (intE s a)) = XE at *
  generalize expB s (fracE s (intE s a)) = XB at *
  generalize fracE s (intE s a) = F at *
  generalize fracB s (intE s a) = FB at *
  generalize intE s a = I at *
  generalize intB s a = IB at *
  generalize signE s a = f at *
  go_enter Tryz.func113, Tryz.ntmps113
  go_wp2_with fail
  refine (rb_any s a 45 _ hs2 (by decide) (by decide)).mono ?_
  rintro e w2 ⟨rfl, rfl⟩
  have HB := Lib.hid (show ((bt s a : Int) == 45) = (bt s a == 45) by rw [Bool.eq_iff_iff, beq_iff_eq, beq_iff_eq]; omega)
  rw [HB.out]
  go_upto_if 10 with fail
  go_cut [1] from 8 (fun x wy => x = .int .i64 (f : Nat) ∧ wy = w)
  case first =>
    by_cases h : bt s a = 45
    · have HE := Lib.hid (HSG.out.trans (if_pos h))
      have hb : (bt s a == 45) = true := beq_iff_eq.2 h
      clear h
      go_wp2_with fail
      go_meet
      exact ⟨by rw [HE.out]; rfl, rfl⟩
    · have HE := Lib.hid (HSG.out.trans (if_neg h))
      have hb : (bt s a == 45) = false := beq_eq_false_iff_ne.2 h
      clear h
      go_wp2_with fail
      go_meet
      exact ⟨by rw [HE.out], rfl⟩
  case rest =>
    obtain ⟨rfl, rfl⟩ := hcut
    cases hib : IB with
    | false =>
      have HD := Lib.hid (HIB.out.symm.trans hib)
      have HE := Lib.hid (HN1.out hib)
      have HI2 := Lib.hid (show I = f by
        have h9 : isDg (bt s f) = false := HIB.out.symm.trans hib
        rw [HIE.out, if_neg (fun e => by rw [e] at h9; cases h9), span_no h9])
      clear hib
      go_wp2_with fail
      refine (rdg_no HD.out _ hs2).mono ?_
      rintro e w2 ⟨rfl, rfl⟩
      go_wp2_with fail
      go_ret3
      exact ⟨by rw [HE.out, HI2.out] <;> rfl, rfl⟩
    | true =>
      have HD := Lib.hid (HIB.out.symm.trans hib)
      have HIT := Lib.hid hib
      have hfl : f < s.size := lt_of_bt (fun e => by have := HD.out; rw [e] at this; cases this)
      clear hib
      go_wp2_with fail
      refine (rdg_yes HD.out _ hs2).mono ?_
      rintro e w2 ⟨rfl, rfl⟩
      have HX0 := Lib.hid (bt_at s f hfl)
      have u1 : (f : Int) < (s.size : Int) := by omega
      have u2 : (0 : Int) ≤ (f : Int) := by omega
      obtain ⟨wb, rfl⟩ : ∃ wb : World, wb = wc := ⟨_, rfl⟩
      go_upto_if 21 with fail
      go_cut [1] from 8 (fun x wy => x = .int .i64 (I : Nat) ∧ wy = wb)
      case first =>
        by_cases h : bt s f = 48
        · have HE := Lib.hid (HIE.out.trans (if_pos h))
          have v1 : (s[f].toNat : Int) = 48 := by have := HX0.out; omega
          have v2 : ((s[f].toNat : Int) == 48) = true := beq_iff_eq.2 v1
          clear h
          go_wp2_with fail
          go_meet
          exact ⟨by rw [HE.out]; rfl, rfl⟩
        · have HE := Lib.hid (HIE.out.trans (if_neg h))
          have v1 : ¬ (s[f].toNat : Int) = 48 := by have := HX0.out; omega
          have v2 : ((s[f].toNat : Int) == 48) = false := beq_eq_false_iff_ne.2 v1
          clear h
          go_wp2_with fail
          refine (rdigits_any s f _ hs2 HD.out).mono ?_
          rintro e w2 ⟨rfl, rfl⟩
          go_wp2_with fail
          go_meet
          exact ⟨by rw [HE.out], rfl⟩
      case rest =>
        obtain ⟨rfl, rfl⟩ := hcut
        clear u1 u2
        go_wp2_with fail
        refine (rb_any s I 46 _ hs2 (by decide) (by decide)).mono ?_
        rintro e w2 ⟨rfl, rfl⟩
        have HB := Lib.hid (show ((bt s I : Int) == 46) = (bt s I == 46) by rw [Bool.eq_iff_iff, beq_iff_eq, beq_iff_eq]; omega)
        rw [HB.out]
        obtain ⟨wd, rfl⟩ : ∃ wd : World, wd = wc := ⟨_, rfl⟩
        go_upto_if 29 with fail
        go_cut [1, 7] from 8 (fun x y wy => x = .int .i64 (F : Nat) ∧ y = .bool (!(bt s I == 46)) ∧ FB = true ∧ wy = wd)
        case first =>
          by_cases h : bt s I = 46
          · have hb : (bt s I == 46) = true := beq_iff_eq.2 h
            cases hd : isDg (bt s (I + 1)) with
            | true =>
              have HE := Lib.hid (HFE.out.trans (if_pos h))
              have HF1 := Lib.hid (show FB = true by rw [HFB.out, hd]; simp)
              have HY := Lib.hid (show (!(bt s I == 46)) = false by rw [h]; rfl)
              have HDD := Lib.hid hd
              clear h hd
              go_wp2_with fail
              refine (rdg_yes (a := I + 1) HDD.out _ hs2).mono ?_
              rintro e w2 ⟨rfl, rfl⟩
              go_wp2_with fail
              refine (rdigits_any s (I + 1) _ hs2 HDD.out).mono ?_
              rintro e w2 ⟨rfl, rfl⟩
              go_wp2_with fail
              go_meet
              exact ⟨by rw [HE.out], by rw [HY.out], HF1.out, rfl⟩
            | false =>
              have HE := Lib.hid (HN2.out HIT.out (by rw [HFB.out, hd, h]; rfl))
              have HE2 := Lib.hid (show F = I + 1 by rw [HFE.out, if_pos h, span_no hd])
              have HDD := Lib.hid hd
              clear h hd
              go_wp2_with fail
              refine (rdg_no (a := I + 1) HDD.out _ hs2).mono ?_
              rintro e w2 ⟨rfl, rfl⟩
              go_wp2_with fail
              go_ret3
              exact ⟨by rw [HE.out, HE2.out] <;> rfl, rfl⟩
          · have hb : (bt s I == 46) = false := beq_eq_false_iff_ne.2 h
            have HE := Lib.hid (HFE.out.trans (if_neg h))
            have HF1 := Lib.hid (show FB = true by rw [HFB.out, beq_eq_false_iff_ne.2 h]; rfl)
            have HY := Lib.hid (show (!(bt s I == 46)) = true by rw [beq_eq_false_iff_ne.2 h]; rfl)
            clear h
            go_wp2_with fail
            go_meet
            exact ⟨by rw [HE.out], by rw [HY.out], HF1.out, rfl⟩
        case rest =>
          obtain ⟨rfl, rfl, hfb, rfl⟩ := hcut
          have HFT := Lib.hid hfb
          clear hfb
          generalize (!(bt s I == 46)) = PL at *
          cases hE : isE (bt s F) with
          | false =>
            have hnn := isE_none hE
            have HB1 := Lib.hid (nb hnn.1)
            have HB2 := Lib.hid (nb hnn.2)
            have HE := Lib.hid (HN4.out HIT.out HFT.out (by rw [HXB.out, hE]; rfl))
            have HE2 := Lib.hid (show XE = F by rw [HXE.out, hE]; rfl)
            have HE3 := Lib.hid (show (PL && !isE (bt s F)) = PL by rw [hE]; simp)
            clear hE hnn
            go_wp2_with fail
            refine (rb_no (c := 101) HB1.out _ hs2 (by decide) (by decide)).mono ?_
            rintro e w2 ⟨rfl, rfl⟩
            go_wp2_with fail
            refine (rb_no (c := 69) HB2.out _ hs2 (by decide) (by decide)).mono ?_
            rintro e w2 ⟨rfl, rfl⟩
            go_wp2_with fail
            go_ret3
            exact ⟨by rw [HE.out, HE2.out, HE3.out] <;> rfl, rfl⟩
          | true =>
            have HET := Lib.hid hE
            rcases isE_cases hE with hc | hc
            · clear hE
              have HB1 := Lib.hid (show (bt s F : Int) = 101 by rw [hc]; rfl)
              clear hc
              rcases isSg_cases (bt s (F + 1)) with ⟨hs1, hs3⟩ | ⟨hs1, hs3⟩ | ⟨hs1, hs4, hs3⟩
              · have HXT := Lib.hid (show XS = F + 2 by rw [HXS.out, hs3]; rfl)
                have HS1 := Lib.hid (show (bt s (F + 1) : Int) = 43 by rw [hs1]; rfl)
                clear hs1 hs3
                cases hd : isDg (bt s (F + 2)) with
                | true =>
                  have HDD := Lib.hid hd
                  have HE := Lib.hid (HN4.out HIT.out HFT.out (by rw [HXB.out, HXT.out, hd]; simp))
                  have HE2 := Lib.hid (show XE = span isDg s (F + 2) by rw [HXE.out, HET.out, HXT.out]; rfl)
                  have HE3 := Lib.hid (show (PL && !isE (bt s F)) = false by rw [HET.out]; simp)
                  clear hd
                  go_wp2_with fail
                  refine (rb_yes (c := 101) HB1.out _ hs2 (by decide) (by decide)).mono ?_
                  rintro e w2 ⟨rfl, rfl⟩
                  go_wp2_with fail
                  refine (rb_yes (a := F + 1) (c := 43) HS1.out _ hs2 (by decide) (by decide)).mono ?_
                  rintro e w2 ⟨rfl, rfl⟩
                  go_wp2_with fail
                  refine (rdg_yes (a := F + 2) HDD.out _ hs2).mono ?_
                  rintro e w2 ⟨rfl, rfl⟩
                  go_wp2_with fail
                  refine (rdigits_any s (F + 2) _ hs2 HDD.out).mono ?_
                  rintro e w2 ⟨rfl, rfl⟩
                  go_wp2_with fail
                  go_ret3
                  exact ⟨by rw [HE.out, HE2.out, HE3.out] <;> rfl, rfl⟩
                | false =>
                  have HDD := Lib.hid hd
                  have HE := Lib.hid (HN3.out HIT.out HFT.out (by rw [HXB.out, HXT.out, hd, HET.out]; rfl))
                  have HE2 := Lib.hid (show XE = F + 2 by rw [HXE.out, HET.out, HXT.out, if_pos rfl, span_no hd])
                  clear hd
                  go_wp2_with fail
                  refine (rb_yes (c := 101) HB1.out _ hs2 (by decide) (by decide)).mono ?_
                  rintro e w2 ⟨rfl, rfl⟩
                  go_wp2_with fail
                  refine (rb_yes (a := F + 1) (c := 43) HS1.out _ hs2 (by decide) (by decide)).mono ?_
                  rintro e w2 ⟨rfl, rfl⟩
                  go_wp2_with fail
                  refine (rdg_no (a := F + 2) HDD.out _ hs2).mono ?_
                  rintro e w2 ⟨rfl, rfl⟩
                  go_wp2_with fail
                  go_ret3
                  exact ⟨by rw [HE.out, HE2.out] <;> rfl, rfl⟩
              · have HXT := Lib.hid (show XS = F + 2 by rw [HXS.out, hs3]; rfl)
                have HS1 := Lib.hid (show (bt s (F + 1) : Int) = 45 by rw [hs1]; rfl)
                have HS0 := Lib.hid (show ¬ (bt s (F + 1) : Int) = 43 by rw [hs1]; decide)
                clear hs1 hs3
                cases hd : isDg (bt s (F + 2)) with
                | true =>
                  have HDD := Lib.hid hd
                  have HE := Lib.hid (HN4.out HIT.out HFT.out (by rw [HXB.out, HXT.out, hd]; simp))
                  have HE2 := Lib.hid (show XE = span isDg s (F + 2) by rw [HXE.out, HET.out, HXT.out]; rfl)
                  have HE3 := Lib.hid (show (PL && !isE (bt s F)) = false by rw [HET.out]; simp)
                  clear hd
                  go_wp2_with fail
                  refine (rb_yes (c := 101) HB1.out _ hs2 (by decide) (by decide)).mono ?_
                  rintro e w2 ⟨rfl, rfl⟩
                  go_wp2_with fail
                  refine (rb_no (a := F + 1) (c := 43) HS0.out _ hs2 (by decide) (by decide)).mono ?_
                  rintro e w2 ⟨rfl, rfl⟩
                  go_wp2_with fail
                  refine (rb_yes (a := F + 1) (c := 45) HS1.out _ hs2 (by decide) (by decide)).mono ?_
                  rintro e w2 ⟨rfl, rfl⟩
                  go_wp2_with fail
                  refine (rdg_yes (a := F + 2) HDD.out _ hs2).mono ?_
                  rintro e w2 ⟨rfl, rfl⟩
                  go_wp2_with fail
                  refine (rdigits_any s (F + 2) _ hs2 HDD.out).mono ?_
                  rintro e w2 ⟨rfl, rfl⟩
                  go_wp2_with fail
                  go_ret3
                  exact ⟨by rw [HE.out, HE2.out, HE3.out] <;> rfl, rfl⟩
                | false =>
                  have HDD := Lib.hid hd
                  have HE := Lib.hid (HN3.out HIT.out HFT.out (by rw [HXB.out, HXT.out, hd, HET.out]; rfl))
                  have HE2 := Lib.hid (show XE = F + 2 by rw [HXE.out, HET.out, HXT.out, if_pos rfl, span_no hd])
                  clear hd
                  go_wp2_with fail
                  refine (rb_yes (c := 101) HB1.out _ hs2 (by decide) (by decide)).mono ?_
                  rintro e w2 ⟨rfl, rfl⟩
                  go_wp2_with fail
                  refine (rb_no (a := F + 1) (c := 43) HS0.out _ hs2 (by decide) (by decide)).mono ?_
                  rintro e w2 ⟨rfl, rfl⟩
                  go_wp2_with fail
                  refine (rb_yes (a := F + 1) (c := 45) HS1.out _ hs2 (by decide) (by decide)).mono ?_
                  rintro e w2 ⟨rfl, rfl⟩
                  go_wp2_with fail
                  refine (rdg_no (a := F + 2) HDD.out _ hs2).mono ?_
                  rintro e w2 ⟨rfl, rfl⟩
                  go_wp2_with fail
                  go_ret3
                  exact ⟨by rw [HE.out, HE2.out] <;> rfl, rfl⟩
              · have HXT := Lib.hid (show XS = F + 1 by rw [HXS.out, hs3]; rfl)
                have HS1 := Lib.hid (nb hs1)
                have HS2 := Lib.hid (nb hs4)
                clear hs1 hs3 hs4
                cases hd : isDg (bt s (F + 1)) with
                | true =>
                  have HDD := Lib.hid hd
                  have HE := Lib.hid (HN4.out HIT.out HFT.out (by rw [HXB.out, HXT.out, hd]; simp))
                  have HE2 := Lib.hid (show XE = span isDg s (F + 1) by rw [HXE.out, HET.out, HXT.out]; rfl)
                  have HE3 := Lib.hid (show (PL && !isE (bt s F)) = false by rw [HET.out]; simp)
                  clear hd
                  go_wp2_with fail
                  refine (rb_yes (c := 101) HB1.out _ hs2 (by decide) (by decide)).mono ?_
                  rintro e w2 ⟨rfl, rfl⟩
                  go_wp2_with fail
                  refine (rb_no (a := F + 1) (c := 43) HS1.out _ hs2 (by decide) (by decide)).mono ?_
                  rintro e w2 ⟨rfl, rfl⟩
                  go_wp2_with fail
                  refine (rb_no (a := F + 1) (c := 45) HS2.out _ hs2 (by decide) (by decide)).mono ?_
                  rintro e w2 ⟨rfl, rfl⟩
                  go_wp2_with fail
                  refine (rdg_yes (a := F + 1) HDD.out _ hs2).mono ?_
                  rintro e w2 ⟨rfl, rfl⟩
                  go_wp2_with fail
                  refine (rdigits_any s (F + 1) _ hs2 HDD.out).mono ?_
                  rintro e w2 ⟨rfl, rfl⟩
                  go_wp2_with fail
                  go_ret3
                  exact ⟨by rw [HE.out, HE2.out, HE3.out] <;> rfl, rfl⟩
                | false =>
                  have HDD := Lib.hid hd
                  have HE := Lib.hid (HN3.out HIT.out HFT.out (by rw [HXB.out, HXT.out, hd, HET.out]; rfl))
                  have HE2 := Lib.hid (show XE = F + 1 by rw [HXE.out, HET.out, HXT.out, if_pos rfl, span_no hd])
                  clear hd
                  go_wp2_with fail
                  refine (rb_yes (c := 101) HB1.out _ hs2 (by decide) (by decide)).mono ?_
                  rintro e w2 ⟨rfl, rfl⟩
                  go_wp2_with fail
                  refine (rb_no (a := F + 1) (c := 43) HS1.out _ hs2 (by decide) (by decide)).mono ?_
                  rintro e w2 ⟨rfl, rfl⟩
                  go_wp2_with fail
                  refine (rb_no (a := F + 1) (c := 45) HS2.out _ hs2 (by decide) (by decide)).mono ?_
                  rintro e w2 ⟨rfl, rfl⟩
                  go_wp2_with fail
                  refine (rdg_no (a := F + 1) HDD.out _ hs2).mono ?_
                  rintro e w2 ⟨rfl, rfl⟩
                  go_wp2_with fail
                  go_ret3
                  exact ⟨by rw [HE.out, HE2.out] <;> rfl, rfl⟩
            · clear hE
              have HB1 := Lib.hid (show (bt s F : Int) = 69 by rw [hc]; rfl)
              have HB0 := Lib.hid (show ¬ (bt s F : Int) = 101 by rw [hc]; decide)
              clear hc
              rcases isSg_cases (bt s (F + 1)) with ⟨hs1, hs3⟩ | ⟨hs1, hs3⟩ | ⟨hs1, hs4, hs3⟩
              · have HXT := Lib.hid (show XS = F + 2 by rw [HXS.out, hs3]; rfl)
                have HS1 := Lib.hid (show (bt s (F + 1) : Int) = 43 by rw [hs1]; rfl)
                clear hs1 hs3
                cases hd : isDg (bt s (F + 2)) with
                | true =>
                  have HDD := Lib.hid hd
                  have HE := Lib.hid (HN4.out HIT.out HFT.out (by rw [HXB.out, HXT.out, hd]; simp))
                  have HE2 := Lib.hid (show XE = span isDg s (F + 2) by rw [HXE.out, HET.out, HXT.out]; rfl)
                  have HE3 := Lib.hid (show (PL && !isE (bt s F)) = false by rw [HET.out]; simp)
                  clear hd
                  go_wp2_with fail
                  refine (rb_no (c := 101) HB0.out _ hs2 (by decide) (by decide)).mono ?_
                  rintro e w2 ⟨rfl, rfl⟩
                  go_wp2_with fail
                  refine (rb_yes (c := 69) HB1.out _ hs2 (by decide) (by decide)).mono ?_
                  rintro e w2 ⟨rfl, rfl⟩
                  go_wp2_with fail
                  refine (rb_yes (a := F + 1) (c := 43) HS1.out _ hs2 (by decide) (by decide)).mono ?_
                  rintro e w2 ⟨rfl, rfl⟩
                  go_wp2_with fail
                  refine (rdg_yes (a := F + 2) HDD.out _ hs2).mono ?_
                  rintro e w2 ⟨rfl, rfl⟩
                  go_wp2_with fail
                  refine (rdigits_any s (F + 2) _ hs2 HDD.out).mono ?_
                  rintro e w2 ⟨rfl, rfl⟩
                  go_wp2_with fail
                  go_ret3
                  exact ⟨by rw [HE.out, HE2.out, HE3.out] <;> rfl, rfl⟩
                | false =>
                  have HDD := Lib.hid hd
                  have HE := Lib.hid (HN3.out HIT.out HFT.out (by rw [HXB.out, HXT.out, hd, HET.out]; rfl))
                  have HE2 := Lib.hid (show XE = F + 2 by rw [HXE.out, HET.out, HXT.out, if_pos rfl, span_no hd])
                  clear hd
                  go_wp2_with fail
                  refine (rb_no (c := 101) HB0.out _ hs2 (by decide) (by decide)).mono ?_
                  rintro e w2 ⟨rfl, rfl⟩
                  go_wp2_with fail
                  refine (rb_yes (c := 69) HB1.out _ hs2 (by decide) (by decide)).mono ?_
                  rintro e w2 ⟨rfl, rfl⟩
                  go_wp2_with fail
                  refine (rb_yes (a := F + 1) (c := 43) HS1.out _ hs2 (by decide) (by decide)).mono ?_
                  rintro e w2 ⟨rfl, rfl⟩
                  go_wp2_with fail
                  refine (rdg_no (a := F + 2) HDD.out _ hs2).mono ?_
                  rintro e w2 ⟨rfl, rfl⟩
                  go_wp2_with fail
                  go_ret3
                  exact ⟨by rw [HE.out, HE2.out] <;> rfl, rfl⟩
              · have HXT := Lib.hid (show XS = F + 2 by rw [HXS.out, hs3]; rfl)
                have HS1 := Lib.hid (show (bt s (F + 1) : Int) = 45 by rw [hs1]; rfl)
                have HS0 := Lib.hid (show ¬ (bt s (F + 1) : Int) = 43 by rw [hs1]; decide)
                clear hs1 hs3
                cases hd : isDg (bt s (F + 2)) with
                | true =>
                  have HDD := Lib.hid hd
                  have HE := Lib.hid (HN4.out HIT.out HFT.out (by rw [HXB.out, HXT.out, hd]; simp))
                  have HE2 := Lib.hid (show XE = span isDg s (F + 2) by rw [HXE.out, HET.out, HXT.out]; rfl)
                  have HE3 := Lib.hid (show (PL && !isE (bt s F)) = false by rw [HET.out]; simp)
                  clear hd
                  go_wp2_with fail
                  refine (rb_no (c := 101) HB0.out _ hs2 (by decide) (by decide)).mono ?_
                  rintro e w2 ⟨rfl, rfl⟩
                  go_wp2_with fail
                  refine (rb_yes (c := 69) HB1.out _ hs2 (by decide) (by decide)).mono ?_
                  rintro e w2 ⟨rfl, rfl⟩
                  go_wp2_with fail
                  refine (rb_no (a := F + 1) (c := 43) HS0.out _ hs2 (by decide) (by decide)).mono ?_
                  rintro e w2 ⟨rfl, rfl⟩
                  go_wp2_with fail
                  refine (rb_yes (a := F + 1) (c := 45) HS1.out _ hs2 (by decide) (by decide)).mono ?_
                  rintro e w2 ⟨rfl, rfl⟩
                  go_wp2_with fail
                  refine (rdg_yes (a := F + 2) HDD.out _ hs2).mono ?_
                  rintro e w2 ⟨rfl, rfl⟩
                  go_wp2_with fail
                  refine (rdigits_any s (F + 2) _ hs2 HDD.out).mono ?_
                  rintro e w2 ⟨rfl, rfl⟩
                  go_wp2_with fail
                  go_ret3
                  exact ⟨by rw [HE.out, HE2.out, HE3.out] <;> rfl, rfl⟩
                | false =>
                  have HDD := Lib.hid hd
                  have HE := Lib.hid (HN3.out HIT.out HFT.out (by rw [HXB.out, HXT.out, hd, HET.out]; rfl))
                  have HE2 := Lib.hid (show XE = F + 2 by rw [HXE.out, HET.out, HXT.out, if_pos rfl, span_no hd])
                  clear hd
                  go_wp2_with fail
                  refine (rb_no (c := 101) HB0.out _ hs2 (by decide) (by decide)).mono ?_
                  rintro e w2 ⟨rfl, rfl⟩
                  go_wp2_with fail
                  refine (rb_yes (c := 69) HB1.out _ hs2 (by decide) (by decide)).mono ?_
                  rintro e w2 ⟨rfl, rfl⟩
                  go_wp2_with fail
                  refine (rb_no (a := F + 1) (c := 43) HS0.out _ hs2 (by decide) (by decide)).mono ?_
                  rintro e w2 ⟨rfl, rfl⟩
                  go_wp2_with fail
                  refine (rb_yes (a := F + 1) (c := 45) HS1.out _ hs2 (by decide) (by decide)).mono ?_
                  rintro e w2 ⟨rfl, rfl⟩
                  go_wp2_with fail
                  refine (rdg_no (a := F + 2) HDD.out _ hs2).mono ?_
                  rintro e w2 ⟨rfl, rfl⟩
                  go_wp2_with fail
                  go_ret3
                  exact ⟨by rw [HE.out, HE2.out] <;> rfl, rfl⟩
              · have HXT := Lib.hid (show XS = F + 1 by rw [HXS.out, hs3]; rfl)
                have HS1 := Lib.hid (nb hs1)
                have HS2 := Lib.hid (nb hs4)
                clear hs1 hs3 hs4
                cases hd : isDg (bt s (F + 1)) with
                | true =>
                  have HDD := Lib.hid hd
                  have HE := Lib.hid (HN4.out HIT.out HFT.out (by rw [HXB.out, HXT.out, hd]; simp))
                  have HE2 := Lib.hid (show XE = span isDg s (F + 1) by rw [HXE.out, HET.out, HXT.out]; rfl)
                  have HE3 := Lib.hid (show (PL && !isE (bt s F)) = false by rw [HET.out]; simp)
                  clear hd
                  go_wp2_with fail
                  refine (rb_no (c := 101) HB0.out _ hs2 (by decide) (by decide)).mono ?_
                  rintro e w2 ⟨rfl, rfl⟩
                  go_wp2_with fail
                  refine (rb_yes (c := 69) HB1.out _ hs2 (by decide) (by decide)).mono ?_
                  rintro e w2 ⟨rfl, rfl⟩
                  go_wp2_with fail
                  refine (rb_no (a := F + 1) (c := 43) HS1.out _ hs2 (by decide) (by decide)).mono ?_
                  rintro e w2 ⟨rfl, rfl⟩
                  go_wp2_with fail
                  refine (rb_no (a := F + 1) (c := 45) HS2.out _ hs2 (by decide) (by decide)).mono ?_
                  rintro e w2 ⟨rfl, rfl⟩
                  go_wp2_with fail
                  refine (rdg_yes (a := F + 1) HDD.out _ hs2).mono ?_
                  rintro e w2 ⟨rfl, rfl⟩
                  go_wp2_with fail
                  refine (rdigits_any s (F + 1) _ hs2 HDD.out).mono ?_
                  rintro e w2 ⟨rfl, rfl⟩
                  go_wp2_with fail
                  go_ret3
                  exact ⟨by rw [HE.out, HE2.out, HE3.out] <;> rfl, rfl⟩
                | false =>
                  have HDD := Lib.hid hd
                  have HE := Lib.hid (HN3.out HIT.out HFT.out (by rw [HXB.out, HXT.out, hd, HET.out]; rfl))
                  have HE2 := Lib.hid (show XE = F + 1 by rw [HXE.out, HET.out, HXT.out, if_pos rfl, span_no hd])
                  clear hd
                  go_wp2_with fail
                  refine (rb_no (c := 101) HB0.out _ hs2 (by decide) (by decide)).mono ?_
                  rintro e w2 ⟨rfl, rfl⟩
                  go_wp2_with fail
                  refine (rb_yes (c := 69) HB1.out _ hs2 (by decide) (by decide)).mono ?_
                  rintro e w2 ⟨rfl, rfl⟩
                  go_wp2_with fail
                  refine (rb_no (a := F + 1) (c := 43) HS1.out _ hs2 (by decide) (by decide)).mono ?_
                  rintro e w2 ⟨rfl, rfl⟩
                  go_wp2_with fail
                  refine (rb_no (a := F + 1) (c := 45) HS2.out _ hs2 (by decide) (by decide)).mono ?_
                  rintro e w2 ⟨rfl, rfl⟩
                  go_wp2_with fail
                  refine (rdg_no (a := F + 1) HDD.out _ hs2).mono ?_
                  rintro e w2 ⟨rfl, rfl⟩
                  go_wp2_with fail
                  go_ret3
                  exact ⟨by rw [HE.out, HE2.out] <;> rfl, rfl⟩
end Go.Proofs.YtfiahpeajccinaaGreatDoor
