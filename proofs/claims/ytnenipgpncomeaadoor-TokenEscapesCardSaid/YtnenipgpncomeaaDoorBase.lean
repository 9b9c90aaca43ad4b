/- Contracts of the program's and the reference's small functions of layer 1 that use no memory: Is (both), isHalf, Pair, Halves, and the fixed fact 'awake'. -/
import Derived.Test.YtnenipgpncomeaaDoorRows
import Derived.WalkKit
namespace Go.Proofs.YtnenipgpncomeaaDoor
open Go.RowKit

/-- A point: a number from 0 to 0x10FFFF that is no half. -/
def isPt (n : Int) : Bool := decide ((0 ≤ n ∧ n < 55296) ∨ (57343 < n ∧ n ≤ 1114111))

theorem isPt_iff (n : Int) : isPt n = true ↔ ((0 ≤ n ∧ n < 55296) ∨ (57343 < n ∧ n ≤ 1114111)) := by simp [isPt]
theorem isPt_not (n : Int) : isPt n = false ↔ (n < 0 ∨ (55296 ≤ n ∧ n ≤ 57343) ∨ 1114111 < n) := by
  rw [← Bool.not_eq_true, isPt_iff]; omega

theorem ret_int {k : IntKind} {a b : Int} (h : a = b) : Ending.returned (.int k a) = .returned (.int k b) := by rw [h]
theorem ret_bool {a b : Bool} (h : a = b) : Ending.returned (.bool a) = .returned (.bool b) := by rw [h]

theorem gis_yes (n : Int) (w : World) (h : isPt n = true) : Calls Tryd.prog 59 #[.int .i64 n] w fun e w' => e = .returned (.bool true) ∧ w = w' := by
  rcases (isPt_iff n).1 h with ⟨h1, h2⟩ | ⟨h1, h2⟩ <;> clear h
  all_goals
    go_enter Tryd.func59, Tryd.ntmps59
    go_wp2
    all_goals go_ret
    all_goals exact ⟨ret_bool (by simp <;> omega), rfl⟩
theorem gis_no (n : Int) (w : World) (h : isPt n = false) : Calls Tryd.prog 59 #[.int .i64 n] w fun e w' => e = .returned (.bool false) ∧ w = w' := by
  rcases (isPt_not n).1 h with h1 | ⟨h1, h2⟩ | h1 <;> clear h
  all_goals
    go_enter Tryd.func59, Tryd.ntmps59
    go_wp2
    all_goals go_ret
    all_goals exact ⟨ret_bool (by simp <;> omega), rfl⟩
theorem ris_yes (n : Int) (w : World) (h : isPt n = true) : Calls Tryd.prog 13 #[.int .i64 n] w fun e w' => e = .returned (.bool true) ∧ w = w' := by
  rcases (isPt_iff n).1 h with ⟨h1, h2⟩ | ⟨h1, h2⟩ <;> clear h
  all_goals
    go_enter Tryd.func13, Tryd.ntmps13
    go_wp2
    all_goals go_ret
    all_goals exact ⟨ret_bool (by simp <;> omega), rfl⟩
theorem ris_no (n : Int) (w : World) (h : isPt n = false) : Calls Tryd.prog 13 #[.int .i64 n] w fun e w' => e = .returned (.bool false) ∧ w = w' := by
  rcases (isPt_not n).1 h with h1 | ⟨h1, h2⟩ | h1 <;> clear h
  all_goals
    go_enter Tryd.func13, Tryd.ntmps13
    go_wp2
    all_goals go_ret
    all_goals exact ⟨ret_bool (by simp <;> omega), rfl⟩

def half (n f : Int) : Bool := decide (f ≤ n ∧ n < f + 1024)
theorem half_any (n f : Int) (w : World) (h0 : 0 ≤ f) (h1 : f ≤ 65536) : Calls Tryd.prog 74 #[.int .i64 n, .int .i64 f] w fun e w' => e = .returned (.bool (half n f)) ∧ w = w' := by
  unfold half
  by_cases a : f ≤ n
  · by_cases b : n < f + 1024
    · go_enter Tryd.func74, Tryd.ntmps74
      go_wp2
      go_ret
      exact ⟨ret_bool (by simp <;> omega), rfl⟩
    · go_enter Tryd.func74, Tryd.ntmps74
      go_wp2
      go_ret
      exact ⟨ret_bool (by simp <;> omega), rfl⟩
  · go_enter Tryd.func74, Tryd.ntmps74
    go_wp2
    go_ret
    exact ⟨ret_bool (by simp <;> omega), rfl⟩

theorem half_iff (n f : Int) : half n f = true ↔ f ≤ n ∧ n < f + 1024 := by simp [half]
theorem half_not (n f : Int) : half n f = false ↔ n < f ∨ f + 1024 ≤ n := by
  rw [← Bool.not_eq_true, half_iff]; omega
theorem half_yes (n f : Int) (w : World) (h0 : 0 ≤ f) (h1 : f ≤ 65536) (h : half n f = true) : Calls Tryd.prog 74 #[.int .i64 n, .int .i64 f] w fun e w' => e = .returned (.bool true) ∧ w = w' := by
  rw [← h]; exact half_any n f w h0 h1
theorem half_no (n f : Int) (w : World) (h0 : 0 ≤ f) (h1 : f ≤ 65536) (h : half n f = false) : Calls Tryd.prog 74 #[.int .i64 n, .int .i64 f] w fun e w' => e = .returned (.bool false) ∧ w = w' := by
  rw [← h]; exact half_any n f w h0 h1

theorem pair_yes (a b : Int) (w : World) (ha : 55296 ≤ a ∧ a < 56320) (hb : 56320 ≤ b ∧ b < 57344) : Calls Tryd.prog 60 #[.int .i64 a, .int .i64 b] w fun e w' => e = .returned (.int .i64 (65536 + (a - 55296) * 1024 + (b - 56320))) ∧ w = w' := by
  have h1 : half a 55296 = true := (half_iff _ _).2 (by omega)
  have h2 : half b 56320 = true := (half_iff _ _).2 (by omega)
  obtain ⟨a1, a2⟩ := ha
  obtain ⟨b1, b2⟩ := hb
  go_enter Tryd.func60, Tryd.ntmps60
  go_wp2_with fail
  refine (half_yes a 55296 _ (by omega) (by omega) h1).mono ?_
  rintro e w' ⟨rfl, rfl⟩
  go_wp2_with fail
  refine (half_yes b 56320 _ (by omega) (by omega) h2).mono ?_
  rintro e w' ⟨rfl, rfl⟩
  go_wp2_with fail
  go_ret
  exact ⟨rfl, rfl⟩
theorem pair_no (a b : Int) (w : World) (h : ¬ ((55296 ≤ a ∧ a < 56320) ∧ (56320 ≤ b ∧ b < 57344))) : Calls Tryd.prog 60 #[.int .i64 a, .int .i64 b] w fun e w' => e = .returned (.int .i64 (-1)) ∧ w = w' := by
  cases h1 : half a 55296 with
  | false =>
    go_enter Tryd.func60, Tryd.ntmps60
    go_wp2_with fail
    refine (half_no a 55296 _ (by omega) (by omega) h1).mono ?_
    rintro e w' ⟨rfl, rfl⟩
    go_wp2_with fail
    go_ret
    exact ⟨rfl, rfl⟩
  | true =>
    have h2 : half b 56320 = false := by
      rw [half_iff] at h1
      rw [half_not]
      omega
    clear h
    go_enter Tryd.func60, Tryd.ntmps60
    go_wp2_with fail
    refine (half_yes a 55296 _ (by omega) (by omega) h1).mono ?_
    rintro e w' ⟨rfl, rfl⟩
    go_wp2_with fail
    refine (half_no b 56320 _ (by omega) (by omega) h2).mono ?_
    rintro e w' ⟨rfl, rfl⟩
    go_wp2_with fail
    go_ret
    exact ⟨rfl, rfl⟩

end Go.Proofs.YtnenipgpncomeaaDoor
