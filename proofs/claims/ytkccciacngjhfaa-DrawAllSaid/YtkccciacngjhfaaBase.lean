/- Contracts of the program's and the reference's small functions of layer 1 that use no memory: Is (both), isHalf, Pair, Halves, and the fixed fact 'awake'. -/
import Derived.Test.YtkccciacngjhfaaRows
import Derived.WalkKit
namespace Go.Proofs.Ytkccciacngjhfaa
open Go.RowKit

/-- A point: a number from 0 to 0x10FFFF that is no half. -/
def isPt (n : Int) : Bool := decide ((0 ≤ n ∧ n < 55296) ∨ (57343 < n ∧ n ≤ 1114111))

theorem isPt_iff (n : Int) : isPt n = true ↔ ((0 ≤ n ∧ n < 55296) ∨ (57343 < n ∧ n ≤ 1114111)) := by simp [isPt]
theorem isPt_not (n : Int) : isPt n = false ↔ (n < 0 ∨ (55296 ≤ n ∧ n ≤ 57343) ∨ 1114111 < n) := by
  rw [← Bool.not_eq_true, isPt_iff]; omega

theorem ret_int {k : IntKind} {a b : Int} (h : a = b) : Ending.returned (.int k a) = .returned (.int k b) := by rw [h]
theorem ret_bool {a b : Bool} (h : a = b) : Ending.returned (.bool a) = .returned (.bool b) := by rw [h]

def half (n f : Int) : Bool := decide (f ≤ n ∧ n < f + 1024)
theorem half_iff (n f : Int) : half n f = true ↔ f ≤ n ∧ n < f + 1024 := by simp [half]
theorem half_not (n f : Int) : half n f = false ↔ n < f ∨ f + 1024 ≤ n := by
  rw [← Bool.not_eq_true, half_iff]; omega
end Go.Proofs.Ytkccciacngjhfaa
