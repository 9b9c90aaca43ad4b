/- Plain mathematics of quotients of integers of 64 bits. -/
import Derived.WalkKit
namespace Go.Proofs.YtgiapdmoiaiofaaDoor
open Go.RowKit

/-- an integer of 64 bits -/
def In64 (n : Int) : Prop := -9223372036854775808 ≤ n ∧ n ≤ 9223372036854775807

theorem tdiv_abs (a b : Int) : (a.tdiv b).natAbs ≤ a.natAbs := by
  rw [Int.natAbs_tdiv]; exact Nat.div_le_self _ _
theorem tdiv_in (a b : Int) (ha : In64 a) (hb : b ≠ -1) : In64 (a.tdiv b) := by
  unfold In64 at *
  have h1 := tdiv_abs a b
  by_cases h0 : a = -9223372036854775808
  · by_cases hb1 : b = 1
    · subst hb1; rw [Int.tdiv_one]; omega
    · by_cases hb0 : b = 0
      · subst hb0; rw [Int.tdiv_zero]; omega
      · have h2 : (a.tdiv b).natAbs ≤ a.natAbs / 2 := by
          rw [Int.natAbs_tdiv]
          exact Nat.div_le_div_left (by omega) (by omega)
        omega
  · omega
/-- what a quotient leaves -/
theorem tmod_eq (a b : Int) : a.tmod b = a - b * a.tdiv b := by have := Int.mul_tdiv_add_tmod a b; omega
theorem tmod_small (a b : Int) (hb : b ≠ 0) : (a.tmod b).natAbs < b.natAbs := by
  rw [Int.natAbs_tmod]; exact Nat.mod_lt _ (by omega)
theorem tmod_abs (a b : Int) : (a.tmod b).natAbs ≤ a.natAbs := by
  rw [Int.natAbs_tmod]; exact Nat.mod_le _ _
theorem tmod_side (a b : Int) : (0 ≤ a → 0 ≤ a.tmod b) ∧ (a ≤ 0 → a.tmod b ≤ 0) := by
  constructor
  · intro h; exact Int.tmod_nonneg _ h
  · intro h
    have h1 := Int.neg_tmod a b
    have h2 := Int.tmod_nonneg b (a := -a) (by omega)
    omega
theorem tmod_in (a b : Int) (ha : In64 a) : In64 (a.tmod b) := by
  unfold In64 at *
  have h1 := tmod_abs a b
  have h2 := tmod_side a b
  rcases (by omega : 0 ≤ a ∨ a ≤ 0) with h | h
  · have := h2.1 h; omega
  · have := h2.2 h; omega

/-- a product of 64 bits, divided again, is what was multiplied just if it fits -/
theorem mul_back (a b : Int) (hb : b ≠ 0) (h : In64 (a * b)) : (wrap64 (a * b)).tdiv b = a := by
  unfold In64 at h
  have : wrap64 (a * b) = a * b := by unfold wrap64; omega
  rw [this, Int.mul_tdiv_cancel _ hb]
theorem mul_lost (a b : Int) (hb : b ≠ 0) (hi : In64 b) (h : ¬ In64 (a * b)) : (wrap64 (a * b)).tdiv b ≠ a := by
  intro e
  unfold In64 at *
  have h1 := Int.mul_tdiv_add_tmod (wrap64 (a * b)) b
  have h2 := tmod_small (wrap64 (a * b)) b hb
  rw [e, Int.mul_comm b a] at h1
  generalize (wrap64 (a * b)).tmod b = r at *
  unfold wrap64 at h1
  generalize a * b = p at *
  omega
end Go.Proofs.YtgiapdmoiaiofaaDoor
