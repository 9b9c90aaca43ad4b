/- Contracts of the reference's less and clean. -/
import Derived.Test.YtnenipgpncomeaaDoorMem
import Derived.Deep.RegionHeld3
import Derived.Deep.DrawnRows
namespace Go.Proofs.YtnenipgpncomeaaDoor.W2
open Go.RowKit
open Fg
attribute [local go_sem ↓] Go.wp_at_zero Go.wp_at_succ

def lessB (l m : List Int) : Bool := if l.length = m.length then decide (val l < val m) else decide (l.length < m.length)
theorem lessB_ne {l m : List Int} (h : l.length ≠ m.length) : lessB l m = decide (l.length < m.length) := if_neg h
theorem lessB_eq {l m : List Int} (h : l.length = m.length) : lessB l m = decide (val l < val m) := if_pos h

/-- a size with its sign -/
def sgn (b : Bool) (n : Int) : Int := if b = true then -n else n
theorem sgn_true (n : Int) : sgn true n = -n := rfl
theorem sgn_false (n : Int) : sgn false n = n := rfl
theorem nz_mk {w : World} {B : Nat} {A : Option Addr} {l : List Int} {b : Bool} {k c : Nat} (hd : dig l) (hk : k ≤ l.length) (hz : k = 0 ∨ l.getD (k - 1) 0 ≠ 0) (hv : val (l.take k) = val l) (hc : l.length ≤ c) (hr : Reads w B A l) :
    Nz w B (.agg #[.bool (b && decide (0 < k)), .slice A k c]) (sgn b (val l)) := by
  have h1 := strip_end hd hk hz hv
  have h0 := (val_bd hd).1
  have e : (sgn b (val l)).natAbs = (val l).toNat := by cases b <;> simp only [sgn_true, sgn_false] <;> omega
  have h2 : (figs (sgn b (val l)).natAbs).length = k := by rw [e, ← h1, List.length_take]; omega
  refine ⟨A, c, ?_, by omega, by rw [e, ← h1]; exact hr.take k⟩
  rw [h2]
  have h3 : 0 < k ↔ 0 < val l := by
    constructor
    · intro hp
      rcases (by omega : val l = 0 ∨ 0 < val l) with h4 | h4
      · rw [h4, Int.toNat_zero, figs_zero] at h1
        have := congrArg List.length h1
        rw [List.length_take, List.length_nil] at this
        omega
      · exact h4
    · intro hp
      rcases Nat.eq_zero_or_pos k with rfl | h4
      · rw [List.take_zero, val] at hv; omega
      · exact h4
  have h5 : (b && decide (0 < k)) = decide (sgn b (val l) < 0) := by
    cases b
    · simp only [Bool.false_and, sgn_false]; exact (decide_eq_false (by omega)).symm
    · simp only [Bool.true_and, sgn_true]; exact decide_eq_decide.2 (by rw [h3]; omega)
  rw [h5]

end Go.Proofs.YtnenipgpncomeaaDoor.W2
