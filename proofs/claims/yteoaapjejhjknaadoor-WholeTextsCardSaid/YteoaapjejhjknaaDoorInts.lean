/- Contracts of the program's integer calls of layer 2: Add, Sub, Neg, Mul, Div, Mod, and the fixed fact 'awake'. -/
import Derived.Test.YteoaapjejhjknaaDoorRows
import Derived.Test.YteoaapjejhjknaaDoorPlainInt
import Derived.WalkKit
import Derived.Lib.Hide
namespace Go.Proofs.YteoaapjejhjknaaDoor
open Go.RowKit

theorem ret_num {k m : IntKind} {a b c d : Int} (h : a = b) (g : c = d) : Ending.returned (.tuple #[.int k a, .int m c]) = .returned (.tuple #[.int k b, .int m d]) := by rw [h, g]
theorem ret_bool {a b : Bool} (h : a = b) : Ending.returned (.bool a) = .returned (.bool b) := by rw [h]
theorem ret_int {k : IntKind} {a b : Int} (h : a = b) : Ending.returned (.int k a) = .returned (.int k b) := by rw [h]

theorem neg_ok (a : Int) (w : World) (ha : In64 a) (h : a ≠ -9223372036854775808) : Calls Tryd.prog 21 #[.int .i64 a] w fun e w' => e = .returned (.tuple #[.int .i64 (-a), .int .i64 0]) ∧ w = w' := by
  obtain ⟨a1, a2⟩ := ha
  have t1 : (a == -9223372036854775808) = false := by simp; exact h
  have h3 : -9223372036854775808 < a := by omega
  clear h
  go_enter Tryd.func21, Tryd.ntmps21
  go_wp2_with fail
  go_ret2
  exact ⟨rfl, rfl⟩
theorem neg_over (w : World) : Calls Tryd.prog 21 #[.int .i64 (-9223372036854775808)] w fun e w' => e = .returned (.tuple #[.int .i64 0, .int .i64 11]) ∧ w = w' := by
  go_enter Tryd.func21, Tryd.ntmps21
  go_wp2_with fail
  go_ret2
  exact ⟨rfl, rfl⟩

theorem div_zero (a : Int) (w : World) : Calls Tryd.prog 12 #[.int .i64 a, .int .i64 0] w fun e w' => e = .returned (.tuple #[.int .i64 0, .int .i64 10]) ∧ w = w' := by
  go_enter Tryd.func12, Tryd.ntmps12
  go_wp2_with fail
  go_ret2
  exact ⟨rfl, rfl⟩
theorem mod_zero (a : Int) (w : World) : Calls Tryd.prog 13 #[.int .i64 a, .int .i64 0] w fun e w' => e = .returned (.tuple #[.int .i64 0, .int .i64 10]) ∧ w = w' := by
  go_enter Tryd.func13, Tryd.ntmps13
  go_wp2_with fail
  go_ret2
  exact ⟨rfl, rfl⟩
theorem div_over (w : World) : Calls Tryd.prog 12 #[.int .i64 (-9223372036854775808), .int .i64 (-1)] w fun e w' => e = .returned (.tuple #[.int .i64 0, .int .i64 11]) ∧ w = w' := by
  go_enter Tryd.func12, Tryd.ntmps12
  go_wp2_with (go_at_call 21; refine (neg_over _).mono ?_; rintro e w' ⟨rfl, rfl⟩)
  go_ret2
  exact ⟨rfl, rfl⟩
theorem div_ok (a b : Int) (w : World) (ha : In64 a) (hb : b ≠ 0) (h : ¬ (a = -9223372036854775808 ∧ b = -1)) : Calls Tryd.prog 12 #[.int .i64 a, .int .i64 b] w fun e w' => e = .returned (.tuple #[.int .i64 (a.tdiv b), .int .i64 0]) ∧ w = w' := by
  by_cases h1 : b = -1
  · subst h1
    have e : a.tdiv (-1) = -a := by rw [Int.tdiv_neg, Int.tdiv_one]
    have hm : a ≠ -9223372036854775808 := by omega
    rw [e]
    have Ha := Lib.hid ha
    clear hb h e ha
    go_enter Tryd.func12, Tryd.ntmps12
    go_wp2_with (go_at_call 21; refine (neg_ok _ _ Ha.out hm).mono ?_; rintro e w' ⟨rfl, rfl⟩)
    go_ret2
    exact ⟨rfl, rfl⟩
  · have t0 : (b == 0) = false := by simp; exact hb
    have t1 : (b == -1) = false := by simp; exact h1
    have hqi := tdiv_in a b ha h1
    have hq' : IntKind.i64.wrap (a.tdiv b) = a.tdiv b := IntWalk.i64_in _ hqi
    have h0 : ¬ b = 0 := hb
    clear h1 ha hb hqi h
    go_enter Tryd.func12, Tryd.ntmps12
    go_wp2_with fail
    go_ret2
    exact ⟨rfl, rfl⟩
theorem mod_ok (a b : Int) (w : World) (ha : In64 a) (hb : b ≠ 0) : Calls Tryd.prog 13 #[.int .i64 a, .int .i64 b] w fun e w' => e = .returned (.tuple #[.int .i64 (a.tmod b), .int .i64 0]) ∧ w = w' := by
  have t0 : (b == 0) = false := by simp; exact hb
  have hqi := tmod_in a b ha
  have hq' : IntKind.i64.wrap (a.tmod b) = a.tmod b := IntWalk.i64_in _ hqi
  have h0 : ¬ b = 0 := hb
  clear ha hb hqi
  go_enter Tryd.func13, Tryd.ntmps13
  go_wp2_with fail
  go_ret2
  exact ⟨rfl, rfl⟩

theorem awake_any (w : World) : Calls Tryd.prog 5 #[] w fun e w' => e = .returned (.bool true) ∧ w = w' := by
  have ha : In64 (-7) := by constructor <;> decide
  go_enter Tryd.func5, Tryd.ntmps5
  go_wp2_with (first | (go_at_call 12; refine (div_ok _ _ _ ha (by decide) (by decide)).mono ?_; rintro e w' ⟨rfl, rfl⟩) | (go_at_call 13; refine (mod_ok _ _ _ ha (by decide)).mono ?_; rintro e w' ⟨rfl, rfl⟩))
  go_ret
  exact ⟨rfl, rfl⟩

theorem in_of (a : Int) (h : (Lit.int .i64 a).wf = true) : In64 a := by
  simp [Lit.wf, IntKind.min, IntKind.max, IntKind.signed, IntKind.bits] at h
  exact h

theorem div_is (a b n : Int) (w : World) (ha : In64 a) (hb : b ≠ 0) (h : ¬ (a = -9223372036854775808 ∧ b = -1)) (e : a.tdiv b = n) : Calls Tryd.prog 12 #[.int .i64 a, .int .i64 b] w fun e w' => e = .returned (.tuple #[.int .i64 n, .int .i64 0]) ∧ w = w' := by
  subst e; exact div_ok a b w ha hb h
theorem mod_is (a b n : Int) (w : World) (ha : In64 a) (hb : b ≠ 0) (e : a.tmod b = n) : Calls Tryd.prog 13 #[.int .i64 a, .int .i64 b] w fun e w' => e = .returned (.tuple #[.int .i64 n, .int .i64 0]) ∧ w = w' := by
  subst e; exact mod_ok a b w ha hb
end Go.Proofs.YteoaapjejhjknaaDoor
