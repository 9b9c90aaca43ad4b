/- Contracts of the program's integer calls of layer 2: Add, Sub, Neg, Mul, Div, Mod, and the fixed fact 'awake'. -/
import Derived.Test.YteoaapjejhjknaaRows
import Derived.Test.YteoaapjejhjknaaPlainInt
import Derived.WalkKit
import Derived.Lib.Hide
namespace Go.Proofs.Yteoaapjejhjknaa
open Go.RowKit

theorem ret_num {k m : IntKind} {a b c d : Int} (h : a = b) (g : c = d) : Ending.returned (.tuple #[.int k a, .int m c]) = .returned (.tuple #[.int k b, .int m d]) := by rw [h, g]
theorem ret_bool {a b : Bool} (h : a = b) : Ending.returned (.bool a) = .returned (.bool b) := by rw [h]
theorem ret_int {k : IntKind} {a b : Int} (h : a = b) : Ending.returned (.int k a) = .returned (.int k b) := by rw [h]

theorem add_ok (a b : Int) (w : World) (ha : In64 a) (hb : In64 b) (h : In64 (a + b)) : Calls Try.prog 10 #[.int .i64 a, .int .i64 b] w fun e w' => e = .returned (.tuple #[.int .i64 (a + b), .int .i64 0]) ∧ w = w' := by
  obtain ⟨a1, a2⟩ := ha
  obtain ⟨b1, b2⟩ := hb
  obtain ⟨h1, h2⟩ := h
  by_cases hp : 0 < b
  · have t1 : decide (a < (a + b)) = true := decide_eq_true (by omega)
    have t2 : decide (0 < b) = true := decide_eq_true hp
    go_enter Try.func10, Try.ntmps10
    go_wp2_with fail
    go_ret2
    exact ⟨rfl, rfl⟩
  · have t1 : decide (a < (a + b)) = false := decide_eq_false (by omega)
    have t2 : decide (0 < b) = false := decide_eq_false hp
    go_enter Try.func10, Try.ntmps10
    go_wp2_with fail
    go_ret2
    exact ⟨rfl, rfl⟩
theorem add_over (a b : Int) (w : World) (ha : In64 a) (hb : In64 b) (h : ¬ In64 (a + b)) : Calls Try.prog 10 #[.int .i64 a, .int .i64 b] w fun e w' => e = .returned (.tuple #[.int .i64 0, .int .i64 11]) ∧ w = w' := by
  unfold In64 at *
  by_cases hp : 0 < b
  · have t1 : decide (a < wrap64 (a + b)) = false := decide_eq_false (by unfold wrap64; omega)
    have t2 : decide (0 < b) = true := decide_eq_true hp
    clear ha hb h
    go_enter Try.func10, Try.ntmps10
    go_wp2_with fail
    go_ret2
    exact ⟨rfl, rfl⟩
  · have t1 : decide (a < wrap64 (a + b)) = true := decide_eq_true (by unfold wrap64; omega)
    have t2 : decide (0 < b) = false := decide_eq_false hp
    clear ha hb h
    go_enter Try.func10, Try.ntmps10
    go_wp2_with fail
    go_ret2
    exact ⟨rfl, rfl⟩
theorem sub_ok (a b : Int) (w : World) (ha : In64 a) (hb : In64 b) (h : In64 (a - b)) : Calls Try.prog 11 #[.int .i64 a, .int .i64 b] w fun e w' => e = .returned (.tuple #[.int .i64 (a - b), .int .i64 0]) ∧ w = w' := by
  obtain ⟨a1, a2⟩ := ha
  obtain ⟨b1, b2⟩ := hb
  obtain ⟨h1, h2⟩ := h
  by_cases hp : 0 < b
  · have t1 : decide ((a - b) < a) = true := decide_eq_true (by omega)
    have t2 : decide (0 < b) = true := decide_eq_true hp
    go_enter Try.func11, Try.ntmps11
    go_wp2_with fail
    go_ret2
    exact ⟨rfl, rfl⟩
  · have t1 : decide ((a - b) < a) = false := decide_eq_false (by omega)
    have t2 : decide (0 < b) = false := decide_eq_false hp
    go_enter Try.func11, Try.ntmps11
    go_wp2_with fail
    go_ret2
    exact ⟨rfl, rfl⟩
theorem sub_over (a b : Int) (w : World) (ha : In64 a) (hb : In64 b) (h : ¬ In64 (a - b)) : Calls Try.prog 11 #[.int .i64 a, .int .i64 b] w fun e w' => e = .returned (.tuple #[.int .i64 0, .int .i64 11]) ∧ w = w' := by
  unfold In64 at *
  by_cases hp : 0 < b
  · have t1 : decide (wrap64 (a - b) < a) = false := decide_eq_false (by unfold wrap64; omega)
    have t2 : decide (0 < b) = true := decide_eq_true hp
    clear ha hb h
    go_enter Try.func11, Try.ntmps11
    go_wp2_with fail
    go_ret2
    exact ⟨rfl, rfl⟩
  · have t1 : decide (wrap64 (a - b) < a) = true := decide_eq_true (by unfold wrap64; omega)
    have t2 : decide (0 < b) = false := decide_eq_false hp
    clear ha hb h
    go_enter Try.func11, Try.ntmps11
    go_wp2_with fail
    go_ret2
    exact ⟨rfl, rfl⟩

theorem neg_ok (a : Int) (w : World) (ha : In64 a) (h : a ≠ -9223372036854775808) : Calls Try.prog 13 #[.int .i64 a] w fun e w' => e = .returned (.tuple #[.int .i64 (-a), .int .i64 0]) ∧ w = w' := by
  obtain ⟨a1, a2⟩ := ha
  have t1 : (a == -9223372036854775808) = false := by simp; exact h
  have h3 : -9223372036854775808 < a := by omega
  clear h
  go_enter Try.func13, Try.ntmps13
  go_wp2_with fail
  go_ret2
  exact ⟨rfl, rfl⟩
theorem neg_over (w : World) : Calls Try.prog 13 #[.int .i64 (-9223372036854775808)] w fun e w' => e = .returned (.tuple #[.int .i64 0, .int .i64 11]) ∧ w = w' := by
  go_enter Try.func13, Try.ntmps13
  go_wp2_with fail
  go_ret2
  exact ⟨rfl, rfl⟩

theorem mul_zero (a : Int) (w : World) : Calls Try.prog 12 #[.int .i64 a, .int .i64 0] w fun e w' => e = .returned (.tuple #[.int .i64 0, .int .i64 0]) ∧ w = w' := by
  go_enter Try.func12, Try.ntmps12
  go_wp2_with fail
  go_ret2
  exact ⟨rfl, rfl⟩
theorem mul_ok (a b : Int) (w : World) (ha : In64 a) (hb : In64 b) (h : In64 (a * b)) : Calls Try.prog 12 #[.int .i64 a, .int .i64 b] w fun e w' => e = .returned (.tuple #[.int .i64 (a * b), .int .i64 0]) ∧ w = w' := by
  by_cases h0 : b = 0
  · subst h0; rw [Int.mul_zero]; exact mul_zero a w
  · by_cases h1 : b = -1
    · subst h1
      have e : a * -1 = -a := by omega
      rw [e] at h ⊢
      have hm : a ≠ -9223372036854775808 := by unfold In64 at h; omega
      have Ha := Lib.hid ha
      clear hb h h0 e ha
      go_enter Try.func12, Try.ntmps12
      go_wp2_with (go_at_call 13; refine (neg_ok _ _ Ha.out hm).mono ?_; rintro e w' ⟨rfl, rfl⟩)
      go_ret2
      exact ⟨rfl, rfl⟩
    · have t0 : (b == 0) = false := by simp; exact h0
      have t1 : (b == -1) = false := by simp; exact h1
      have hq := mul_back a b h0 h
      have hqi := tdiv_in (a * b) b h h1
      have hw : wrap64 (a * b) = a * b := by unfold In64 at h; unfold wrap64; omega
      rw [hw] at hq
      rw [hq] at hqi
      obtain ⟨q1, q2⟩ := hqi
      obtain ⟨p1, p2⟩ := h
      have hq' : IntKind.i64.wrap ((a * b).tdiv b) = a := by rw [hq]; exact IntWalk.i64_in _ (by omega)
      have hw' : wrap64 ((a * b).tdiv b) = a := by rw [hq]; unfold wrap64; omega
      have t2 : (a != a) = false := by simp
      clear h1 ha hb hw hq
      go_enter Try.func12, Try.ntmps12
      go_wp2_with fail
      go_ret2
      exact ⟨rfl, rfl⟩
theorem mul_over (a b : Int) (w : World) (ha : In64 a) (hb : In64 b) (h : ¬ In64 (a * b)) : Calls Try.prog 12 #[.int .i64 a, .int .i64 b] w fun e w' => e = .returned (.tuple #[.int .i64 0, .int .i64 11]) ∧ w = w' := by
  have h0 : ¬ b = 0 := by rintro rfl; apply h; rw [Int.mul_zero]; constructor <;> decide
  by_cases h1 : b = -1
  · subst h1
    have e : a = -9223372036854775808 := by unfold In64 at *; omega
    subst e
    clear ha hb h h0
    go_enter Try.func12, Try.ntmps12
    go_wp2_with (go_at_call 13; refine (neg_over _).mono ?_; rintro e w' ⟨rfl, rfl⟩)
    go_ret2
    exact ⟨rfl, rfl⟩
  · have t0 : (b == 0) = false := by simp; exact h0
    have t1 : (b == -1) = false := by simp; exact h1
    have hq := mul_lost a b h0 hb h
    have hqi := tdiv_in (wrap64 (a * b)) b (by unfold In64 wrap64; omega) h1
    have hq' : IntKind.i64.wrap ((wrap64 (a * b)).tdiv b) = (wrap64 (a * b)).tdiv b := IntWalk.i64_in _ hqi
    have hw' : wrap64 ((wrap64 (a * b)).tdiv b) = (wrap64 (a * b)).tdiv b := by have := hqi; unfold In64 at this; generalize (wrap64 (a * b)).tdiv b = x at *; unfold wrap64; omega
    have t2 : (((wrap64 (a * b)).tdiv b) != a) = true := by simp; exact hq
    clear h1 ha hb hq hqi h
    go_enter Try.func12, Try.ntmps12
    go_wp2_with fail
    go_ret2
    exact ⟨rfl, rfl⟩

theorem div_zero (a : Int) (w : World) : Calls Try.prog 18 #[.int .i64 a, .int .i64 0] w fun e w' => e = .returned (.tuple #[.int .i64 0, .int .i64 10]) ∧ w = w' := by
  go_enter Try.func18, Try.ntmps18
  go_wp2_with fail
  go_ret2
  exact ⟨rfl, rfl⟩
theorem mod_zero (a : Int) (w : World) : Calls Try.prog 19 #[.int .i64 a, .int .i64 0] w fun e w' => e = .returned (.tuple #[.int .i64 0, .int .i64 10]) ∧ w = w' := by
  go_enter Try.func19, Try.ntmps19
  go_wp2_with fail
  go_ret2
  exact ⟨rfl, rfl⟩
theorem div_over (w : World) : Calls Try.prog 18 #[.int .i64 (-9223372036854775808), .int .i64 (-1)] w fun e w' => e = .returned (.tuple #[.int .i64 0, .int .i64 11]) ∧ w = w' := by
  go_enter Try.func18, Try.ntmps18
  go_wp2_with (go_at_call 13; refine (neg_over _).mono ?_; rintro e w' ⟨rfl, rfl⟩)
  go_ret2
  exact ⟨rfl, rfl⟩
theorem div_ok (a b : Int) (w : World) (ha : In64 a) (hb : b ≠ 0) (h : ¬ (a = -9223372036854775808 ∧ b = -1)) : Calls Try.prog 18 #[.int .i64 a, .int .i64 b] w fun e w' => e = .returned (.tuple #[.int .i64 (a.tdiv b), .int .i64 0]) ∧ w = w' := by
  by_cases h1 : b = -1
  · subst h1
    have e : a.tdiv (-1) = -a := by rw [Int.tdiv_neg, Int.tdiv_one]
    have hm : a ≠ -9223372036854775808 := by omega
    rw [e]
    have Ha := Lib.hid ha
    clear hb h e ha
    go_enter Try.func18, Try.ntmps18
    go_wp2_with (go_at_call 13; refine (neg_ok _ _ Ha.out hm).mono ?_; rintro e w' ⟨rfl, rfl⟩)
    go_ret2
    exact ⟨rfl, rfl⟩
  · have t0 : (b == 0) = false := by simp; exact hb
    have t1 : (b == -1) = false := by simp; exact h1
    have hqi := tdiv_in a b ha h1
    have hq' : IntKind.i64.wrap (a.tdiv b) = a.tdiv b := IntWalk.i64_in _ hqi
    have h0 : ¬ b = 0 := hb
    clear h1 ha hb hqi h
    go_enter Try.func18, Try.ntmps18
    go_wp2_with fail
    go_ret2
    exact ⟨rfl, rfl⟩
theorem mod_ok (a b : Int) (w : World) (ha : In64 a) (hb : b ≠ 0) : Calls Try.prog 19 #[.int .i64 a, .int .i64 b] w fun e w' => e = .returned (.tuple #[.int .i64 (a.tmod b), .int .i64 0]) ∧ w = w' := by
  have t0 : (b == 0) = false := by simp; exact hb
  have hqi := tmod_in a b ha
  have hq' : IntKind.i64.wrap (a.tmod b) = a.tmod b := IntWalk.i64_in _ hqi
  have h0 : ¬ b = 0 := hb
  clear ha hb hqi
  go_enter Try.func19, Try.ntmps19
  go_wp2_with fail
  go_ret2
  exact ⟨rfl, rfl⟩

theorem awake_any (w : World) : Calls Try.prog 8 #[] w fun e w' => e = .returned (.bool true) ∧ w = w' := by
  have ha : In64 (-7) := by constructor <;> decide
  go_enter Try.func8, Try.ntmps8
  go_wp2_with (first | (go_at_call 18; refine (div_ok _ _ _ ha (by decide) (by decide)).mono ?_; rintro e w' ⟨rfl, rfl⟩) | (go_at_call 19; refine (mod_ok _ _ _ ha (by decide)).mono ?_; rintro e w' ⟨rfl, rfl⟩))
  go_ret
  exact ⟨rfl, rfl⟩

theorem in_of (a : Int) (h : (Lit.int .i64 a).wf = true) : In64 a := by
  simp [Lit.wf, IntKind.min, IntKind.max, IntKind.signed, IntKind.bits] at h
  exact h

/-- the same, what comes out under a name -/
theorem add_is (a b n : Int) (w : World) (ha : In64 a) (hb : In64 b) (h : In64 n) (e : a + b = n) : Calls Try.prog 10 #[.int .i64 a, .int .i64 b] w fun e w' => e = .returned (.tuple #[.int .i64 n, .int .i64 0]) ∧ w = w' := by
  subst e; exact add_ok a b w ha hb h
theorem sub_is (a b n : Int) (w : World) (ha : In64 a) (hb : In64 b) (h : In64 n) (e : a - b = n) : Calls Try.prog 11 #[.int .i64 a, .int .i64 b] w fun e w' => e = .returned (.tuple #[.int .i64 n, .int .i64 0]) ∧ w = w' := by
  subst e; exact sub_ok a b w ha hb h
theorem mul_is (a b n : Int) (w : World) (ha : In64 a) (hb : In64 b) (h : In64 n) (e : a * b = n) : Calls Try.prog 12 #[.int .i64 a, .int .i64 b] w fun e w' => e = .returned (.tuple #[.int .i64 n, .int .i64 0]) ∧ w = w' := by
  subst e; exact mul_ok a b w ha hb h
theorem div_is (a b n : Int) (w : World) (ha : In64 a) (hb : b ≠ 0) (h : ¬ (a = -9223372036854775808 ∧ b = -1)) (e : a.tdiv b = n) : Calls Try.prog 18 #[.int .i64 a, .int .i64 b] w fun e w' => e = .returned (.tuple #[.int .i64 n, .int .i64 0]) ∧ w = w' := by
  subst e; exact div_ok a b w ha hb h
theorem mod_is (a b n : Int) (w : World) (ha : In64 a) (hb : b ≠ 0) (e : a.tmod b = n) : Calls Try.prog 19 #[.int .i64 a, .int .i64 b] w fun e w' => e = .returned (.tuple #[.int .i64 n, .int .i64 0]) ∧ w = w' := by
  subst e; exact mod_ok a b w ha hb
end Go.Proofs.Yteoaapjejhjknaa
