/- Contract of the program's Count. -/
import Derived.Test.YteoaapjejhjknaaInts
namespace Go.Proofs.Yteoaapjejhjknaa
open Go.RowKit

theorem count_none (a b : Int) (w : World) (h : b < a) : Calls Try.prog 23 #[.int .i64 a, .int .i64 b] w fun e w' => e = .returned (.tuple #[.int .i64 0, .int .i64 0]) ∧ w = w' := by
  have t1 : decide (b < a) = true := decide_eq_true h
  go_enter Try.func23, Try.ntmps23
  go_wp2_with fail
  go_ret2
  exact ⟨rfl, rfl⟩
theorem u64_apart (a b : Int) (ha : In64 a) (hb : In64 b) (h : a ≤ b) : IntKind.u64.wrap (IntKind.u64.wrap b - IntKind.u64.wrap a) = b - a := by
  unfold In64 at *
  simp only [IntKind.wrap, IntKind.bits, IntKind.signed]
  simp
  omega
theorem count_ok (a b : Int) (w : World) (ha : In64 a) (hb : In64 b) (h : a ≤ b) (h2 : b - a < 4294967296) : Calls Try.prog 23 #[.int .i64 a, .int .i64 b] w fun e w' => e = .returned (.tuple #[.int .i64 (b - a + 1), .int .i64 0]) ∧ w = w' := by
  have t1 : decide (b < a) = false := decide_eq_false (by omega)
  have hu := u64_apart a b ha hb h
  have t2 : decide (4294967296 ≤ b - a) = false := decide_eq_false (by omega)
  have h3 : 0 ≤ b - a := by omega
  clear ha hb
  go_enter Try.func23, Try.ntmps23
  go_wp2_with fail
  go_ret2
  exact ⟨rfl, rfl⟩
theorem count_over (a b : Int) (w : World) (ha : In64 a) (hb : In64 b) (h : a ≤ b) (h2 : 4294967296 ≤ b - a) : Calls Try.prog 23 #[.int .i64 a, .int .i64 b] w fun e w' => e = .returned (.tuple #[.int .i64 0, .int .i64 11]) ∧ w = w' := by
  have t1 : decide (b < a) = false := decide_eq_false (by omega)
  have hu := u64_apart a b ha hb h
  have t2 : decide (4294967296 ≤ b - a) = true := decide_eq_true h2
  clear ha hb
  go_enter Try.func23, Try.ntmps23
  go_wp2_with fail
  go_ret2
  exact ⟨rfl, rfl⟩
end Go.Proofs.Yteoaapjejhjknaa
