/- hasOnlyItsFields of what has others. -/
import Derived.Test.YtleikaiokoahdaaGood
import Derived.Test.YtleikaiokoahdaaItem
namespace Go.Proofs.Ytleikaiokoahdaa
open Go.RowKit
/-- what hasOnlyItsFields asks -/
def Only (k : Int) (tr : Bool) (n : Int) (s : ByteArray) (m m' : Nat) : Prop := (k ≠ 1 → tr = false) ∧ (k ≠ 2 → n = 0) ∧ (k ≠ 3 → s = ⟨#[]⟩) ∧ (k ≠ 4 → k ≠ 5 → m = 0) ∧ (k ≠ 5 → m' = 0) ∧ (k = 5 → m' = m)
theorem nil_of {s : ByteArray} (h : s.toList = []) : s = ⟨#[]⟩ := bytes_eq (h.trans (by first | rfl | decide | simp | decide +kernel))
set_option maxRecDepth 100000 in
set_option maxHeartbeats 4000000 in
theorem only_no (k : Int) (tr : Bool) (n : Int) (s : ByteArray) (A : Option Addr) (m c : Nat) (A' : Option Addr) (m' c' : Nat) (w : World) (h : ¬ Only k tr n s m m') :
    Calls Try.prog 19 #[.agg #[.int .i64 k, .bool tr, .int .i64 n, .string s, .slice A m c, .slice A' m' c']] w fun e w' => e = .returned (.bool false) ∧ Below w.heap.size w w' := by
  have h5 : k = 5 ∨ k ≠ 5 := by omega
  have HN := Lib.hid h
  clear h
  rcases h5 with rfl | h5
  · go_enter Try.func19, Try.ntmps19
    go_wp2_with fail
    all_goals
      go_ret
      refine ⟨?_, (Below.refl _ _).alloc (Nat.le_refl _) _⟩
      first
      | rfl
      | (refine ret_bool ?_
         rw [beq_eq_false_iff_ne]
         intro hh
         refine HN.out ⟨fun hk => ?_, fun hk => ?_, fun hk => ?_, fun hk hk' => ?_, fun hk => ?_, fun hk => ?_⟩ <;> first | omega | exact nil_of (by assumption) | (simp_all; done))
      | exact ret_bool (by simp_all)
  · have q5 : (k == 5) = false := by simp [h5]
    go_enter Try.func19, Try.ntmps19
    go_wp2_with fail
    all_goals
      go_ret
      refine ⟨?_, (Below.refl _ _).alloc (Nat.le_refl _) _⟩
      first
      | rfl
      | (refine ret_bool ?_
         rw [beq_eq_false_iff_ne]
         intro hh
         refine HN.out ⟨fun hk => ?_, fun hk => ?_, fun hk => ?_, fun hk hk' => ?_, fun hk => ?_, fun hk => ?_⟩ <;> first | omega | exact nil_of (by assumption) | (simp_all; done))
      | exact ret_bool (by simp_all)
end Go.Proofs.Ytleikaiokoahdaa
