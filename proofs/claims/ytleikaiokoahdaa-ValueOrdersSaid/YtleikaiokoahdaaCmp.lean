/- cmp.Compare at integers and texts, orderOfTruths, key: contracts. -/
import Derived.Test.YtleikaiokoahdaaOrd
import Derived.Test.YtleikaiokoahdaaCells
import Derived.WalkLawsBesides
import Derived.Outline
namespace Go.Proofs.Ytleikaiokoahdaa
open Go.RowKit
set_option linter.unusedVariables false

theorem cmpInt_any (x y : Int) (w : World) : Calls Try.prog 23 #[.int .i64 x, .int .i64 y] w fun e w' => e = .returned (.int .i64 (cI x y)) ∧ w = w' := by
  unfold cI
  by_cases h1 : x < y
  · have t1 : decide (x < y) = true := decide_eq_true h1
    rw [if_pos h1]
    go_enter Try.func23, Try.ntmps23
    go_wp2
    go_ret
    exact ⟨rfl, rfl⟩
  · have t1 : decide (x < y) = false := decide_eq_false h1
    rw [if_neg h1]
    by_cases h2 : y < x
    · have t2 : decide (y < x) = true := decide_eq_true h2
      rw [if_pos h2]
      go_enter Try.func23, Try.ntmps23
      go_wp2
      go_ret
      exact ⟨rfl, rfl⟩
    · have t2 : decide (y < x) = false := decide_eq_false h2
      rw [if_neg h2]
      go_enter Try.func23, Try.ntmps23
      go_wp2
      go_ret
      exact ⟨rfl, rfl⟩
theorem cmpI64_any (x y : Int) (w : World) : Calls Try.prog 25 #[.int .i64 x, .int .i64 y] w fun e w' => e = .returned (.int .i64 (cI x y)) ∧ w = w' := by
  unfold cI
  by_cases h1 : x < y
  · have t1 : decide (x < y) = true := decide_eq_true h1
    rw [if_pos h1]
    go_enter Try.func25, Try.ntmps25
    go_wp2
    go_ret
    exact ⟨rfl, rfl⟩
  · have t1 : decide (x < y) = false := decide_eq_false h1
    rw [if_neg h1]
    by_cases h2 : y < x
    · have t2 : decide (y < x) = true := decide_eq_true h2
      rw [if_pos h2]
      go_enter Try.func25, Try.ntmps25
      go_wp2
      go_ret
      exact ⟨rfl, rfl⟩
    · have t2 : decide (y < x) = false := decide_eq_false h2
      rw [if_neg h2]
      go_enter Try.func25, Try.ntmps25
      go_wp2
      go_ret
      exact ⟨rfl, rfl⟩
theorem cmpStr_any (x y : ByteArray) (w : World) : Calls Try.prog 26 #[.string x, .string y] w fun e w' => e = .returned (.int .i64 (cS x y)) ∧ w = w' := by
  unfold cS
  by_cases h1 : sl x y = true
  · have t1 : Op.bytesLess x.toList y.toList = true := h1
    rw [if_pos h1]
    clear h1
    go_enter Try.func26, Try.ntmps26
    go_wp2
    go_ret
    exact ⟨rfl, rfl⟩
  · have t1 : Op.bytesLess x.toList y.toList = false := by simpa [sl] using h1
    rw [if_neg h1]
    by_cases h2 : sl y x = true
    · have t2 : Op.bytesLess y.toList x.toList = true := h2
      rw [if_pos h2]
      have t3 : (x.toList == y.toList) = false := by
        rw [beq_eq_false_iff_ne]
        intro e
        rw [bytes_eq e, sl_irrefl] at h2
        cases h2
      clear h1 h2
      go_enter Try.func26, Try.ntmps26
      go_wp2
      go_ret
      exact ⟨rfl, rfl⟩
    · have t2 : Op.bytesLess y.toList x.toList = false := by simpa [sl] using h2
      rw [if_neg h2]
      have t3 : x = y := by
        rcases sl_tri x y with h | h | h
        · exact absurd h h1
        · exact h
        · exact absurd h h2
      subst t3
      clear h1 h2
      go_enter Try.func26, Try.ntmps26
      go_wp2
      go_ret
      exact ⟨rfl, rfl⟩
theorem truths_any (x y : Bool) (w : World) : Calls Try.prog 24 #[.bool x, .bool y] w fun e w' => e = .returned (.int .i64 (cB x y)) ∧ w = w' := by
  cases x <;> cases y <;> (go_enter Try.func24, Try.ntmps24; go_wp2; go_ret; first | exact ⟨rfl, rfl⟩ | exact ⟨by simp [cB], rfl⟩ | simp [cB])
theorem key_any (t : T) (A : Option Addr) (c : Nat) (A' : Option Addr) (c' : Nat) (k : Nat) (w : World) (hk : k ≤ 100000) (hl : t.keys.length ≤ 100000) (hr : SReads w (· < w.heap.size) A' t.keys) :
    Calls Try.prog 37 #[.agg #[.int .i64 t.kind, .bool t.tr, .int .i64 t.num, .string t.str, .slice A t.items.length c, .slice A' t.keys.length c'], .int .i64 k] w fun e w' => e = .returned (.string (keyAt t.keys k)) ∧ Below w.heap.size w w' := by
  unfold keyAt
  by_cases hkl : k < t.keys.length
  · obtain ⟨b, o, s, rfl, hb, hs, hc⟩ := hr.at_ hkl
    have t1 : decide ((t.keys.length : Int) ≤ (k : Int)) = false := decide_eq_false (by omega)
    have t2 : decide (t.keys.length ≤ k) = false := decide_eq_false (by omega)
    rw [hs]
    clear hs hr
    go_enter Try.func37, Try.ntmps37
    go_wp2_with fail
    go_ret
    exact ⟨rfl, (Below.refl _ _).alloc (Nat.le_refl _) _⟩
  · have t1 : decide ((t.keys.length : Int) ≤ (k : Int)) = true := decide_eq_true (by omega)
    have t2 : decide (t.keys.length ≤ k) = true := decide_eq_true (by omega)
    rw [List.getElem?_eq_none (by omega)]
    go_enter Try.func37, Try.ntmps37
    go_wp2_with fail
    go_ret
    exact ⟨rfl, (Below.refl _ _).alloc (Nat.le_refl _) _⟩
end Go.Proofs.Ytleikaiokoahdaa
