/- Contract of the program's Sum. -/
import Derived.Test.YteoaapjejhjknaaMem
namespace Go.Proofs.Yteoaapjejhjknaa
open Go.RowKit
open Fg

/-- a slice value whose elements are the integers l -/
def ReadsA (w : World) (B : Nat) (A : Option Addr) (l : List Int) : Prop :=
  l ≠ [] → ∃ b o, A = some ⟨b, o, none⟩ ∧ b < B ∧ ∀ i, i < l.length → w.cell? ⟨b, o + i, none⟩ = some (.int .i64 (l.getD i 0))
theorem ReadsA.below {w w' : World} {B B' : Nat} {A : Option Addr} {l : List Int} (h : ReadsA w B A l) (hb : Below B' w w') (hB : B ≤ B') : ReadsA w' B A l := by
  intro hn
  obtain ⟨b, o, e, hlt, hc⟩ := h hn
  exact ⟨b, o, e, hlt, fun i hi => (hb.cell (p := ⟨b, o + i, none⟩) (by show b < B'; omega)).trans (hc i hi)⟩

def sumTo (l : List Int) (k : Nat) : Int := (l.take k).sum
theorem sumTo_zero (l : List Int) : sumTo l 0 = 0 := rfl
theorem sumTo_succ (l : List Int) (k : Nat) (h : k < l.length) : sumTo l (k + 1) = sumTo l k + l.getD k 0 := by
  unfold sumTo
  rw [getD_take_succ l k h, List.sum_append]
  simp
theorem sumTo_all (l : List Int) : sumTo l l.length = l.sum := by unfold sumTo; rw [List.take_length]
theorem in_getD {l : List Int} (h : ∀ x ∈ l, In64 x) (k : Nat) : In64 (l.getD k 0) := by
  rw [List.getD_eq_getElem?_getD]
  rcases Nat.lt_or_ge k l.length with hk | hk
  · rw [List.getElem?_eq_getElem hk]; exact h _ (List.getElem_mem hk)
  · rw [List.getElem?_eq_none hk]; constructor <;> decide

/-- behind k rounds: s has been summed up, and it has gone round t times -/
def SumAt (S s t : Int) (k : Nat) : Prop := S = s + 18446744073709551616 * t ∧ In64 s ∧ -(k : Int) ≤ t ∧ t ≤ k

def inB (S : Int) : Bool := decide (-9223372036854775808 ≤ S ∧ S ≤ 9223372036854775807)
def sumEnd (S : Int) : Value := bif inB S then .tuple #[.int .i64 S, .int .i64 0] else .tuple #[.int .i64 0, .int .i64 11]
theorem sumEnd_ok {S : Int} (h : In64 S) : sumEnd S = .tuple #[.int .i64 S, .int .i64 0] := by
  have : inB S = true := decide_eq_true h
  unfold sumEnd; rw [this]; rfl
theorem sumEnd_over {S : Int} (h : ¬ In64 S) : sumEnd S = .tuple #[.int .i64 0, .int .i64 11] := by
  have : inB S = false := decide_eq_false h
  unfold sumEnd; rw [this]; rfl

set_option maxRecDepth 100000 in
set_option maxHeartbeats 4000000 in
theorem sum_any (l : List Int) (A : Option Addr) (c : Nat) (w : World) (ll : l.length ≤ 100) (hi : ∀ x ∈ l, In64 x) (hr : ReadsA w w.heap.size A l) :
    Calls Try.prog 22 #[.slice A l.length c] w fun e w' => e = .returned (sumEnd l.sum) ∧ w = w' := by
  have Hi := Lib.hid hi
  have Hr := Lib.hid hr
  clear hi hr
  go_enter Try.func22, Try.ntmps22
  go_wp2_with fail
  go_loop [4, 5, 7, 8, 11, 18, 28] (fun sv tv _ _ i _ _ => ∃ (k : Nat) (s t : Int), k ≤ l.length ∧ i = .int .i64 k ∧ sv = .int .i64 s ∧ tv = .int .i64 t ∧ SumAt (sumTo l k) s t k) (fun _ _ _ _ i _ _ => l.length - (intOf i).toNat)
  case atStart => exact ⟨0, 0, 0, Nat.zero_le _, rfl, rfl, rfl, by simp [sumTo_zero], ⟨by decide, by decide⟩, by simp, by simp⟩
  case round =>
    obtain ⟨k, s, t, hk, rfl, rfl, rfl, hS, hs, ht1, ht2⟩ := hrel
    by_cases hlt : k < l.length
    · have u1 : decide (k < l.length) = true := decide_eq_true hlt
      obtain ⟨b1, o1, rfl, hb1, c1⟩ := Hr.out (by rintro rfl; simp at hlt)
      have e1 := c1 k hlt
      have hn := in_getD Hi.out k
      have hS2 := sumTo_succ l k hlt
      clear c1
      generalize l.getD k 0 = n at *
      obtain ⟨s1, s2⟩ := hs
      obtain ⟨n1, n2⟩ := hn
      have HS := Lib.hid hS
      have HS2 := Lib.hid hS2
      clear hS hS2
      rcases (by omega : (0 < n ∧ 9223372036854775807 < s + n) ∨ (n < 0 ∧ s + n < -9223372036854775808) ∨ (0 < n ∧ s + n ≤ 9223372036854775807) ∨ (n < 0 ∧ -9223372036854775808 ≤ s + n) ∨ n = 0) with ⟨h1, h2⟩ | ⟨h1, h2⟩ | ⟨h1, h2⟩ | ⟨h1, h2⟩ | h1
      · have t1 : decide (0 < n) = true := decide_eq_true h1
        have t2 : decide (wrap64 (s + n) < s) = true := decide_eq_true (by unfold wrap64; omega)
        have Hx := Lib.hid (show SumAt (sumTo l (k + 1)) (wrap64 (s + n)) (t + 1) (k + 1) from ⟨by rw [HS2.out, HS.out]; unfold wrap64; omega, by unfold In64 wrap64; omega, by omega, by omega⟩)
        go_wp2_with fail
        go_round
        case rel => exact ⟨k + 1, _, _, by omega, by go_num, rfl, rfl, Hx.out⟩
        case measure => simp [intOf]; omega
      · have t1 : decide (0 < n) = false := decide_eq_false (by omega)
        have t2 : decide (n < 0) = true := decide_eq_true h1
        have t3 : decide (s < wrap64 (s + n)) = true := decide_eq_true (by unfold wrap64; omega)
        have Hx := Lib.hid (show SumAt (sumTo l (k + 1)) (wrap64 (s + n)) (t - 1) (k + 1) from ⟨by rw [HS2.out, HS.out]; unfold wrap64; omega, by unfold In64 wrap64; omega, by omega, by omega⟩)
        go_wp2_with fail
        go_round
        case rel => exact ⟨k + 1, _, _, by omega, by go_num, rfl, rfl, Hx.out⟩
        case measure => simp [intOf]; omega
      · have t1 : decide (0 < n) = true := decide_eq_true h1
        have t2 : decide (s + n < s) = false := decide_eq_false (by omega)
        have t3 : decide (n < 0) = false := decide_eq_false (by omega)
        have Hx := Lib.hid (show SumAt (sumTo l (k + 1)) (s + n) t (k + 1) from ⟨by rw [HS2.out, HS.out]; omega, ⟨by omega, by omega⟩, by omega, by omega⟩)
        go_wp2_with fail
        go_round
        case rel => exact ⟨k + 1, _, _, by omega, by go_num, rfl, rfl, Hx.out⟩
        case measure => simp [intOf]; omega
      · have t1 : decide (0 < n) = false := decide_eq_false (by omega)
        have t2 : decide (s < s + n) = false := decide_eq_false (by omega)
        have t3 : decide (n < 0) = true := decide_eq_true h1
        have Hx := Lib.hid (show SumAt (sumTo l (k + 1)) (s + n) t (k + 1) from ⟨by rw [HS2.out, HS.out]; omega, ⟨by omega, by omega⟩, by omega, by omega⟩)
        go_wp2_with fail
        go_round
        case rel => exact ⟨k + 1, _, _, by omega, by go_num, rfl, rfl, Hx.out⟩
        case measure => simp [intOf]; omega
      · subst h1
        have Hx := Lib.hid (show SumAt (sumTo l (k + 1)) s t (k + 1) from ⟨by rw [HS2.out, HS.out]; omega, ⟨by omega, by omega⟩, by omega, by omega⟩)
        go_wp2_with fail
        go_round
        case rel => exact ⟨k + 1, _, _, by omega, by go_num, rfl, rfl, Hx.out⟩
        case measure => simp [intOf]; omega
    · obtain rfl : l.length = k := by omega
      rw [sumTo_all] at hS
      obtain ⟨s1, s2⟩ := hs
      by_cases h0 : t = 0
      · have hz := Lib.hid (show sumEnd l.sum = .tuple #[.int .i64 s, .int .i64 0] by rw [hS, h0, Int.mul_zero, Int.add_zero]; exact sumEnd_ok ⟨s1, s2⟩)
        have t1 : (t != 0) = false := by simp; exact h0
        clear hS h0
        go_wp2_with fail
        go_ret2
        exact ⟨(congrArg Ending.returned hz.out).symm, rfl⟩
      · have hz := Lib.hid (show sumEnd l.sum = .tuple #[.int .i64 0, .int .i64 11] from sumEnd_over (by unfold In64; omega))
        have t1 : (t != 0) = true := by simp; exact h0
        clear hS h0
        go_wp2_with fail
        go_ret2
        exact ⟨(congrArg Ending.returned hz.out).symm, rfl⟩
theorem ReadsA.onto {w W : World} {A : Option Addr} {l : List Int} (h : ReadsA w w.heap.size A l) (hb : Below w.heap.size w W) : ReadsA W W.heap.size A l := by
  intro hn
  obtain ⟨b, o, e, hlt, hc⟩ := h.below hb (Nat.le_refl _) hn
  exact ⟨b, o, e, Nat.lt_of_lt_of_le hlt hb.size, hc⟩
theorem sum_ok (l : List Int) (A : Option Addr) (c : Nat) (w : World) (ll : l.length ≤ 100) (hi : ∀ x ∈ l, In64 x) (hr : ReadsA w w.heap.size A l) (h : In64 l.sum) :
    Calls Try.prog 22 #[.slice A l.length c] w fun e w' => e = .returned (.tuple #[.int .i64 l.sum, .int .i64 0]) ∧ w = w' := by
  have := sum_any l A c w ll hi hr; rwa [sumEnd_ok h] at this
theorem sum_over (l : List Int) (A : Option Addr) (c : Nat) (w : World) (ll : l.length ≤ 100) (hi : ∀ x ∈ l, In64 x) (hr : ReadsA w w.heap.size A l) (h : ¬ In64 l.sum) :
    Calls Try.prog 22 #[.slice A l.length c] w fun e w' => e = .returned (.tuple #[.int .i64 0, .int .i64 11]) ∧ w = w' := by
  have := sum_any l A c w ll hi hr; rwa [sumEnd_over h] at this
end Go.Proofs.Yteoaapjejhjknaa
