/- Weighing: the program's place and Weigh. -/
import Derived.Test.YtkccciacngjhfaaDwH
namespace Go.Proofs.Ytkccciacngjhfaa
open Go.RowKit
attribute [local go_sem ↓] Go.wp_at_zero Go.wp_at_succ

/-- the place of the first weight at which those up to it are together greater than a number -/
def plc : Int → List Int → Nat
  | _, [] => 0
  | n, a :: l => if n < a then 0 else plc (n - a) l + 1
def sumT (l : List Int) (k : Nat) : Int := (l.take k).sum
theorem sumT_succ {l : List Int} {k : Nat} (hk : k < l.length) : sumT l (k + 1) = sumT l k + l.getD k 0 := by
  unfold sumT
  rw [List.take_add_one, List.getD_eq_getElem?_getD, List.getElem?_eq_getElem hk, List.sum_append]
  simp
theorem sumT_all (l : List Int) : sumT l l.length = l.sum := by unfold sumT; rw [List.take_length]
/-- all are weights -/
def okW (l : List Int) : Prop := ∀ x ∈ l, 1 ≤ x ∧ x ≤ 1000
theorem okW_at {l : List Int} (h : okW l) {k : Nat} (hk : k < l.length) : 1 ≤ l.getD k 0 ∧ l.getD k 0 ≤ 1000 := by
  rw [List.getD_eq_getElem?_getD, List.getElem?_eq_getElem hk]
  exact h _ (List.getElem_mem hk)
theorem okW_any {l : List Int} (h : okW l) : l.any (fun n => !isW n) = false := by
  rw [List.any_eq_false]
  intro x hx
  have := h x hx
  simp [isW]
  omega
theorem any_okW {l : List Int} (h : l.any (fun n => !isW n) = false) : okW l := by
  rw [List.any_eq_false] at h
  intro x hx
  have := h x hx
  simp [isW] at this
  omega
theorem sumT_bd {l : List Int} (h : okW l) (k : Nat) (hk : k ≤ l.length) : (k : Int) ≤ sumT l k ∧ sumT l k ≤ 1000 * (k : Int) := by
  induction k with
  | zero => simp [sumT]
  | succ k ih =>
    have h1 := ih (by omega)
    have h2 := okW_at h (show k < l.length by omega)
    rw [sumT_succ (by omega)]
    omega
theorem plc_at {n : Int} {l : List Int} {k : Nat} (hk : k < l.length) (h : plc n l = plc (n - sumT l k) (l.drop k) + k) :
    (n - sumT l k < l.getD k 0 → plc n l = k) ∧ (¬ n - sumT l k < l.getD k 0 → plc n l = plc (n - sumT l (k + 1)) (l.drop (k + 1)) + (k + 1)) := by
  have hd : l.drop k = l.getD k 0 :: l.drop (k + 1) := by
    rw [List.getD_eq_getElem?_getD, List.getElem?_eq_getElem hk]
    simp
  rw [hd] at h
  refine ⟨fun h1 => ?_, fun h1 => ?_⟩
  · rw [plc, if_pos h1] at h; omega
  · rw [plc, if_neg h1] at h
    rw [sumT_succ hk, show n - (sumT l k + l.getD k 0) = n - sumT l k - l.getD k 0 by omega]
    omega

set_option maxRecDepth 100000 in
set_option maxHeartbeats 4000000 in
theorem place_any (n : Int) (l : List Int) (A : Option Addr) (c : Nat) (w : World) (h0 : l ≠ []) (hc : l.length ≤ c) (hl : l.length ≤ 64) (hw : okW l) (hn1 : -4294967296 ≤ n) (hn2 : n < l.sum) (hr : RI w w.heap.size A l) :
    Calls Try.prog 25 #[.int .i64 n, .slice A l.length c] w fun e w' => e = .returned (.int .i64 (plc n l)) ∧ w = w' := by
  have hp : 0 < l.length := List.length_pos_iff.2 h0
  obtain ⟨m, hm⟩ : ∃ m, l.length = m + 1 := ⟨l.length - 1, by omega⟩
  obtain ⟨b1, o1, rfl, hb1, c1⟩ := hr.at_ hp
  have HC1 := Lib.hid c1
  have HW := Lib.hid hw
  have HN2 := Lib.hid hn2
  have tm : decide ((m : Int) < 0) = false := decide_eq_false (by omega)
  have tc : m ≤ c := by omega
  have hm64 : m ≤ 63 := by omega
  have HM := Lib.hid hm
  have HL := Lib.hid hl
  have HC := Lib.hid hc
  rw [hm] at hc ⊢
  clear c1 hw hn2 hr h0 hp hm hl hc
  go_enter Try.func25, Try.ntmps25
  go_wp2_with fail
  go_loop [0, 6, 7, 15] (fun x _ _ i => ∃ k : Nat, k ≤ m ∧ i = .int .i64 k ∧ x = .int .i64 (n - sumT l k) ∧ plc n l = plc (n - sumT l k) (l.drop k) + k ∧ (k = 0 ∨ 0 ≤ n - sumT l k)) (fun _ _ _ i => m - (intOf i).toNat)
  case atStart => exact ⟨0, Nat.zero_le _, rfl, by simp [sumT], by simp [sumT], .inl rfl⟩
  case round =>
    obtain ⟨k, hk, rfl, rfl, hx, hpos⟩ := hrel
    by_cases hlt : k < m
    · have u1 : decide (k < m) = true := decide_eq_true hlt
      have hkl : k < l.length := by have := HM.out; omega
      have e1 := HC1.out k hkl
      have HP := Lib.hid (plc_at hkl hx)
      have HS := Lib.hid (sumT_succ hkl)
      have hq := okW_at HW.out hkl
      have hbd := sumT_bd HW.out k (by omega)
      have HK := Lib.hid hpos
      clear hx hpos
      generalize l.getD k 0 = a at *
      generalize hy : n - sumT l k = y at *
      have HY := Lib.hid hy
      have hyb : -4294967296 - 64000 ≤ y ∧ y ≤ 9223372036854775807 := by
        have := HN2.out
        have h2 := sumT_bd HW.out l.length (Nat.le_refl _)
        rw [sumT_all] at h2
        have := HL.out
        omega
      clear hy
      by_cases hya : y < a
      · have HR := Lib.hid (HP.out.1 hya)
        go_wp2_with fail
        go_ret
        exact ⟨r_int (by rw [HR.out]), rfl⟩
      · have HR := Lib.hid (HP.out.2 hya)
        go_wp2_with fail
        go_round
        case rel => exact ⟨k + 1, by omega, by go_num, by rw [HS.out, ← HY.out]; congr 1; omega, HR.out, .inr (by rw [HS.out]; have := HY.out; omega)⟩
        case measure => simp [intOf]; omega
    · obtain rfl : m = k := by omega
      have HR := Lib.hid (show plc n l = m by
        have hkl : m < l.length := by have := HM.out; omega
        refine (plc_at hkl hx).1 ?_
        have h1 := sumT_succ hkl
        have h2 := sumT_all l
        rw [HM.out] at h2
        have := HN2.out
        omega)
      clear hx
      go_wp2_with fail
      go_ret
      exact ⟨r_int (by rw [HR.out]), rfl⟩
end Go.Proofs.Ytkccciacngjhfaa
