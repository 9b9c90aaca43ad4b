/- A number's text within a text: plain mathematics. -/
import Derived.Test.YtnenipgpncomeaaDoorTok
namespace Go.Proofs.YtnenipgpncomeaaDoor.Tk
open Pl

theorem sub_list (s : ByteArray) (a b : Nat) : (sub s a b).data.toList = (s.data.toList.drop a).take (b - a) := by
  unfold sub
  rw [ByteArray.data_extract, Array.toList_extract, List.extract_eq_take_drop]
theorem drop_cons {s : ByteArray} {i : Nat} (h : i < s.size) : s.data.toList.drop i = s[i] :: s.data.toList.drop (i + 1) := by
  have h2 : i < s.data.toList.length := h
  rw [List.drop_eq_getElem_cons h2]; rfl
theorem isDig_bt {s : ByteArray} {i : Nat} (h : i < s.size) : De.isDig s[i] = isDg (bt s i) := by
  rw [Bool.eq_iff_iff, De.dig_iff, isDg_iff, bt_at s i h]
theorem bt_eq {s : ByteArray} {i : Nat} (h : i < s.size) {c : Nat} (hc : c < 256) : bt s i = c ↔ s[i] = UInt8.ofNat c := by
  rw [← bt_at s i h]
  constructor
  · intro e; apply UInt8.toNat_inj.1; rw [e, UInt8.toNat_ofNat']; omega
  · intro e; rw [e, UInt8.toNat_ofNat']; omega
theorem digs_all {s : ByteArray} : ∀ (n i : Nat), i + n ≤ s.size → (∀ k, i ≤ k → k < i + n → isDg (bt s k) = true) → ((s.data.toList.drop i).take n).all De.isDig = true := by
  intro n
  induction n with
  | zero => intro i _ _; simp
  | succ n ih =>
    intro i h hd
    have hi : i < s.size := by omega
    rw [drop_cons hi, List.take_succ_cons, List.all_cons, isDig_bt hi, hd i (Nat.le_refl _) (by omega), ih (i + 1) (by omega) (fun k h1 h2 => hd k (by omega) (by omega))]
    rfl
theorem num_form {s : ByteArray} {a : Nat} (h : intB s a = true) : De.form (sub s a (intE s a)).data.toList = true ∧ intE s a ≤ s.size ∧ a < intE s a := by
  have hf : signE s a < s.size := lt_of_bt (fun e => by unfold intB at h; rw [e] at h; cases h)
  have hfa : signE s a = a ∨ signE s a = a + 1 ∧ bt s a = 45 := by
    unfold signE; split
    · rename_i h1; exact .inr ⟨rfl, h1⟩
    · exact .inl rfl
  have hsl : bt s a = 45 → signE s a = a + 1 := fun e => by unfold signE; rw [if_pos e]
  unfold intB at h
  generalize hq : signE s a = f at *
  have hb : f < intE s a ∧ intE s a ≤ s.size ∧ (∀ k, f ≤ k → k < intE s a → isDg (bt s k) = true) ∧ (bt s f = 48 → intE s a = f + 1) := by
    unfold intE
    rw [hq]
    split
    · rename_i h1
      exact ⟨by omega, by omega, fun k h2 h3 => by obtain rfl : f = k := by omega
                                                   exact h, fun _ => rfl⟩
    · rename_i h1
      exact ⟨span_pos hf h, span_le _ (Nat.le_of_lt hf), fun k h2 h3 => span_in h2 h3, fun e => absurd e h1⟩
  generalize intE s a = e at *
  obtain ⟨h1, h2, h3, h4⟩ := hb
  refine ⟨?_, h2, by omega⟩
  have hD : De.formD ((s.data.toList.drop f).take (e - f)) = true := by
    unfold De.formD
    obtain ⟨n, hn⟩ : ∃ n, e - f = n + 1 := ⟨e - f - 1, by omega⟩
    rw [hn, digs_all (n + 1) f (by omega) (fun k h5 h6 => h3 k h5 (by omega)), drop_cons hf, List.take_succ_cons]
    simp only [List.isEmpty_cons, Bool.not_false, Bool.true_and, List.head?_cons, Bool.or_eq_true, decide_eq_true_eq, Bool.not_eq_true']
    by_cases h5 : bt s f = 48
    · left
      have := h4 h5
      obtain rfl : n = 0 := by omega
      simp
    · right
      rw [beq_eq_false_iff_ne]
      intro h6
      injection h6 with h6
      exact h5 ((bt_eq hf (by decide)).2 h6)
  unfold De.form
  have : De.digs (sub s a e).data.toList = (s.data.toList.drop f).take (e - f) := by
    unfold De.digs
    rw [sub_list]
    rcases hfa with rfl | ⟨rfl, h45⟩
    · have hne : bt s f ≠ 45 := fun h45 => by have := hsl h45; omega
      rw [if_neg]
      obtain ⟨n, hn⟩ : ∃ n, e - f = n + 1 := ⟨e - f - 1, by omega⟩
      rw [hn, drop_cons hf, List.take_succ_cons, List.head?_cons]
      intro h6
      injection h6 with h6
      exact hne ((bt_eq hf (by decide)).2 h6)
    · have ha : a < s.size := by omega
      obtain ⟨n, hn⟩ : ∃ n, e - a = n + 1 := ⟨e - a - 1, by omega⟩
      rw [hn, drop_cons ha, List.take_succ_cons, List.head?_cons, if_pos (by rw [(bt_eq ha (by decide)).1 h45]; rfl), List.tail_cons, show e - (a + 1) = n by omega]
  rw [this]
  exact hD
/-- the program's ways -/
theorem intE_sign {s : ByteArray} {a : Nat} (h : bt s (signE s a) ≠ 48) : intE s a = span isDg s (signE s a) := if_neg h
theorem intE_zero {s : ByteArray} {a : Nat} (h : bt s (signE s a) = 48) : intE s a = signE s a + 1 := if_pos h
theorem dgs_pos (s : ByteArray) (i : Nat) : decide (i < span isDg s i) = isDg (bt s i) := by
  rw [Bool.eq_iff_iff, decide_eq_true_iff]
  constructor
  · intro h; exact span_in (Nat.le_refl _) h
  · intro h; exact span_pos (lt_of_bt fun e => by rw [e] at h; cases h) h
end Go.Proofs.YtnenipgpncomeaaDoor.Tk
