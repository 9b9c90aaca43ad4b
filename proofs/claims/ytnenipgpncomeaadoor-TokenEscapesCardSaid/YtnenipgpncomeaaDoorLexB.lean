/- The lexer's ways of a number, and of a hexadecimal digit: contracts. -/
import Derived.Test.YtnenipgpncomeaaDoorLexA
namespace Go.Proofs.YtnenipgpncomeaaDoor
open Go.RowKit
open Tk
set_option linter.unusedVariables false

def eq1 (k : Nat) (c : Nat) : Bool := c == k
theorem set1 (k : UInt8) : SetIs ⟨#[k]⟩ (eq1 k.toNat) := by
  constructor
  · intro c h
    have hc : c = k := UInt8.toNat_inj.1 (by simpa [eq1] using h)
    subst hc
    simp [Lib.indexByte]
  · intro c h
    have hc : ¬ k = c := fun e => by subst e; simp [eq1] at h
    simp [Lib.indexByte, hc]
theorem set2 (j k : UInt8) : SetIs ⟨#[j, k]⟩ (fun c => c == j.toNat || c == k.toNat) := by
  constructor
  · intro c h
    simp only [Bool.or_eq_true, beq_iff_eq] at h
    rcases h with h | h
    · have := UInt8.toNat_inj.1 h; subst this; simp [Lib.indexByte]
    · have := UInt8.toNat_inj.1 h; subst this
      by_cases hj : j = c
      · subst hj; simp [Lib.indexByte]
      · simp [Lib.indexByte, hj]
  · intro c h
    simp only [Bool.or_eq_false_iff, beq_eq_false_iff_ne] at h
    have h1 : ¬ j = c := fun e => h.1 (by rw [e])
    have h2 : ¬ k = c := fun e => h.2 (by rw [e])
    simp [Lib.indexByte, h1, h2]
theorem sign_eq (s : ByteArray) (a : Nat) : (if eq1 45 (bt s a) = true then a + 1 else a) = signE s a := by
  unfold signE eq1
  by_cases h : bt s a = 45
  · simp [h]
  · simp [h]
theorem signE_le {s : ByteArray} {a : Nat} (h : a ≤ s.size) : signE s a ≤ s.size := by
  unfold signE
  split
  · rename_i h1; have := lt_of_bt (s := s) (i := a) (by omega); omega
  · exact h
set_option maxRecDepth 100000 in
theorem int_any5 (b : Nat) (s : ByteArray) (a : Nat) (w : World) (hs : s.size ≤ 1000000) (hc : w.cell? ⟨b, 0, none⟩ = Option.some (.string s)) (ha : a ≤ s.size) :
    Calls Tryd.prog 39 #[.pointer (Option.some ⟨b, 0, none⟩), .int .i64 a] w fun e w' => e = .returned (.tuple #[.int .i64 (intE s a : Nat), .bool (intB s a)]) ∧ w = w' := by
  have HS := Lib.hid (sign_eq s a)
  have hf := signE_le ha
  have HI := Lib.hid (show intE s a = (if bt s (signE s a) = 48 then signE s a + 1 else span isDg s (signE s a)) ∧ intB s a = isDg (bt s (signE s a)) from ⟨rfl, rfl⟩)
  generalize intE s a = E at *
  generalize intB s a = B at *
  generalize signE s a = f at *
  by_cases h48 : bt s f = 48
  · have q1 : (if eq1 48 (bt s f) = true then f + 1 else f) = f + 1 := by simp [eq1, h48]
    have HQ := Lib.hid q1
    have HE := Lib.hid (show E = f + 1 by rw [HI.out.1, if_pos h48])
    have HB := Lib.hid (show B = true by rw [HI.out.2, h48]; rfl)
    have t1 : decide ((f : Int) < (f : Int) + 1) = true := decide_eq_true (by omega)
    have t2 : decide (f < f + 1) = true := decide_eq_true (by omega)
    clear q1 h48
    go_enter Tryd.func39, Tryd.ntmps39
    go_wp2_with fail
    refine (one_any b s ⟨#[45]⟩ (eq1 45) a _ hs hc (set1 45) rfl).mono ?_
    rintro e w2 ⟨rfl, rfl⟩
    rw [HS.out]
    go_wp2_with fail
    refine (one_any b s ⟨#[48]⟩ (eq1 48) f _ hs hc (set1 48) rfl).mono ?_
    rintro e w2 ⟨rfl, rfl⟩
    rw [HQ.out]
    go_wp2_with fail
    go_ret2
    exact ⟨ret_ib2 (by have h := HE.out; omega) HB.out.symm, rfl⟩
  · have q1 : (if eq1 48 (bt s f) = true then f + 1 else f) = f := by simp [eq1, h48]
    have HQ := Lib.hid q1
    have HE := Lib.hid (show E = span isDg s f by rw [HI.out.1, if_neg h48])
    have HB := Lib.hid HI.out.2
    have t1 : decide ((f : Int) < (f : Int)) = false := decide_eq_false (by omega)
    have t2 : decide (f < f) = false := decide_eq_false (by omega)
    clear q1 h48
    go_enter Tryd.func39, Tryd.ntmps39
    go_wp2_with fail
    refine (one_any b s ⟨#[45]⟩ (eq1 45) a _ hs hc (set1 45) rfl).mono ?_
    rintro e w2 ⟨rfl, rfl⟩
    rw [HS.out]
    go_wp2_with fail
    refine (one_any b s ⟨#[48]⟩ (eq1 48) f _ hs hc (set1 48) rfl).mono ?_
    rintro e w2 ⟨rfl, rfl⟩
    rw [HQ.out]
    go_wp2_with fail
    refine (digits_any b s f _ hs hc hf).mono ?_
    rintro e w2 ⟨rfl, rfl⟩
    go_wp2_with fail
    go_ret2
    exact ⟨ret_ib2 (by have h := HE.out; omega) HB.out.symm, rfl⟩
set_option maxRecDepth 100000 in
theorem frac_any5 (b : Nat) (s : ByteArray) (a : Nat) (w : World) (hs : s.size ≤ 1000000) (hc : w.cell? ⟨b, 0, none⟩ = Option.some (.string s)) (ha : a ≤ s.size) :
    Calls Tryd.prog 40 #[.pointer (Option.some ⟨b, 0, none⟩), .int .i64 a] w fun e w' => e = .returned (.tuple #[.int .i64 (fracE s a : Nat), .bool (fracB s a)]) ∧ w = w' := by
  by_cases h46 : bt s a = 46
  · have hl := lt_of_bt (s := s) (i := a) (by omega)
    have HQ := Lib.hid (show (if eq1 46 (bt s a) = true then a + 1 else a) = a + 1 by simp [eq1, h46])
    have HE := Lib.hid (show fracE s a = span isDg s (a + 1) by unfold fracE; rw [if_pos h46])
    have HB := Lib.hid (show fracB s a = isDg (bt s (a + 1)) by unfold fracB; rw [h46]; rfl)
    generalize fracE s a = E at *
    generalize fracB s a = B at *
    have t1 : ((a : Int) + 1 == (a : Int)) = false := by rw [beq_eq_false_iff_ne]; omega
    clear h46
    go_enter Tryd.func40, Tryd.ntmps40
    go_wp2_with fail
    refine (one_any b s ⟨#[46]⟩ (eq1 46) a _ hs hc (set1 46) rfl).mono ?_
    rintro e w2 ⟨rfl, rfl⟩
    rw [HQ.out]
    go_wp2_with fail
    refine (digits_any b s (a + 1) _ hs hc (by omega)).mono ?_
    rintro e w2 ⟨rfl, rfl⟩
    go_wp2_with fail
    go_ret2
    exact ⟨ret_ib2 (by have h := HE.out; omega) HB.out.symm, rfl⟩
  · have HQ := Lib.hid (show (if eq1 46 (bt s a) = true then a + 1 else a) = a by simp [eq1, h46])
    have HE := Lib.hid (show fracE s a = a by unfold fracE; rw [if_neg h46])
    have HB := Lib.hid (show fracB s a = true by unfold fracB; simp [h46])
    generalize fracE s a = E at *
    generalize fracB s a = B at *
    have t1 : ((a : Int) == (a : Int)) = true := by simp
    clear h46
    go_enter Tryd.func40, Tryd.ntmps40
    go_wp2_with fail
    refine (one_any b s ⟨#[46]⟩ (eq1 46) a _ hs hc (set1 46) rfl).mono ?_
    rintro e w2 ⟨rfl, rfl⟩
    rw [HQ.out]
    go_wp2_with fail
    go_ret2
    exact ⟨ret_ib2 (by have h := HE.out; omega) HB.out.symm, rfl⟩
theorem expS_eq (s : ByteArray) (f : Nat) : (if isSg (bt s (f + 1)) = true then f + 1 + 1 else f + 1) = expS s f := rfl
theorem expS_le {s : ByteArray} {f : Nat} (h : f < s.size) : expS s f ≤ s.size := by
  unfold expS
  split
  · rename_i h1
    have := lt_of_bt (s := s) (i := f + 1) (fun e => by rw [e] at h1; cases h1)
    omega
  · omega
set_option maxRecDepth 100000 in
theorem exp_any5 (b : Nat) (s : ByteArray) (a : Nat) (w : World) (hs : s.size ≤ 1000000) (hc : w.cell? ⟨b, 0, none⟩ = Option.some (.string s)) (ha : a ≤ s.size) :
    Calls Tryd.prog 41 #[.pointer (Option.some ⟨b, 0, none⟩), .int .i64 a] w fun e w' => e = .returned (.tuple #[.int .i64 (expE s a : Nat), .bool (expB s a)]) ∧ w = w' := by
  cases hE : isE (bt s a) with
  | true =>
    have hl := lt_of_bt (s := s) (i := a) (fun e => by rw [e] at hE; cases hE)
    have HQ := Lib.hid (show (if isE (bt s a) = true then a + 1 else a) = a + 1 by rw [hE]; rfl)
    have HE := Lib.hid (show expE s a = span isDg s (expS s a) by unfold expE; rw [if_pos hE])
    have HB := Lib.hid (show expB s a = isDg (bt s (expS s a)) by unfold expB; rw [hE]; rfl)
    have HS := Lib.hid (expS_eq s a)
    have hle := expS_le hl
    generalize expE s a = E at *
    generalize expB s a = B at *
    generalize expS s a = f at *
    have t1 : ((a : Int) + 1 == (a : Int)) = false := by rw [beq_eq_false_iff_ne]; omega
    clear hE
    go_enter Tryd.func41, Tryd.ntmps41
    go_wp2_with fail
    refine (one_any b s ⟨#[101, 69]⟩ isE a _ hs hc (set2 101 69) rfl).mono ?_
    rintro e w2 ⟨rfl, rfl⟩
    rw [HQ.out]
    go_wp2_with fail
    refine (one_any b s ⟨#[43, 45]⟩ isSg (a + 1) _ hs hc (set2 43 45) rfl).mono ?_
    rintro e w2 ⟨rfl, rfl⟩
    rw [HS.out]
    go_wp2_with fail
    refine (digits_any b s f _ hs hc hle).mono ?_
    rintro e w2 ⟨rfl, rfl⟩
    go_wp2_with fail
    go_ret2
    exact ⟨ret_ib2 (by have h := HE.out; omega) HB.out.symm, rfl⟩
  | false =>
    have HQ := Lib.hid (show (if isE (bt s a) = true then a + 1 else a) = a by rw [hE]; rfl)
    have HE := Lib.hid (show expE s a = a by unfold expE; rw [hE]; rfl)
    have HB := Lib.hid (show expB s a = true by unfold expB; rw [hE]; rfl)
    generalize expE s a = E at *
    generalize expB s a = B at *
    have t1 : ((a : Int) == (a : Int)) = true := by simp
    clear hE
    go_enter Tryd.func41, Tryd.ntmps41
    go_wp2_with fail
    refine (one_any b s ⟨#[101, 69]⟩ isE a _ hs hc (set2 101 69) rfl).mono ?_
    rintro e w2 ⟨rfl, rfl⟩
    rw [HQ.out]
    go_wp2_with fail
    go_ret2
    exact ⟨ret_ib2 (by have h := HE.out; omega) HB.out.symm, rfl⟩
set_option maxRecDepth 100000 in
theorem hex_any5 (c : Nat) (w : World) (h : c < 256) : Calls Tryd.prog 73 #[.int .u8 c] w fun e w' => e = .returned (.int .i64 (hexOf c)) ∧ w = w' := by
  by_cases h1 : 48 ≤ c ∧ c ≤ 57
  · have HE := Lib.hid (show hexOf c = (c : Int) - 48 by unfold hexOf; rw [if_pos h1])
    have v1 : (48 : Int) ≤ (c : Int) := by omega
    have v2 : (c : Int) ≤ 57 := by omega
    clear h1
    go_enter Tryd.func73, Tryd.ntmps73
    go_wp2_with fail
    go_ret
    exact ⟨ret_i HE.out.symm, rfl⟩
  · by_cases h2 : 97 ≤ c ∧ c ≤ 102
    · have HE := Lib.hid (show hexOf c = (c : Int) - 87 by unfold hexOf; rw [if_neg h1, if_pos h2])
      have v1 : (97 : Int) ≤ (c : Int) := by omega
      have v2 : (c : Int) ≤ 102 := by omega
      have v3 : (48 : Int) ≤ (c : Int) := by omega
      have v4 : ¬ (c : Int) ≤ 57 := by omega
      clear h1 h2
      go_enter Tryd.func73, Tryd.ntmps73
      go_wp2_with fail
      go_ret
      exact ⟨ret_i (by rw [HE.out]; omega), rfl⟩
    · by_cases h3 : 65 ≤ c ∧ c ≤ 70
      · have HE := Lib.hid (show hexOf c = (c : Int) - 55 by unfold hexOf; rw [if_neg h1, if_neg h2, if_pos h3])
        have v1 : (65 : Int) ≤ (c : Int) := by omega
        have v2 : (c : Int) ≤ 70 := by omega
        have v3 : (48 : Int) ≤ (c : Int) := by omega
        have v4 : ¬ (c : Int) ≤ 57 := by omega
        have v5 : ¬ (97 : Int) ≤ (c : Int) := by omega
        clear h1 h2 h3
        go_enter Tryd.func73, Tryd.ntmps73
        go_wp2_with fail
        go_ret
        exact ⟨ret_i (by rw [HE.out]; omega), rfl⟩
      · have HE := Lib.hid (show hexOf c = -1 by unfold hexOf; rw [if_neg h1, if_neg h2, if_neg h3])
        by_cases g1 : c < 48
        · have v3 : ¬ (48 : Int) ≤ (c : Int) := by omega
          have v5 : ¬ (97 : Int) ≤ (c : Int) := by omega
          have v6 : ¬ (65 : Int) ≤ (c : Int) := by omega
          clear h1 h2 h3
          go_enter Tryd.func73, Tryd.ntmps73
          go_wp2_with fail
          go_ret
          exact ⟨ret_i HE.out.symm, rfl⟩
        · have v3 : (48 : Int) ≤ (c : Int) := by omega
          have v4 : ¬ (c : Int) ≤ 57 := by omega
          by_cases g2 : c < 65
          · have v5 : ¬ (97 : Int) ≤ (c : Int) := by omega
            have v6 : ¬ (65 : Int) ≤ (c : Int) := by omega
            clear h1 h2 h3
            go_enter Tryd.func73, Tryd.ntmps73
            go_wp2_with fail
            go_ret
            exact ⟨ret_i HE.out.symm, rfl⟩
          · have v6 : (65 : Int) ≤ (c : Int) := by omega
            have v7 : ¬ (c : Int) ≤ 70 := by omega
            by_cases g3 : c < 97
            · have v5 : ¬ (97 : Int) ≤ (c : Int) := by omega
              clear h1 h2 h3
              go_enter Tryd.func73, Tryd.ntmps73
              go_wp2_with fail
              go_ret
              exact ⟨ret_i HE.out.symm, rfl⟩
            · have v5 : (97 : Int) ≤ (c : Int) := by omega
              have v8 : ¬ (c : Int) ≤ 102 := by omega
              clear h1 h2 h3
              go_enter Tryd.func73, Tryd.ntmps73
              go_wp2_with fail
              go_ret
              exact ⟨ret_i HE.out.symm, rfl⟩
end Go.Proofs.YtnenipgpncomeaaDoor
