/- Plain mathematics: an integer's text is a number's text, of it. -/
import Derived.Test.YtgiapdmoiaiofaaDoorDec
namespace Go.Proofs.YtgiapdmoiaiofaaDoor
namespace De

theorem toNat_dig (d : Nat) (h : d < 10) : (UInt8.ofNat (48 + d)).toNat = 48 + d := by
  rw [UInt8.toNat_ofNat']; omega
theorem dec_small' {M : Nat} (h : M < 10) : Lib.decDigits M = [UInt8.ofNat (48 + M)] := by rw [Lib.decDigits, dif_pos h]
theorem dec_big' {M : Nat} (h : ¬ M < 10) : Lib.decDigits M = Lib.decDigits (M / 10) ++ [UInt8.ofNat (48 + M % 10)] := by
  conv => lhs; rw [Lib.decDigits]
  rw [dif_neg h]
theorem dec_facts (N : Nat) : (∀ c ∈ Lib.decDigits N, isDig c = true) ∧ Lib.decDigits N ≠ [] ∧ (0 < N → (Lib.decDigits N).head? ≠ some 48) ∧ decF 0 (Lib.decDigits N) = N := by
  induction N using Nat.strongRecOn with
  | _ N ih =>
    by_cases h : N < 10
    · have ht := toNat_dig N h
      rw [dec_small' h]
      refine ⟨?_, by simp, ?_, ?_⟩
      · intro c hc
        obtain rfl := List.mem_singleton.1 hc
        exact (dig_iff _).2 (by omega)
      · intro hp he
        simp only [List.head?_cons, Option.some.injEq] at he
        have := congrArg UInt8.toNat he
        rw [ht] at this
        have h48 : (48 : UInt8).toNat = 48 := rfl
        omega
      · show 10 * 0 + ((UInt8.ofNat (48 + N)).toNat - 48) = N
        omega
    · obtain ⟨a, b, c, d⟩ := ih (N / 10) (by omega)
      have ht := toNat_dig (N % 10) (by omega)
      rw [dec_big' h]
      refine ⟨?_, by simp, ?_, ?_⟩
      · intro x hx
        rcases List.mem_append.1 hx with hx | hx
        · exact a x hx
        · obtain rfl := List.mem_singleton.1 hx
          exact (dig_iff _).2 (by omega)
      · intro _
        rw [List.head?_append]
        cases hd : Lib.decDigits (N / 10) with
        | nil => exact absurd hd b
        | cons x y =>
          have h1 := c (by omega)
          rw [hd] at h1
          simpa using h1
      · rw [decF_snoc, d]; omega
theorem dec_len {N k : Nat} (h : N < 10 ^ (k + 1)) : (Lib.decDigits N).length ≤ k + 1 := by
  induction k generalizing N with
  | zero => rw [dec_small' (by simpa using h)]; simp
  | succ k ih =>
    by_cases h10 : N < 10
    · rw [dec_small' h10]; simp
    · rw [dec_big' h10, List.length_append, List.length_singleton]
      have := ih (N := N / 10) (by rw [Nat.pow_succ] at h; omega)
      omega
theorem dec_form (N : Nat) : formD (Lib.decDigits N) = true := by
  obtain ⟨a, b, c, d⟩ := dec_facts N
  unfold formD
  simp only [Bool.and_eq_true, Bool.not_eq_true', List.all_eq_true, Bool.or_eq_true, decide_eq_true_eq]
  refine ⟨⟨by cases h : Lib.decDigits N with | nil => exact absurd h b | cons x y => rfl, a⟩, ?_⟩
  by_cases h : N < 10
  · left; rw [dec_small' h]; rfl
  · right
    have := c (by omega)
    rw [beq_eq_false_iff_ne]
    exact this
theorem dec_head (N : Nat) : (Lib.decDigits N).head? ≠ some 45 := by
  intro e
  obtain ⟨a, b, c, d⟩ := dec_facts N
  cases h : Lib.decDigits N with
  | nil => exact b h
  | cons x y =>
    rw [h] at e
    simp at e
    subst e
    have := (dig_iff _).1 (a 45 (by rw [h]; simp))
    have h45 : (45 : UInt8).toNat = 45 := rfl
    omega
theorem itoa_form (n : Int) : form (Lib.itoa n) = true ∧ numL (Lib.itoa n) = n := by
  unfold Lib.itoa
  by_cases h : n < 0
  · rw [if_pos h]
    have hg : digs (45 :: Lib.decDigits n.natAbs) = Lib.decDigits n.natAbs := rfl
    refine ⟨by unfold form; rw [hg]; exact dec_form _, ?_⟩
    unfold numL
    rw [if_pos (show (45 :: Lib.decDigits n.natAbs).head? = some 45 from rfl), hg, (dec_facts _).2.2.2]
    omega
  · rw [if_neg h]
    have hg : digs (Lib.decDigits n.toNat) = Lib.decDigits n.toNat := by unfold digs; rw [if_neg (dec_head _)]
    refine ⟨by unfold form; rw [hg]; exact dec_form _, ?_⟩
    unfold numL
    rw [if_neg (dec_head _), hg, (dec_facts _).2.2.2]
    omega
theorem itoa_len {n : Int} (h : In64 n) : (Lib.itoa n).length ≤ 30 := by
  unfold In64 at h
  have h1 : n.natAbs < 10 ^ (19 + 1) := by have : (10 : Nat) ^ (19 + 1) = 100000000000000000000 := by decide
                                           omega
  unfold Lib.itoa
  by_cases h0 : n < 0
  · rw [if_pos h0, List.length_cons]
    have := dec_len h1
    omega
  · rw [if_neg h0]
    have := dec_len (N := n.toNat) (k := 19) (by omega)
    omega
end De
end Go.Proofs.YtgiapdmoiaiofaaDoor
