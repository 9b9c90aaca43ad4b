/- Plain mathematics of numbers in figures of four decimal digits, the lowest first. -/
import Derived.WalkKit
namespace Go.Proofs.YtnenipgpncomeaaGreatDoor
namespace Fg

def val : List Int → Int
  | [] => 0
  | d :: l => d + 10000 * val l
def dig (l : List Int) : Prop := ∀ x ∈ l, 0 ≤ x ∧ x < 10000
def figs (n : Nat) : List Int := if n = 0 then [] else ((n % 10000 : Nat) : Int) :: figs (n / 10000)
termination_by n
decreasing_by omega

theorem figs_zero : figs 0 = [] := by unfold figs; simp
theorem figs_pos {n : Nat} (h : 0 < n) : figs n = ((n % 10000 : Nat) : Int) :: figs (n / 10000) := by
  rw [figs]; rw [if_neg (by omega)]
theorem val_figs (n : Nat) : val (figs n) = n := by
  induction n using Nat.strongRecOn with
  | _ n ih =>
    rcases Nat.eq_zero_or_pos n with rfl | h
    · rw [figs_zero]; rfl
    · rw [figs_pos h, val, ih _ (by omega)]; omega
theorem dig_figs (n : Nat) : dig (figs n) := by
  induction n using Nat.strongRecOn with
  | _ n ih =>
    rcases Nat.eq_zero_or_pos n with rfl | h
    · rw [figs_zero]; intro x hx; cases hx
    · rw [figs_pos h]
      intro x hx
      rcases List.mem_cons.1 hx with rfl | hx
      · omega
      · exact ih _ (by omega) x hx
theorem figs_mono {a b : Nat} (h : a ≤ b) : (figs a).length ≤ (figs b).length := by
  induction b using Nat.strongRecOn generalizing a with
  | _ b ih =>
    rcases Nat.eq_zero_or_pos a with rfl | ha
    · rw [figs_zero]; simp
    · rw [figs_pos ha, figs_pos (by omega : 0 < b), List.length_cons, List.length_cons]
      have := ih (b / 10000) (by omega) (a := a / 10000) (by omega)
      omega
theorem figs_lt {a b : Nat} (h : (figs a).length < (figs b).length) : a < b := by
  rcases Nat.lt_or_ge a b with h1 | h1
  · exact h1
  · have := figs_mono h1; omega
theorem figs_len {n k : Nat} (h : n < 10000 ^ k) : (figs n).length ≤ k := by
  induction k generalizing n with
  | zero => obtain rfl : n = 0 := by simpa using h
            rw [figs_zero]; simp
  | succ k ih =>
    rcases Nat.eq_zero_or_pos n with rfl | hn
    · rw [figs_zero]; simp
    · rw [figs_pos hn, List.length_cons]
      have := ih (n := n / 10000) (by rw [Nat.pow_succ] at h; omega)
      omega

theorem dig_cons {d : Int} {l : List Int} (h : dig (d :: l)) : (0 ≤ d ∧ d < 10000) ∧ dig l :=
  ⟨h d (by simp), fun x hx => h x (by simp [hx])⟩
theorem dig_append {l m : List Int} (h : dig l) (k : dig m) : dig (l ++ m) := by
  intro x hx
  rcases List.mem_append.1 hx with hx | hx
  · exact h x hx
  · exact k x hx
theorem dig_take {l : List Int} (h : dig l) (k : Nat) : dig (l.take k) := fun x hx => h x (List.mem_of_mem_take hx)
theorem dig_one {d : Int} (h0 : 0 ≤ d) (h1 : d < 10000) : dig [d] := by
  intro x hx
  obtain rfl : x = d := by simpa using hx
  exact ⟨h0, h1⟩
theorem dig_zeros (k : Nat) : dig (List.replicate k 0) := by
  intro x hx
  obtain rfl := (List.mem_replicate.1 hx).2
  omega
theorem dig_getD {l : List Int} (h : dig l) (k : Nat) : 0 ≤ l.getD k 0 ∧ l.getD k 0 < 10000 := by
  rw [List.getD_eq_getElem?_getD]
  rcases Nat.lt_or_ge k l.length with hk | hk
  · rw [List.getElem?_eq_getElem hk]; exact h _ (List.getElem_mem hk)
  · rw [List.getElem?_eq_none hk]; exact ⟨Int.le_refl _, by decide⟩
theorem val_append (l m : List Int) : val (l ++ m) = val l + 10000 ^ l.length * val m := by
  induction l with
  | nil => simp [val]
  | cons d l ih =>
    rw [List.cons_append, val, ih, val, List.length_cons, Int.pow_succ, Int.mul_add, Int.mul_comm (10000 ^ l.length) 10000, Int.mul_assoc]
    omega
theorem val_zeros (k : Nat) : val (List.replicate k 0) = 0 := by
  induction k with
  | zero => rfl
  | succ k ih => rw [List.replicate_succ, val, ih]; rfl
theorem val_bd {l : List Int} (h : dig l) : 0 ≤ val l ∧ val l < 10000 ^ l.length := by
  induction l with
  | nil => simp [val]
  | cons d l ih =>
    obtain ⟨h1, h2⟩ := dig_cons h
    have := ih h2
    rw [val, List.length_cons, Int.pow_succ]
    omega
theorem getD_take_succ (l : List Int) (k : Nat) (h : k < l.length) : l.take (k + 1) = l.take k ++ [l.getD k 0] := by
  rw [List.take_succ_eq_append_getElem h]; simp [List.getElem?_eq_getElem h]
theorem val_take_succ (l : List Int) (k : Nat) (h : k < l.length) : val (l.take (k + 1)) = val (l.take k) + 10000 ^ k * l.getD k 0 := by
  rw [getD_take_succ l k h, val_append, List.length_take, Nat.min_eq_left (by omega)]
  simp [val]
theorem val_split (l : List Int) (k : Nat) (h : k < l.length) : val l = val (l.take k) + 10000 ^ k * (l.getD k 0 + 10000 * val (l.drop (k + 1))) := by
  have e : l = l.take k ++ (l.getD k 0 :: l.drop (k + 1)) := by
    have h1 : l.getD k 0 = l[k] := by simp [List.getElem?_eq_getElem h]
    rw [h1, ← List.drop_eq_getElem_cons h, List.take_append_drop]
  have h2 := val_append (l.take k) (l.getD k 0 :: l.drop (k + 1))
  rw [← e, List.length_take, Nat.min_eq_left (by omega)] at h2
  rw [h2, val]

/-- figures without a nought at the high end are those of their number -/
theorem figs_of {l : List Int} (h : dig l) (hz : l = [] ∨ l.getD (l.length - 1) 0 ≠ 0) : l = figs (val l).toNat := by
  induction l with
  | nil => simp [val, figs_zero]
  | cons d l ih =>
    obtain ⟨⟨h0, h1⟩, h2⟩ := dig_cons h
    have hv := (val_bd h2).1
    have hl : l = [] ∨ l.getD (l.length - 1) 0 ≠ 0 := by
      cases l with
      | nil => exact .inl rfl
      | cons e l =>
        right
        rcases hz with hz | hz
        · cases hz
        · simpa using hz
    have hi := ih h2 hl
    have hp : 0 < (val (d :: l)).toNat := by
      rw [val]
      cases l with
      | nil =>
        rcases hz with hz | hz
        · cases hz
        · simp at hz
          simp [val]; omega
      | cons e l =>
        have : 0 < val (e :: l) := by
          rcases (by omega : val (e :: l) = 0 ∨ 0 < val (e :: l)) with h3 | h3
          · rw [h3] at hi
            simp [figs_zero] at hi
          · exact h3
        omega
    rw [figs_pos hp, val]
    have e1 : (d + 10000 * val l).toNat % 10000 = d.toNat := by omega
    have e2 : (d + 10000 * val l).toNat / 10000 = (val l).toNat := by omega
    rw [e1, e2, ← hi]
    congr 1
    omega

/-- clean: behind the loop -/
theorem strip_step {l : List Int} {k : Nat} (hk : k ≤ l.length) (hp : 0 < k) (hz : l.getD (k - 1) 0 = 0) (hv : val (l.take k) = val l) : val (l.take (k - 1)) = val l := by
  have h := val_take_succ l (k - 1) (by omega)
  rw [show k - 1 + 1 = k by omega, hz] at h
  omega
theorem strip_end {l : List Int} {k : Nat} (hd : dig l) (hk : k ≤ l.length) (hz : k = 0 ∨ l.getD (k - 1) 0 ≠ 0) (hv : val (l.take k) = val l) : l.take k = figs (val l).toNat := by
  rw [← hv]
  refine figs_of (dig_take hd k) ?_
  rcases hz with hz | hz
  · left; simp [hz]
  · rcases Nat.eq_zero_or_pos k with h0 | h0
    · left; simp [h0]
    · right
      rw [List.length_take, Nat.min_eq_left hk, List.getD_eq_getElem?_getD, List.getElem?_take, if_pos (by omega), ← List.getD_eq_getElem?_getD]
      exact hz

/-- less: where two lists of one length differ first, from the high end -/
theorem less_at {l m : List Int} {k : Nat} (hl : dig l) (hm : dig m) (h1 : k < l.length) (h2 : k < m.length) (he : l.drop (k + 1) = m.drop (k + 1)) (hlt : l.getD k 0 < m.getD k 0) : val l < val m := by
  rw [val_split l k h1, val_split m k h2, he]
  have a := (val_bd (dig_take hl k)).2
  rw [List.length_take, Nat.min_eq_left (by omega)] at a
  have b := (val_bd (dig_take hm k)).1
  have c : (10000 : Int) ^ k * (l.getD k 0 + 10000 * val (m.drop (k + 1)) + 1) ≤ 10000 ^ k * (m.getD k 0 + 10000 * val (m.drop (k + 1))) :=
    Int.mul_le_mul_of_nonneg_left (by omega) (Int.le_of_lt (Int.pow_pos (by decide)))
  rw [Int.mul_add _ _ 1, Int.mul_one] at c
  omega
theorem drop_eq {l m : List Int} {k : Nat} (h1 : k < l.length) (h2 : k < m.length) (he : l.drop (k + 1) = m.drop (k + 1)) (hx : l.getD k 0 = m.getD k 0) : l.drop k = m.drop k := by
  rw [List.drop_eq_getElem_cons h1, List.drop_eq_getElem_cons h2, he]
  rw [List.getD_eq_getElem?_getD, List.getD_eq_getElem?_getD, List.getElem?_eq_getElem h1, List.getElem?_eq_getElem h2] at hx
  simp at hx
  rw [hx]
end Fg
end Go.Proofs.YtnenipgpncomeaaGreatDoor
