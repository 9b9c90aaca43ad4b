/- Bytes of a text and runs of them: plain mathematics. -/
namespace Go.Proofs.YtmcacmhjhejfeaaGreatDoor.Tk

theorem size_toList (s : ByteArray) : s.data.toList.length = s.size := rfl
/-- the byte at a place; 0 behind the end -/
def bt (s : ByteArray) (i : Nat) : Nat := (s.data.toList.getD i 0).toNat
theorem bt_lt (s : ByteArray) (i : Nat) : bt s i < 256 := UInt8.toNat_lt _
theorem bt_at (s : ByteArray) (i : Nat) (h : i < s.size) : (s[i]'h).toNat = bt s i := by
  unfold bt
  have h2 : i < s.data.toList.length := h
  rw [List.getD_eq_getElem?_getD, List.getElem?_eq_getElem h2]
  rfl
theorem bt_end {s : ByteArray} {i : Nat} (h : s.size ≤ i) : bt s i = 0 := by
  unfold bt
  rw [List.getD_eq_getElem?_getD, List.getElem?_eq_none (by rw [size_toList]; exact h)]; rfl
theorem lt_of_bt {s : ByteArray} {i : Nat} (h : bt s i ≠ 0) : i < s.size := by
  rcases Nat.lt_or_ge i s.size with h1 | h1
  · exact h1
  · exact absurd (bt_end h1) h

def spanF (p : Nat → Bool) (s : ByteArray) : Nat → Nat → Nat
  | 0, i => i
  | n + 1, i => if p (bt s i) = true then spanF p s n (i + 1) else i
/-- the place behind all bytes from i on that meet p -/
def span (p : Nat → Bool) (s : ByteArray) (i : Nat) : Nat := spanF p s (s.size - i) i
theorem span_yes {p : Nat → Bool} {s : ByteArray} {i : Nat} (h : i < s.size) (hp : p (bt s i) = true) : span p s i = span p s (i + 1) := by
  unfold span
  obtain ⟨n, hn⟩ : ∃ n, s.size - i = n + 1 := ⟨s.size - i - 1, by omega⟩
  rw [hn, show s.size - (i + 1) = n by omega]
  simp only [spanF, hp, if_true]
theorem span_end {p : Nat → Bool} {s : ByteArray} {i : Nat} (h : s.size ≤ i) : span p s i = i := by
  unfold span
  rw [show s.size - i = 0 by omega]; rfl
theorem span_no {p : Nat → Bool} {s : ByteArray} {i : Nat} (hp : p (bt s i) = false) : span p s i = i := by
  rcases Nat.lt_or_ge i s.size with h | h
  · unfold span
    obtain ⟨n, hn⟩ : ∃ n, s.size - i = n + 1 := ⟨s.size - i - 1, by omega⟩
    rw [hn]
    simp [spanF, hp]
  · exact span_end h
theorem spanF_ge (p : Nat → Bool) (s : ByteArray) : ∀ n i, i ≤ spanF p s n i := by
  intro n
  induction n with
  | zero => intro i; exact Nat.le_refl _
  | succ n ih => intro i; unfold spanF; split; exact Nat.le_trans (Nat.le_succ i) (ih (i + 1)); exact Nat.le_refl _
theorem spanF_le (p : Nat → Bool) (s : ByteArray) : ∀ n i, spanF p s n i ≤ i + n := by
  intro n
  induction n with
  | zero => intro i; exact Nat.le_refl _
  | succ n ih => intro i; unfold spanF; split; have := ih (i + 1); omega; omega
theorem span_ge (p : Nat → Bool) (s : ByteArray) (i : Nat) : i ≤ span p s i := spanF_ge p s _ i
theorem span_le (p : Nat → Bool) {s : ByteArray} {i : Nat} (h : i ≤ s.size) : span p s i ≤ s.size := by
  have := spanF_le p s (s.size - i) i
  unfold span; omega
theorem spanF_in (p : Nat → Bool) (s : ByteArray) : ∀ n i k, i ≤ k → k < spanF p s n i → p (bt s k) = true := by
  intro n
  induction n with
  | zero => intro i k h1 h2; simp only [spanF] at h2; omega
  | succ n ih =>
    intro i k h1 h2
    unfold spanF at h2
    split at h2
    · rename_i hp
      rcases Nat.lt_or_ge i k with h | h
      · exact ih (i + 1) k h h2
      · obtain rfl : i = k := by omega
        exact hp
    · omega
theorem span_in {p : Nat → Bool} {s : ByteArray} {i k : Nat} (h1 : i ≤ k) (h2 : k < span p s i) : p (bt s k) = true := spanF_in p s _ i k h1 h2
theorem span_pos {p : Nat → Bool} {s : ByteArray} {i : Nat} (h : i < s.size) (hp : p (bt s i) = true) : i < span p s i := by
  rw [span_yes h hp]; exact span_ge p s (i + 1)
/-- with which the run ends -/
theorem span_out {p : Nat → Bool} {s : ByteArray} {i : Nat} (h : span p s i < s.size) : p (bt s (span p s i)) = false := by
  have key : ∀ n i, s.size - i = n → span p s i < s.size → p (bt s (span p s i)) = false := by
    intro n
    induction n with
    | zero => intro i hn h; have := span_ge p s i; omega
    | succ n ih =>
      intro i hn h
      by_cases hp : p (bt s i) = true
      · have e := span_yes (p := p) (show i < s.size by omega) hp
        rw [e] at h ⊢
        exact ih (i + 1) (by omega) h
      · rw [span_no (by simpa using hp)]; simpa using hp
  exact key _ i rfl h

def isBl (c : Nat) : Bool := c == 32 || c == 9 || c == 10 || c == 13
def isDg (c : Nat) : Bool := decide (48 ≤ c) && decide (c ≤ 57)
theorem isDg_iff {c : Nat} : isDg c = true ↔ 48 ≤ c ∧ c ≤ 57 := by simp [isDg]
theorem isDg_no {c : Nat} : isDg c = false ↔ c < 48 ∨ 57 < c := by
  rw [← Bool.not_eq_true, isDg_iff]; omega
theorem isBl_iff {c : Nat} : isBl c = true ↔ c = 32 ∨ c = 9 ∨ c = 10 ∨ c = 13 := by simp [isBl, or_assoc]

/-- the number of a hexadecimal digit; -1 of another byte -/
def hexOf (c : Nat) : Int := if 48 ≤ c ∧ c ≤ 57 then (c : Int) - 48 else if 97 ≤ c ∧ c ≤ 102 then (c : Int) - 87 else if 65 ≤ c ∧ c ≤ 70 then (c : Int) - 55 else -1
theorem hexOf_le (c : Nat) : -1 ≤ hexOf c ∧ hexOf c ≤ 15 := by unfold hexOf; split <;> (try split) <;> (try split) <;> omega
theorem hexOf_end {s : ByteArray} {i : Nat} (h : s.size ≤ i) : hexOf (bt s i) = -1 := by rw [bt_end h]; rfl
/-- k hexadecimal digits from i on, behind the number n: the number, and the place behind them; or -1, and the place of what is none -/
def fourF (s : ByteArray) : Nat → Nat → Int → Int × Nat
  | 0, i, n => (n, i)
  | k + 1, i, n => if hexOf (bt s i) < 0 then (-1, i) else fourF s k (i + 1) (n * 16 + hexOf (bt s i))
def four (s : ByteArray) (i : Nat) : Int × Nat := fourF s 4 i 0
theorem fourF_no {s : ByteArray} {k i : Nat} {n : Int} (h : hexOf (bt s i) < 0) : fourF s (k + 1) i n = (-1, i) := by simp [fourF, h]
theorem fourF_yes {s : ByteArray} {k i : Nat} {n : Int} (h : 0 ≤ hexOf (bt s i)) : fourF s (k + 1) i n = fourF s k (i + 1) (n * 16 + hexOf (bt s i)) := by
  have : ¬ hexOf (bt s i) < 0 := by omega
  simp [fourF, this]
theorem fourF_range (s : ByteArray) : ∀ k i (n : Int), 0 ≤ n → ((fourF s k i n).1 = -1 ∧ i ≤ (fourF s k i n).2 ∧ (fourF s k i n).2 < i + k ∧ hexOf (bt s (fourF s k i n).2) < 0) ∨ (n * 16 ^ k ≤ (fourF s k i n).1 ∧ (fourF s k i n).1 < (n + 1) * 16 ^ k ∧ (fourF s k i n).2 = i + k ∧ ∀ j, i ≤ j → j < i + k → j < s.size) := by
  intro k
  induction k with
  | zero => intro i n hn; right; simp [fourF]; exact ⟨by omega, fun j h1 h2 => absurd h1 (by omega)⟩
  | succ k ih =>
    intro i n hn
    by_cases h : hexOf (bt s i) < 0
    · left; rw [fourF_no h]; exact ⟨rfl, Nat.le_refl _, by show i < i + (k + 1); omega, h⟩
    · have h0 : 0 ≤ hexOf (bt s i) := by omega
      have hl := (hexOf_le (bt s i)).2
      have hi : i < s.size := by
        rcases Nat.lt_or_ge i s.size with h1 | h1
        · exact h1
        · rw [hexOf_end h1] at h; omega
      rw [fourF_yes h0]
      rcases ih (i + 1) (n * 16 + hexOf (bt s i)) (by omega) with ⟨a, b, c, d⟩ | ⟨a, b, c, d⟩
      · left; exact ⟨a, by omega, by omega, d⟩
      · right
        refine ⟨?_, ?_, by omega, fun j h1 h2 => ?_⟩
        · refine Int.le_trans ?_ a
          rw [Int.pow_succ, ← Int.mul_assoc, Int.mul_right_comm]
          exact Int.mul_le_mul_of_nonneg_right (by omega) (Int.pow_nonneg (by decide))
        · refine Int.lt_of_lt_of_le b ?_
          rw [Int.pow_succ, ← Int.mul_assoc, Int.mul_right_comm]
          exact Int.mul_le_mul_of_nonneg_right (by omega) (Int.pow_nonneg (by decide))
        · rcases Nat.lt_or_ge i j with h3 | h3
          · exact d j h3 (by omega)
          · omega
theorem four_range (s : ByteArray) (i : Nat) : ((four s i).1 = -1 ∧ i ≤ (four s i).2 ∧ (four s i).2 < i + 4) ∨ (0 ≤ (four s i).1 ∧ (four s i).1 < 65536 ∧ (four s i).2 = i + 4 ∧ i + 4 ≤ s.size) := by
  rcases fourF_range s 4 i 0 (by decide) with ⟨a, b, c, _⟩ | ⟨a, b, c, d⟩
  · exact .inl ⟨a, b, c⟩
  · refine .inr ⟨by unfold four; omega, by unfold four; omega, c, ?_⟩
    have := d (i + 3) (by omega) (by omega); omega
end Go.Proofs.YtmcacmhjhejfeaaGreatDoor.Tk
