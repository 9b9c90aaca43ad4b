/- Bytes of a text and runs of them: plain mathematics. Plain mathematics of UTF-8, no program: what a range over a string decodes at a place, against the bytes of points. Plain mathematics: any bytes are the bytes of some points, and a rest at which no point begins. Plain mathematics of quotients of integers of 64 bits. Plain mathematics of numbers' texts: decimal digits, what the library's ParseInt and FormatInt say of them. The tokens of a text: plain mathematics. A number's text within a text: plain mathematics. All tokens of a text: plain mathematics. Values as trees: plain mathematics. The value of a text: plain mathematics, over the tokens. The expression of a text: plain mathematics. The expression of a text: where things stand, and that the steps suffice: plain mathematics. A tree is no deeper than its text is long: plain mathematics. Isos' text: plain mathematics. -/
import Derived.Lib.RuneBytes
import Derived.Laws.RangeAny
import Derived.Laws.Runes
import Derived.WalkKit
import Derived.Lib.ParseIntB
import Derived.Lib.ItoaNum
import Derived.Lib.Strings
import Derived.KernelRfl
namespace Go.Proofs.YtfiahpeajccinaaGreatDoor.Tk

theorem size_toList (s : ByteArray) : s.data.toList.length = s.size := rfl
/-- the byte at a place; 0 behind the end -/
def bt (s : ByteArray) (i : Nat) : Nat := (s.data.toList.getD i 0).toNat
theorem bt_lt (s : ByteArray) (i : Nat) : bt s i < 256 := UInt8.toNat_lt _
theorem bt_at (s : ByteArray) (i : Nat) (h : i < s.size) : (s[i]'h).toNat = bt s i := by
  unfold bt
  have h2 : i < s.data.toList.length := h
  rw [List.getD_eq_getElem?_getD, List.getElem?_eq_getElem h2]
  rfl
theorem bt_end {s : ByteArray} {i : Nat} (h : s.size ≤ i) : bt s i = 0 := by
  unfold bt
  rw [List.getD_eq_getElem?_getD, List.getElem?_eq_none (by rw [size_toList]; exact h)]; rfl
theorem lt_of_bt {s : ByteArray} {i : Nat} (h : bt s i ≠ 0) : i < s.size := by
  rcases Nat.lt_or_ge i s.size with h1 | h1
  · exact h1
  · exact absurd (bt_end h1) h

def spanF (p : Nat → Bool) (s : ByteArray) : Nat → Nat → Nat
  | 0, i => i
  | n + 1, i => if p (bt s i) = true then spanF p s n (i + 1) else i
/-- the place behind all bytes from i on that meet p -/
def span (p : Nat → Bool) (s : ByteArray) (i : Nat) : Nat := spanF p s (s.size - i) i
theorem span_yes {p : Nat → Bool} {s : ByteArray} {i : Nat} (h : i < s.size) (hp : p (bt s i) = true) : span p s i = span p s (i + 1) := by
  unfold span
  obtain ⟨n, hn⟩ : ∃ n, s.size - i = n + 1 := ⟨s.size - i - 1, by omega⟩
  rw [hn, show s.size - (i + 1) = n by omega]
  simp only [spanF, hp, if_true]
theorem span_end {p : Nat → Bool} {s : ByteArray} {i : Nat} (h : s.size ≤ i) : span p s i = i := by
  unfold span
  rw [show s.size - i = 0 by omega]; rfl
theorem span_no {p : Nat → Bool} {s : ByteArray} {i : Nat} (hp : p (bt s i) = false) : span p s i = i := by
  rcases Nat.lt_or_ge i s.size with h | h
  · unfold span
    obtain ⟨n, hn⟩ : ∃ n, s.size - i = n + 1 := ⟨s.size - i - 1, by omega⟩
    rw [hn]
    simp [spanF, hp]
  · exact span_end h
theorem spanF_ge (p : Nat → Bool) (s : ByteArray) : ∀ n i, i ≤ spanF p s n i := by
  intro n
  induction n with
  | zero => intro i; exact Nat.le_refl _
  | succ n ih => intro i; unfold spanF; split; exact Nat.le_trans (Nat.le_succ i) (ih (i + 1)); exact Nat.le_refl _
theorem spanF_le (p : Nat → Bool) (s : ByteArray) : ∀ n i, spanF p s n i ≤ i + n := by
  intro n
  induction n with
  | zero => intro i; exact Nat.le_refl _
  | succ n ih => intro i; unfold spanF; split; have := ih (i + 1); omega; omega
theorem span_ge (p : Nat → Bool) (s : ByteArray) (i : Nat) : i ≤ span p s i := spanF_ge p s _ i
theorem span_le (p : Nat → Bool) {s : ByteArray} {i : Nat} (h : i ≤ s.size) : span p s i ≤ s.size := by
  have := spanF_le p s (s.size - i) i
  unfold span; omega
theorem spanF_in (p : Nat → Bool) (s : ByteArray) : ∀ n i k, i ≤ k → k < spanF p s n i → p (bt s k) = true := by
  intro n
  induction n with
  | zero => intro i k h1 h2; simp only [spanF] at h2; omega
  | succ n ih =>
    intro i k h1 h2
    unfold spanF at h2
    split at h2
    · rename_i hp
      rcases Nat.lt_or_ge i k with h | h
      · exact ih (i + 1) k h h2
      · obtain rfl : i = k := by omega
        exact hp
    · omega
theorem span_in {p : Nat → Bool} {s : ByteArray} {i k : Nat} (h1 : i ≤ k) (h2 : k < span p s i) : p (bt s k) = true := spanF_in p s _ i k h1 h2
theorem span_pos {p : Nat → Bool} {s : ByteArray} {i : Nat} (h : i < s.size) (hp : p (bt s i) = true) : i < span p s i := by
  rw [span_yes h hp]; exact span_ge p s (i + 1)
/-- with which the run ends -/
theorem span_out {p : Nat → Bool} {s : ByteArray} {i : Nat} (h : span p s i < s.size) : p (bt s (span p s i)) = false := by
  have key : ∀ n i, s.size - i = n → span p s i < s.size → p (bt s (span p s i)) = false := by
    intro n
    induction n with
    | zero => intro i hn h; have := span_ge p s i; omega
    | succ n ih =>
      intro i hn h
      by_cases hp : p (bt s i) = true
      · have e := span_yes (p := p) (show i < s.size by omega) hp
        rw [e] at h ⊢
        exact ih (i + 1) (by omega) h
      · rw [span_no (by simpa using hp)]; simpa using hp
  exact key _ i rfl h

def isBl (c : Nat) : Bool := c == 32 || c == 9 || c == 10 || c == 13
def isDg (c : Nat) : Bool := decide (48 ≤ c) && decide (c ≤ 57)
theorem isDg_iff {c : Nat} : isDg c = true ↔ 48 ≤ c ∧ c ≤ 57 := by simp [isDg]
theorem isDg_no {c : Nat} : isDg c = false ↔ c < 48 ∨ 57 < c := by
  rw [← Bool.not_eq_true, isDg_iff]; omega
theorem isBl_iff {c : Nat} : isBl c = true ↔ c = 32 ∨ c = 9 ∨ c = 10 ∨ c = 13 := by simp [isBl, or_assoc]

/-- the number of a hexadecimal digit; -1 of another byte -/
def hexOf (c : Nat) : Int := if 48 ≤ c ∧ c ≤ 57 then (c : Int) - 48 else if 97 ≤ c ∧ c ≤ 102 then (c : Int) - 87 else if 65 ≤ c ∧ c ≤ 70 then (c : Int) - 55 else -1
theorem hexOf_le (c : Nat) : -1 ≤ hexOf c ∧ hexOf c ≤ 15 := by unfold hexOf; split <;> (try split) <;> (try split) <;> omega
theorem hexOf_end {s : ByteArray} {i : Nat} (h : s.size ≤ i) : hexOf (bt s i) = -1 := by rw [bt_end h]; rfl
/-- k hexadecimal digits from i on, behind the number n: the number, and the place behind them; or -1, and the place of what is none -/
def fourF (s : ByteArray) : Nat → Nat → Int → Int × Nat
  | 0, i, n => (n, i)
  | k + 1, i, n => if hexOf (bt s i) < 0 then (-1, i) else fourF s k (i + 1) (n * 16 + hexOf (bt s i))
def four (s : ByteArray) (i : Nat) : Int × Nat := fourF s 4 i 0
theorem fourF_no {s : ByteArray} {k i : Nat} {n : Int} (h : hexOf (bt s i) < 0) : fourF s (k + 1) i n = (-1, i) := by simp [fourF, h]
theorem fourF_yes {s : ByteArray} {k i : Nat} {n : Int} (h : 0 ≤ hexOf (bt s i)) : fourF s (k + 1) i n = fourF s k (i + 1) (n * 16 + hexOf (bt s i)) := by
  have : ¬ hexOf (bt s i) < 0 := by omega
  simp [fourF, this]
theorem fourF_range (s : ByteArray) : ∀ k i (n : Int), 0 ≤ n → ((fourF s k i n).1 = -1 ∧ i ≤ (fourF s k i n).2 ∧ (fourF s k i n).2 < i + k ∧ hexOf (bt s (fourF s k i n).2) < 0) ∨ (n * 16 ^ k ≤ (fourF s k i n).1 ∧ (fourF s k i n).1 < (n + 1) * 16 ^ k ∧ (fourF s k i n).2 = i + k ∧ ∀ j, i ≤ j → j < i + k → j < s.size) := by
  intro k
  induction k with
  | zero => intro i n hn; right; simp [fourF]; exact ⟨by omega, fun j h1 h2 => absurd h1 (by omega)⟩
  | succ k ih =>
    intro i n hn
    by_cases h : hexOf (bt s i) < 0
    · left; rw [fourF_no h]; exact ⟨rfl, Nat.le_refl _, by show i < i + (k + 1); omega, h⟩
    · have h0 : 0 ≤ hexOf (bt s i) := by omega
      have hl := (hexOf_le (bt s i)).2
      have hi : i < s.size := by
        rcases Nat.lt_or_ge i s.size with h1 | h1
        · exact h1
        · rw [hexOf_end h1] at h; omega
      rw [fourF_yes h0]
      rcases ih (i + 1) (n * 16 + hexOf (bt s i)) (by omega) with ⟨a, b, c, d⟩ | ⟨a, b, c, d⟩
      · left; exact ⟨a, by omega, by omega, d⟩
      · right
        refine ⟨?_, ?_, by omega, fun j h1 h2 => ?_⟩
        · refine Int.le_trans ?_ a
          rw [Int.pow_succ, ← Int.mul_assoc, Int.mul_right_comm]
          exact Int.mul_le_mul_of_nonneg_right (by omega) (Int.pow_nonneg (by decide))
        · refine Int.lt_of_lt_of_le b ?_
          rw [Int.pow_succ, ← Int.mul_assoc, Int.mul_right_comm]
          exact Int.mul_le_mul_of_nonneg_right (by omega) (Int.pow_nonneg (by decide))
        · rcases Nat.lt_or_ge i j with h3 | h3
          · exact d j h3 (by omega)
          · omega
theorem four_range (s : ByteArray) (i : Nat) : ((four s i).1 = -1 ∧ i ≤ (four s i).2 ∧ (four s i).2 < i + 4) ∨ (0 ≤ (four s i).1 ∧ (four s i).1 < 65536 ∧ (four s i).2 = i + 4 ∧ i + 4 ≤ s.size) := by
  rcases fourF_range s 4 i 0 (by decide) with ⟨a, b, c, _⟩ | ⟨a, b, c, d⟩
  · exact .inl ⟨a, b, c⟩
  · refine .inr ⟨by unfold four; omega, by unfold four; omega, c, ?_⟩
    have := d (i + 3) (by omega) (by omega); omega
end Go.Proofs.YtfiahpeajccinaaGreatDoor.Tk
namespace Go.Proofs.YtfiahpeajccinaaGreatDoor.Pl

def pt (n : Int) : Bool := decide ((0 ≤ n ∧ n < 55296) ∨ (57343 < n ∧ n ≤ 1114111))
theorem pt_iff (n : Int) : pt n = true ↔ ((0 ≤ n ∧ n < 55296) ∨ (57343 < n ∧ n ≤ 1114111)) := by simp [pt]

/-- The decoder over the bytes from a place on. -/
def decL (L : List UInt8) : Nat × Nat :=
  let b (k : Nat) : Nat := (L.getD k 0).toNat
  let cont (k : Nat) : Bool := decide (k < L.length) && b k / 64 == 2
  if b 0 < 128 then (b 0, 1)
  else if b 0 / 32 == 6 && cont 1 then
    (if (b 0 % 32) * 64 + b 1 % 64 ≥ 128 then ((b 0 % 32) * 64 + b 1 % 64, 2) else (65533, 1))
  else if b 0 / 16 == 14 && cont 1 && cont 2 then
    (if (b 0 % 16) * 4096 + (b 1 % 64) * 64 + b 2 % 64 ≥ 2048 && Utf8.valid (((b 0 % 16) * 4096 + (b 1 % 64) * 64 + b 2 % 64 : Nat) : Int) then ((b 0 % 16) * 4096 + (b 1 % 64) * 64 + b 2 % 64, 3) else (65533, 1))
  else if b 0 / 8 == 30 && cont 1 && cont 2 && cont 3 then
    (if (b 0 % 8) * 262144 + (b 1 % 64) * 4096 + (b 2 % 64) * 64 + b 3 % 64 ≥ 65536 && Utf8.valid (((b 0 % 8) * 262144 + (b 1 % 64) * 4096 + (b 2 % 64) * 64 + b 3 % 64 : Nat) : Int) then ((b 0 % 8) * 262144 + (b 1 % 64) * 4096 + (b 2 % 64) * 64 + b 3 % 64, 4) else (65533, 1))
  else (65533, 1)

theorem get_drop (s : ByteArray) (i k : Nat) : s.get! (i + k) = (s.data.toList.drop i).getD k 0 := by
  rw [List.getD_eq_getElem?_getD, List.getElem?_drop, Array.getElem?_toList]
  rcases s with ⟨d⟩
  show d[i + k]! = _
  by_cases h : i + k < d.size
  · simp [h]
  · simp [h]; rfl

theorem decode_eq (s : ByteArray) (i : Nat) : Utf8.decode s i = decL (s.data.toList.drop i) := by
  have hl : (s.data.toList.drop i).length = s.size - i := by
    rw [List.length_drop, Array.length_toList]; rfl
  have hc : ∀ k, decide (k < (s.data.toList.drop i).length) = decide (i + k < s.size) := by
    intro k; rw [hl]; apply decide_eq_decide.2; omega
  simp only [decL, Utf8.decode, hc, get_drop, Utf8.runeError]

/-- U+FFFD's own bytes. -/
def fffd (L : List UInt8) : Bool := L.take 3 == [239, 191, 189]

/-- A point begins here: what is decoded is no stand-in for bad bytes. -/
def ok (L : List UInt8) : Bool := !L.isEmpty && !((decL L).1 == 65533 && !fffd L)

theorem b8 (x : Int) (_h0 : 0 ≤ x) (h1 : x < 256) : (x.toNat.toUInt8).toNat = x.toNat := by
  simp [Nat.toUInt8]; omega
theorem u8_eq (a : UInt8) (x : Int) (h : (a.toNat : Int) = x) : a = x.toNat.toUInt8 := by
  apply UInt8.toNat_inj.1
  have := a.toNat_lt
  rw [b8 x (by omega) (by omega)]; omega

theorem ok_of_enc (r : Int) (rest : List UInt8) (h : pt r = true) :
    decL (Lib.encodeRune r ++ rest) = (r.toNat, (Lib.encodeRune r).length) ∧ ok (Lib.encodeRune r ++ rest) = true := by
  have hp := (pt_iff r).1 h
  have hv : Utf8.valid r = true := by rw [validRune_eq]; simpa [validRune] using hp
  have key : decL (Lib.encodeRune r ++ rest) = (r.toNat, (Lib.encodeRune r).length) := by
    by_cases h1 : r ≤ 127
    · simp [Lib.encodeRune, Lib.encodeRuneZ_one (by omega) h1, decL, b8 r (by omega) (by omega)]
      omega
    · by_cases h2 : r ≤ 2047
      · have e0 := b8 (192 + r / 64) (by omega) (by omega)
        have e1 := b8 (128 + r % 64) (by omega) (by omega)
        simp only [Lib.encodeRune, Lib.encodeRuneZ_two (by omega) h2, decL, List.map_cons, List.map_nil, List.cons_append, List.nil_append, List.getD_cons_zero, List.getD_cons_succ, e0, e1, List.length_cons, List.length_nil]
        have c0 : ¬ (192 + r / 64).toNat < 128 := by omega
        have c1 : ((192 + r / 64).toNat / 32 == 6) = true := by simp; omega
        have c2 : ((128 + r % 64).toNat / 64 == 2) = true := by simp; omega
        have c3 : decide (1 < rest.length + 1 + 1) = true := by simp
        have c4 : (192 + r / 64).toNat % 32 * 64 + (128 + r % 64).toNat % 64 = r.toNat := by omega
        rw [if_neg c0, c1, c2, c3, c4]
        simp; omega
      · by_cases h3 : r ≤ 65535
        · have e0 := b8 (224 + r / 4096) (by omega) (by omega)
          have e1 := b8 (128 + r / 64 % 64) (by omega) (by omega)
          have e2 := b8 (128 + r % 64) (by omega) (by omega)
          simp only [Lib.encodeRune, Lib.encodeRuneZ_three (show (2048 ≤ r ∧ r < 55296) ∨ (57343 < r ∧ r ≤ 65535) by omega), decL, List.map_cons, List.map_nil, List.cons_append, List.nil_append, List.getD_cons_zero, List.getD_cons_succ, e0, e1, e2, List.length_cons, List.length_nil]
          have c0 : ¬ (224 + r / 4096).toNat < 128 := by omega
          have c1 : ((224 + r / 4096).toNat / 32 == 6) = false := by simp; omega
          have c1' : ((224 + r / 4096).toNat / 16 == 14) = true := by simp; omega
          have c2 : ((128 + r / 64 % 64).toNat / 64 == 2) = true := by simp; omega
          have c2' : ((128 + r % 64).toNat / 64 == 2) = true := by simp; omega
          have c3 : decide (1 < rest.length + 1 + 1 + 1) = true := by simp
          have c3' : decide (2 < rest.length + 1 + 1 + 1) = true := by simp
          have c4 : (224 + r / 4096).toNat % 16 * 4096 + (128 + r / 64 % 64).toNat % 64 * 64 + (128 + r % 64).toNat % 64 = r.toNat := by omega
          rw [if_neg c0, c1, c1', c2, c2', c3, c3', c4, show ((r.toNat : Nat) : Int) = r by omega, hv]
          simp; omega
        · have e0 := b8 (240 + r / 262144) (by omega) (by omega)
          have e1 := b8 (128 + r / 4096 % 64) (by omega) (by omega)
          have e2 := b8 (128 + r / 64 % 64) (by omega) (by omega)
          have e3 := b8 (128 + r % 64) (by omega) (by omega)
          simp only [Lib.encodeRune, Lib.encodeRuneZ_four (show 65536 ≤ r by omega) (show r ≤ 1114111 by omega), decL, List.map_cons, List.map_nil, List.cons_append, List.nil_append, List.getD_cons_zero, List.getD_cons_succ, e0, e1, e2, e3, List.length_cons, List.length_nil]
          have c0 : ¬ (240 + r / 262144).toNat < 128 := by omega
          have c1 : ((240 + r / 262144).toNat / 32 == 6) = false := by simp; omega
          have c1' : ((240 + r / 262144).toNat / 16 == 14) = false := by simp; omega
          have c1'' : ((240 + r / 262144).toNat / 8 == 30) = true := by simp; omega
          have c2 : ((128 + r / 4096 % 64).toNat / 64 == 2) = true := by simp; omega
          have c2' : ((128 + r / 64 % 64).toNat / 64 == 2) = true := by simp; omega
          have c2'' : ((128 + r % 64).toNat / 64 == 2) = true := by simp; omega
          have c3 : decide (1 < rest.length + 1 + 1 + 1 + 1) = true := by simp
          have c3' : decide (2 < rest.length + 1 + 1 + 1 + 1) = true := by simp
          have c3'' : decide (3 < rest.length + 1 + 1 + 1 + 1) = true := by simp
          have c4 : (240 + r / 262144).toNat % 8 * 262144 + (128 + r / 4096 % 64).toNat % 64 * 4096 + (128 + r / 64 % 64).toNat % 64 * 64 + (128 + r % 64).toNat % 64 = r.toNat := by omega
          rw [if_neg c0, c1, c1', c1'', c2, c2', c2'', c3, c3', c3'', c4, show ((r.toNat : Nat) : Int) = r by omega, hv]
          simp; omega
  refine ⟨key, ?_⟩
  unfold ok
  rw [key]
  have hne : (Lib.encodeRune r ++ rest).isEmpty = false := by
    have := (Lib.encodeRuneZ_length r).1
    cases he : Lib.encodeRune r with
    | nil => simp [Lib.encodeRune] at he; rw [he] at this; simp at this
    | cons a l => rfl
  rw [hne]
  by_cases h5 : r = 65533
  · subst h5
    have e : Lib.encodeRune 65533 = [239, 191, 189] := by decide
    simp [fffd, e]
  · have : (r.toNat == 65533) = false := by simp; omega
    rw [this]; rfl


theorem enc_of_ok (L : List UInt8) (h : ok L = true) : pt ((decL L).1 : Int) = true ∧ L = Lib.encodeRune ((decL L).1 : Int) ++ L.drop (decL L).2 ∧ (Lib.encodeRune ((decL L).1 : Int)).length = (decL L).2 := by
  obtain ⟨a, T, rfl⟩ : ∃ a T, L = a :: T := by
    cases L with
    | nil => simp [ok] at h
    | cons a T => exact ⟨a, T, rfl⟩
  have ha := a.toNat_lt
  by_cases f : fffd (a :: T) = true
  · -- its bytes are U+FFFD's own
    obtain ⟨rest, he⟩ : ∃ rest, a :: T = Lib.encodeRune 65533 ++ rest := by
      have e : Lib.encodeRune 65533 = [239, 191, 189] := by decide
      refine ⟨(a :: T).drop 3, ?_⟩
      have := List.take_append_drop 3 (a :: T)
      rw [← this]
      simp only [fffd, beq_iff_eq] at f
      rw [f, e]
      simp
    have := (ok_of_enc 65533 rest (by decide)).1
    rw [he, this]
    refine ⟨by decide, ?_, by simp⟩
    simp
  · have hne : (decL (a :: T)).1 ≠ 65533 := by
      intro e
      simp [ok, e, f] at h
    clear h f
    revert hne
    simp only [decL, List.getD_cons_zero]
    split
    · rename_i h1
      intro _
      refine ⟨(pt_iff _).2 (by omega), ?_, ?_⟩
      · rw [Lib.encodeRune, Lib.encodeRuneZ_one (by omega) (by omega)]
        simp
      · rw [Lib.encodeRune, Lib.encodeRuneZ_one (by omega) (by omega)]; rfl
    · rename_i h1
      split
      · rename_i h2
        simp only [Bool.and_eq_true, beq_iff_eq, decide_eq_true_eq] at h2
        obtain ⟨h2, h3, h4⟩ := h2
        obtain ⟨b, T, rfl⟩ : ∃ b T', T = b :: T' := by
          cases T with
          | nil => simp at h3
          | cons b T => exact ⟨b, T, rfl⟩
        have hb := b.toNat_lt
        simp only [List.getD_cons_succ, List.getD_cons_zero] at h4 ⊢
        split
        · rename_i h5
          intro _
          simp only []
          have e := Lib.encodeRuneZ_two (r := ((a.toNat % 32 * 64 + b.toNat % 64 : Nat) : Int)) (by omega) (by omega)
          refine ⟨(pt_iff _).2 (by omega), ?_, ?_⟩
          · rw [Lib.encodeRune, e]
            simp only [List.map_cons, List.map_nil, List.cons_append, List.nil_append, List.drop_succ_cons, List.drop_zero]
            rw [← u8_eq a _ (by omega), ← u8_eq b _ (by omega)]
          · rw [Lib.encodeRune, e]; rfl
        · intro hn; exact absurd rfl hn
      · split
        · rename_i h0 h2
          simp only [Bool.and_eq_true, beq_iff_eq, decide_eq_true_eq] at h2
          obtain ⟨⟨h2, h3, h4⟩, h3', h4'⟩ := h2
          obtain ⟨b, c, T, rfl⟩ : ∃ b c T', T = b :: c :: T' := by
            cases T with
            | nil => simp at h3
            | cons b T =>
              cases T with
              | nil => simp at h3'
              | cons c T => exact ⟨b, c, T, rfl⟩
          have hb := b.toNat_lt
          have hc := c.toNat_lt
          simp only [List.getD_cons_succ, List.getD_cons_zero] at h4 h4' ⊢
          split
          · rename_i h5
            intro _
            simp only [Bool.and_eq_true, decide_eq_true_eq] at h5
            obtain ⟨h5, h6⟩ := h5
            rw [validRune_eq] at h6
            simp only [validRune, decide_eq_true_eq] at h6
            simp only []
            have e := Lib.encodeRuneZ_three (r := ((a.toNat % 16 * 4096 + b.toNat % 64 * 64 + c.toNat % 64 : Nat) : Int)) (by omega)
            refine ⟨(pt_iff _).2 (by omega), ?_, ?_⟩
            · rw [Lib.encodeRune, e]
              simp only [List.map_cons, List.map_nil, List.cons_append, List.nil_append, List.drop_succ_cons, List.drop_zero]
              rw [← u8_eq a _ (by omega), ← u8_eq b _ (by omega), ← u8_eq c _ (by omega)]
            · rw [Lib.encodeRune, e]; rfl
          · intro hn; exact absurd rfl hn
        · split
          · rename_i h0 h00 h2
            simp only [Bool.and_eq_true, beq_iff_eq, decide_eq_true_eq] at h2
            obtain ⟨⟨⟨h2, h3, h4⟩, h3', h4'⟩, h3'', h4''⟩ := h2
            obtain ⟨b, c, d, T, rfl⟩ : ∃ b c d T', T = b :: c :: d :: T' := by
              cases T with
              | nil => simp at h3
              | cons b T =>
                cases T with
                | nil => simp at h3'
                | cons c T =>
                  cases T with
                  | nil => simp at h3''
                  | cons d T => exact ⟨b, c, d, T, rfl⟩
            have hb := b.toNat_lt
            have hc := c.toNat_lt
            have hd := d.toNat_lt
            simp only [List.getD_cons_succ, List.getD_cons_zero] at h4 h4' h4'' ⊢
            split
            · rename_i h5
              intro _
              simp only [Bool.and_eq_true, decide_eq_true_eq] at h5
              obtain ⟨h5, h6⟩ := h5
              rw [validRune_eq] at h6
              simp only [validRune, decide_eq_true_eq] at h6
              simp only []
              have e := Lib.encodeRuneZ_four (r := ((a.toNat % 8 * 262144 + b.toNat % 64 * 4096 + c.toNat % 64 * 64 + d.toNat % 64 : Nat) : Int)) (by omega) (by omega)
              refine ⟨(pt_iff _).2 (by omega), ?_, ?_⟩
              · rw [Lib.encodeRune, e]
                simp only [List.map_cons, List.map_nil, List.cons_append, List.nil_append, List.drop_succ_cons, List.drop_zero]
                rw [← u8_eq a _ (by omega), ← u8_eq b _ (by omega), ← u8_eq c _ (by omega), ← u8_eq d _ (by omega)]
              · rw [Lib.encodeRune, e]; rfl
            · intro hn; exact absurd rfl hn
          · intro hn; exact absurd rfl hn

end Go.Proofs.YtfiahpeajccinaaGreatDoor.Pl
namespace Go.Proofs.YtfiahpeajccinaaGreatDoor.Pl

def flat (l : List Int) : List UInt8 := l.flatMap Lib.encodeRune
theorem flat_nil : flat [] = [] := rfl
theorem flat_cons (x : Int) (l : List Int) : flat (x :: l) = Lib.encodeRune x ++ flat l := by simp [flat]
theorem flat_append (l m : List Int) : flat (l ++ m) = flat l ++ flat m := by simp [flat]

theorem enc_len (r : Int) : 1 ≤ (Lib.encodeRune r).length ∧ (Lib.encodeRune r).length ≤ 4 := by
  have := Lib.encodeRuneZ_length r
  simpa [Lib.encodeRune] using this

/-- The bytes S are those of the points l, and behind them R, at which no point begins. -/
def Split (S : List UInt8) (l : List Int) (R : List UInt8) : Prop := S = flat l ++ R ∧ ok R = false ∧ ∀ x ∈ l, pt x = true

theorem split_ex : ∀ (n : Nat) (S : List UInt8), S.length ≤ n → ∃ l R, Split S l R := by
  intro n
  induction n with
  | zero =>
    intro S h
    obtain rfl : S = [] := List.eq_nil_of_length_eq_zero (by omega)
    exact ⟨[], [], rfl, rfl, by simp⟩
  | succ n ih =>
    intro S h
    cases ho : ok S with
    | false => exact ⟨[], S, rfl, ho, by simp⟩
    | true =>
      obtain ⟨h1, h2, h3⟩ := enc_of_ok S ho
      have hl := (enc_len ((decL S).1 : Int)).1
      obtain ⟨l, R, e1, e2, e3⟩ := ih (S.drop (decL S).2) (by rw [List.length_drop]; omega)
      refine ⟨((decL S).1 : Int) :: l, R, ?_, e2, ?_⟩
      · rw [flat_cons, List.append_assoc, ← e1]; exact h2
      · intro x hx
        rcases List.mem_cons.1 hx with rfl | hx
        · exact h1
        · exact e3 x hx

/-- where the k-th point begins -/
def off (l : List Int) (k : Nat) : Nat := (flat (l.take k)).length
theorem off_zero (l : List Int) : off l 0 = 0 := rfl
theorem off_all (l : List Int) : off l l.length = (flat l).length := by simp [off]
theorem off_succ (l : List Int) (k : Nat) (h : k < l.length) : off l (k + 1) = off l k + (Lib.encodeRune (l.getD k 0)).length := by
  unfold off
  rw [List.take_succ_eq_append_getElem h, flat_append, List.length_append]
  simp [flat, List.getElem?_eq_getElem h]
theorem off_lt (l : List Int) (k : Nat) (h : k < l.length) : off l k < off l (k + 1) := by
  rw [off_succ l k h]; have := (enc_len (l.getD k 0)).1; omega
theorem off_le (l : List Int) (k : Nat) : off l k ≤ (flat l).length := by
  have : flat l = flat (l.take k) ++ flat (l.drop k) := by rw [← flat_append, List.take_append_drop]
  rw [this, List.length_append]; unfold off; omega
theorem len_le (l : List Int) : l.length ≤ (flat l).length := by
  induction l with
  | nil => simp
  | cons x l ih => rw [flat_cons, List.length_append, List.length_cons]; have := (enc_len x).1; omega
theorem le_off (l : List Int) (k : Nat) (h : k ≤ l.length) : k ≤ off l k := by
  have := len_le (l.take k)
  rw [List.length_take] at this
  unfold off; omega

theorem drop_off (l : List Int) (R : List UInt8) (k : Nat) : (flat l ++ R).drop (off l k) = flat (l.drop k) ++ R := by
  have : flat l = flat (l.take k) ++ flat (l.drop k) := by rw [← flat_append, List.take_append_drop]
  rw [this, List.append_assoc, off, List.drop_left]
theorem drop_all (l : List Int) (R : List UInt8) : (flat l ++ R).drop (flat l).length = R := List.drop_left
theorem drop_at (l : List Int) (R : List UInt8) (k : Nat) (h : k < l.length) :
    (flat l ++ R).drop (off l k) = Lib.encodeRune (l.getD k 0) ++ (flat (l.drop (k + 1)) ++ R) := by
  rw [drop_off, List.drop_eq_getElem_cons h, flat_cons, List.append_assoc]
  simp [List.getElem?_eq_getElem h]

section
variable {s : ByteArray} {l : List Int} {R : List UInt8}
theorem Split.size (h : Split s.data.toList l R) : s.size = (flat l).length + R.length := by
  have := congrArg List.length h.1
  rw [List.length_append, Array.length_toList] at this
  exact this
theorem Split.ptAt (h : Split s.data.toList l R) {k : Nat} (hk : k < l.length) : pt (l.getD k 0) = true := by
  apply h.2.2
  rw [List.getD_eq_getElem?_getD, List.getElem?_eq_getElem hk]
  exact List.getElem_mem hk
theorem Split.dec (h : Split s.data.toList l R) {k : Nat} (hk : k < l.length) :
    Utf8.decode s (off l k) = ((l.getD k 0).toNat, (Lib.encodeRune (l.getD k 0)).length) ∧ ok (s.data.toList.drop (off l k)) = true := by
  rw [decode_eq, h.1, drop_at l R k hk]
  exact ok_of_enc _ _ (h.ptAt hk)
theorem Split.bad (h : Split s.data.toList l R) (hR : R ≠ []) : (Utf8.decode s (flat l).length).1 = 65533 ∧ fffd (s.data.toList.drop (flat l).length) = false := by
  rw [decode_eq, h.1, drop_all]
  have h2 := h.2.1
  cases R with
  | nil => exact absurd rfl hR
  | cons a T =>
    simp [ok] at h2
    exact h2

/-- What a range over the bytes finds where the k-th point begins. -/
theorem Split.step (h : Split s.data.toList l R) {k : Nat} (hk : k < l.length) :
    (Utf8.decode s (off l k)).1 = (l.getD k 0).toNat ∧ off l k + (Utf8.decode s (off l k)).2 = off l (k + 1) ∧ off l k < s.size ∧ off l k < off l (k + 1) ∧ off l (k + 1) ≤ s.size ∧
      (l.getD k 0).toNat ≤ 1114111 ∧ ((((l.getD k 0).toNat : Nat) : Int) = l.getD k 0) ∧ ((l.getD k 0).toNat = 65533 → fffd (s.data.toList.drop (off l k)) = true) := by
  have hd := h.dec hk
  have hoff := off_succ l k hk
  have hle := off_le l (k + 1)
  have hlt := off_lt l k hk
  have hsz := h.size
  have hp := (pt_iff _).1 (h.ptAt hk)
  refine ⟨by rw [hd.1], by rw [hd.1, hoff], by omega, hlt, by omega, by omega, by omega, ?_⟩
  intro e
  have h2 := hd.2
  have h1 := congrArg Prod.fst hd.1
  rw [decode_eq] at h1
  simp only [ok, h1, e] at h2
  simp at h2
  exact h2.2
end
end Go.Proofs.YtfiahpeajccinaaGreatDoor.Pl
namespace Go.Proofs.YtfiahpeajccinaaGreatDoor
open Go.RowKit

/-- an integer of 64 bits -/
def In64 (n : Int) : Prop := -9223372036854775808 ≤ n ∧ n ≤ 9223372036854775807

theorem tdiv_abs (a b : Int) : (a.tdiv b).natAbs ≤ a.natAbs := by
  rw [Int.natAbs_tdiv]; exact Nat.div_le_self _ _
theorem tdiv_in (a b : Int) (ha : In64 a) (hb : b ≠ -1) : In64 (a.tdiv b) := by
  unfold In64 at *
  have h1 := tdiv_abs a b
  by_cases h0 : a = -9223372036854775808
  · by_cases hb1 : b = 1
    · subst hb1; rw [Int.tdiv_one]; omega
    · by_cases hb0 : b = 0
      · subst hb0; rw [Int.tdiv_zero]; omega
      · have h2 : (a.tdiv b).natAbs ≤ a.natAbs / 2 := by
          rw [Int.natAbs_tdiv]
          exact Nat.div_le_div_left (by omega) (by omega)
        omega
  · omega
/-- what a quotient leaves -/
theorem tmod_eq (a b : Int) : a.tmod b = a - b * a.tdiv b := by have := Int.mul_tdiv_add_tmod a b; omega
theorem tmod_small (a b : Int) (hb : b ≠ 0) : (a.tmod b).natAbs < b.natAbs := by
  rw [Int.natAbs_tmod]; exact Nat.mod_lt _ (by omega)
theorem tmod_abs (a b : Int) : (a.tmod b).natAbs ≤ a.natAbs := by
  rw [Int.natAbs_tmod]; exact Nat.mod_le _ _
theorem tmod_side (a b : Int) : (0 ≤ a → 0 ≤ a.tmod b) ∧ (a ≤ 0 → a.tmod b ≤ 0) := by
  constructor
  · intro h; exact Int.tmod_nonneg _ h
  · intro h
    have h1 := Int.neg_tmod a b
    have h2 := Int.tmod_nonneg b (a := -a) (by omega)
    omega
theorem tmod_in (a b : Int) (ha : In64 a) : In64 (a.tmod b) := by
  unfold In64 at *
  have h1 := tmod_abs a b
  have h2 := tmod_side a b
  rcases (by omega : 0 ≤ a ∨ a ≤ 0) with h | h
  · have := h2.1 h; omega
  · have := h2.2 h; omega

/-- a product of 64 bits, divided again, is what was multiplied just if it fits -/
theorem mul_back (a b : Int) (hb : b ≠ 0) (h : In64 (a * b)) : (wrap64 (a * b)).tdiv b = a := by
  unfold In64 at h
  have : wrap64 (a * b) = a * b := by unfold wrap64; omega
  rw [this, Int.mul_tdiv_cancel _ hb]
theorem mul_lost (a b : Int) (hb : b ≠ 0) (hi : In64 b) (h : ¬ In64 (a * b)) : (wrap64 (a * b)).tdiv b ≠ a := by
  intro e
  unfold In64 at *
  have h1 := Int.mul_tdiv_add_tmod (wrap64 (a * b)) b
  have h2 := tmod_small (wrap64 (a * b)) b hb
  rw [e, Int.mul_comm b a] at h1
  generalize (wrap64 (a * b)).tmod b = r at *
  unfold wrap64 at h1
  generalize a * b = p at *
  omega
end Go.Proofs.YtfiahpeajccinaaGreatDoor
namespace Go.Proofs.YtfiahpeajccinaaGreatDoor
namespace De

def isDig (c : UInt8) : Bool := decide (48 ≤ c.toNat ∧ c.toNat ≤ 57)
theorem dig_iff (c : UInt8) : isDig c = true ↔ 48 ≤ c.toNat ∧ c.toNat ≤ 57 := by simp [isDig]
/-- the text behind a sign -/
def digs (L : List UInt8) : List UInt8 := if L.head? = some 45 then L.tail else L
def formD (D : List UInt8) : Bool := !D.isEmpty && D.all isDig && (decide (D.length = 1) || !(D.head? == some 48))
def form (L : List UInt8) : Bool := formD (digs L)
/-- the number of digits, behind what stands ahead of them -/
def decF (a : Nat) (D : List UInt8) : Nat := D.foldl (fun a c => 10 * a + (c.toNat - 48)) a
def numL (L : List UInt8) : Int := if L.head? = some 45 then -(decF 0 (digs L) : Int) else decF 0 (digs L)

theorem decF_le (D : List UInt8) : ∀ a, a ≤ decF a D := by
  induction D with
  | nil => intro a; exact Nat.le_refl _
  | cons c D ih => intro a; have := ih (10 * a + (c.toNat - 48)); unfold decF at *; rw [List.foldl_cons]; omega
theorem decF_snoc (D : List UInt8) (c : UInt8) (a : Nat) : decF a (D ++ [c]) = 10 * decF a D + (c.toNat - 48) := by
  unfold decF; rw [List.foldl_append]; rfl
theorem decF_lt (D : List UInt8) (h : ∀ c ∈ D, isDig c = true) : decF 0 D < 10 ^ D.length := by
  obtain ⟨n, hn⟩ : ∃ n, n = D.length := ⟨_, rfl⟩
  induction n generalizing D with
  | zero => rw [← hn, List.eq_nil_of_length_eq_zero hn.symm]; simp [decF]
  | succ n ih =>
    obtain ⟨E, c, rfl⟩ : ∃ E c, D = E ++ [c] := by
      rcases List.eq_nil_or_concat D with rfl | ⟨E, c, h⟩
      · simp at hn
      · exact ⟨E, c, by rw [h, List.concat_eq_append]⟩
    rw [List.length_append, List.length_singleton] at hn
    have h1 := ih E (fun x hx => h x (by simp [hx])) (by omega)
    have h2 := (dig_iff c).1 (h c (by simp))
    rw [decF_snoc, List.length_append, List.length_singleton, Nat.pow_succ]
    omega

theorem parseU (M : Nat) (hM : M = 18446744073709551615) (D : List UInt8) (h : ∀ c ∈ D, isDig c = true) : ∀ a, a ≤ M → Lib.parseUintM M a D = if decF a D ≤ M then .ok (decF a D) else .range := by
  induction D with
  | nil => intro a ha; rw [Lib.parseUintM]; show _ = if a ≤ M then _ else _; rw [if_pos ha]; rfl
  | cons c D ih =>
    intro a ha
    have hc := (dig_iff c).1 (h c (by simp))
    have e : decF a (c :: D) = decF (a * 10 + (c.toNat - 48)) D := by unfold decF; rw [List.foldl_cons, Nat.mul_comm]
    have hle := decF_le D (a * 10 + (c.toNat - 48))
    rw [Lib.parseUintM, if_pos hc, e]
    by_cases h1 : 1844674407370955162 ≤ a
    · rw [if_pos h1, if_neg (by omega)]
    · rw [if_neg h1]
      by_cases h2 : M < a * 10 + (c.toNat - 48)
      · rw [if_pos h2, if_neg (by omega)]
      · rw [if_neg h2]
        exact ih (fun x hx => h x (by simp [hx])) _ (by omega)

theorem form_digs {L : List UInt8} (h : form L = true) : digs L ≠ [] ∧ ∀ c ∈ digs L, isDig c = true := by
  unfold form formD at h
  simp only [Bool.and_eq_true, Bool.not_eq_true', List.all_eq_true] at h
  exact ⟨by intro e; rw [e] at h; simp at h, h.1.2⟩
theorem parseI {L : List UInt8} (h : form L = true) : Lib.parseIntB 64 L = if -9223372036854775808 ≤ numL L ∧ numL L ≤ 9223372036854775807 then Lib.NumEnd.ok (numL L) else Lib.NumEnd.range := by
  obtain ⟨hne, hd⟩ := form_digs h
  have hp := parseU (2 ^ 64 - 1) (by decide) (digs L) hd 0 (Nat.zero_le _)
  have hB : Lib.parseUintB 64 (digs L) = if decF 0 (digs L) ≤ 2 ^ 64 - 1 then .ok (decF 0 (digs L)) else .range := by
    unfold Lib.parseUintB; rw [if_neg hne]; exact hp
  cases L with
  | nil => exact absurd rfl hne
  | cons c r =>
    have e45 : (List.head? (c :: r) = some 45) ↔ c.toNat = 45 := by
      simp only [List.head?_cons, Option.some.injEq]
      constructor
      · rintro rfl; rfl
      · intro h; exact UInt8.toNat_inj.1 (by rw [h]; rfl)
    by_cases hs : c.toNat = 45
    · have hg : digs (c :: r) = r := by unfold digs; rw [if_pos (e45.2 hs)]; rfl
      have hn : numL (c :: r) = -(decF 0 r : Int) := by unfold numL; rw [if_pos (e45.2 hs), hg]
      have ht : (if c.toNat = 43 ∨ c.toNat = 45 then r else c :: r) = r := if_pos (Or.inr hs)
      rw [hg] at hB
      rw [hn]
      simp only [Lib.parseIntB, ht, hB]
      by_cases h1 : decF 0 r ≤ 2 ^ 64 - 1
      · rw [if_pos h1]
        simp only [hs, not_true_eq_false, false_and, if_false, true_and, if_true]
        by_cases h2 : 2 ^ (64 - 1) < decF 0 r
        · rw [if_pos h2, if_neg (by omega)]
        · rw [if_neg h2, if_pos (by omega)]
      · rw [if_neg h1, if_neg (by omega)]
    · have hg : digs (c :: r) = c :: r := by unfold digs; rw [if_neg (fun e => hs (e45.1 e))]
      have hn : numL (c :: r) = (decF 0 (c :: r) : Int) := by unfold numL; rw [if_neg (fun e => hs (e45.1 e)), hg]
      rw [hg] at hB hd
      have hc := (dig_iff c).1 (hd c (by simp))
      have ht : (if c.toNat = 43 ∨ c.toNat = 45 then r else c :: r) = c :: r := if_neg (by omega)
      rw [hn]
      simp only [Lib.parseIntB, ht, hB]
      by_cases h1 : decF 0 (c :: r) ≤ 2 ^ 64 - 1
      · rw [if_pos h1]
        simp only [hs, not_false_eq_true, true_and, false_and, if_false]
        by_cases h2 : 2 ^ (64 - 1) ≤ decF 0 (c :: r)
        · rw [if_pos h2, if_neg (by omega)]
        · rw [if_neg h2, if_pos (by omega)]
      · rw [if_neg h1, if_neg (by omega)]

theorem trim_digs (L : List UInt8) : Lib.trimPrefix L [45] = digs L := by
  unfold Lib.trimPrefix digs Lib.hasPrefix
  cases L with
  | nil => rfl
  | cons c r =>
    by_cases h : c = 45
    · subst h; rfl
    · have h1 : ¬ (45 : UInt8) = c := fun e => h e.symm
      simp [List.isPrefixOf, h, h1]

/-- what a range over a string reads where a byte below 128 stands, and where none does -/
theorem decode_low (s : ByteArray) (k : Nat) (hk : k < s.size) (h : (s.data.toList.getD k 0).toNat < 128) : Utf8.decode s k = ((s.data.toList.getD k 0).toNat, 1) := by
  have e : s.get! k = s.data.toList.getD k 0 := by
    rw [List.getD_eq_getElem?_getD, Array.getElem?_toList]
    rcases s with ⟨d⟩
    show d[k]! = _
    have hd : k < d.size := hk
    simp [hd]
  simp only [Utf8.decode, Nat.add_zero, e]
  rw [if_pos h]
theorem decode_high (s : ByteArray) (k : Nat) (hk : k < s.size) (h : ¬ (s.data.toList.getD k 0).toNat < 128) : 128 ≤ (Utf8.decode s k).1 := by
  have e : s.get! k = s.data.toList.getD k 0 := by
    rw [List.getD_eq_getElem?_getD, Array.getElem?_toList]
    rcases s with ⟨d⟩
    show d[k]! = _
    have hd : k < d.size := hk
    simp [hd]
  simp only [Utf8.decode, Nat.add_zero, e]
  rw [if_neg h]
  repeat' split
  all_goals simp_all [Utf8.runeError]
  all_goals omega
end De
end Go.Proofs.YtfiahpeajccinaaGreatDoor
namespace Go.Proofs.YtfiahpeajccinaaGreatDoor.Tk
open Pl

structure Tok where
  kind : Int
  text : ByteArray
  num : Int
  at_ : Nat
  fin : Nat
/-- an answer: a token, or a place and an error -/
inductive Ans where
  | tok (t : Tok)
  | err (p : Nat) (e : Int)
def nix : ByteArray := ⟨#[]⟩
def isMark (c : Nat) : Bool := c == 123 || c == 125 || c == 91 || c == 93 || c == 58 || c == 44
def one (c : Nat) : ByteArray := ⟨#[c.toUInt8]⟩
/-- behind a word's bytes, as far as they stand there -/
def wordE (s : ByteArray) : List Nat → Nat → Nat
  | [], i => i
  | c :: r, i => if bt s i = c then wordE s r (i + 1) else i
theorem wordE_ge (s : ByteArray) : ∀ l i, i ≤ wordE s l i := by
  intro l
  induction l with
  | nil => intro i; exact Nat.le_refl _
  | cons c r ih => intro i; unfold wordE; split; exact Nat.le_trans (Nat.le_succ i) (ih _); exact Nat.le_refl _
theorem wordE_le (s : ByteArray) : ∀ l i, wordE s l i ≤ i + l.length := by
  intro l
  induction l with
  | nil => intro i; exact Nat.le_refl _
  | cons c r ih => intro i; unfold wordE; split; (have := ih (i + 1); simp; omega); simp
theorem wordE_size {s : ByteArray} : ∀ l i, (∀ c ∈ l, c ≠ 0) → i ≤ s.size → wordE s l i ≤ s.size := by
  intro l
  induction l with
  | nil => intro i _ h; exact h
  | cons c r ih =>
    intro i hc h
    unfold wordE
    split
    · rename_i hb
      have h1 := lt_of_bt (s := s) (i := i) (by rw [hb]; exact hc c List.mem_cons_self)
      exact ih (i + 1) (fun c hm => hc c (List.mem_cons_of_mem _ hm)) h1
    · exact h
def wordOf (c : Nat) : List Nat := if c = 116 then [116, 114, 117, 101] else if c = 102 then [102, 97, 108, 115, 101] else [110, 117, 108, 108]
def kindOf (c : Nat) : Int := if c = 116 then 4 else if c = 102 then 5 else 6
def wordAns (s : ByteArray) (a : Nat) : Ans :=
  if wordE s (wordOf (bt s a)) a = a + (wordOf (bt s a)).length then .tok ⟨kindOf (bt s a), nix, 0, a, a + (wordOf (bt s a)).length⟩ else .err (wordE s (wordOf (bt s a)) a) 1

/-- behind a number's text; false: it is none, and the place is that of what can't stand there -/
def signE (s : ByteArray) (a : Nat) : Nat := if bt s a = 45 then a + 1 else a
def intE (s : ByteArray) (a : Nat) : Nat := if bt s (signE s a) = 48 then signE s a + 1 else span isDg s (signE s a)
def intB (s : ByteArray) (a : Nat) : Bool := isDg (bt s (signE s a))
def fracE (s : ByteArray) (b : Nat) : Nat := if bt s b = 46 then span isDg s (b + 1) else b
def fracB (s : ByteArray) (b : Nat) : Bool := !(bt s b == 46) || isDg (bt s (b + 1))
def isE (c : Nat) : Bool := c == 101 || c == 69
def isSg (c : Nat) : Bool := c == 43 || c == 45
def expS (s : ByteArray) (f : Nat) : Nat := if isSg (bt s (f + 1)) = true then f + 2 else f + 1
def expE (s : ByteArray) (f : Nat) : Nat := if isE (bt s f) = true then span isDg s (expS s f) else f
def expB (s : ByteArray) (f : Nat) : Bool := !isE (bt s f) || isDg (bt s (expS s f))
def sub (s : ByteArray) (a b : Nat) : ByteArray := s.extract a b
def In64 (z : Int) : Prop := -9223372036854775808 ≤ z ∧ z ≤ 9223372036854775807
instance (z : Int) : Decidable (In64 z) := by unfold In64; infer_instance
def numAns (s : ByteArray) (a : Nat) : Ans :=
  if intB s a = false then .err (intE s a) 1
  else if fracB s (intE s a) = false then .err (fracE s (intE s a)) 1
  else if expB s (fracE s (intE s a)) = false then .err (expE s (fracE s (intE s a))) 1
  else if intE s a < expE s (fracE s (intE s a)) then .err a 4
  else if In64 (De.numL (sub s a (intE s a)).data.toList) then .tok ⟨3, nix, De.numL (sub s a (intE s a)).data.toList, a, intE s a⟩
  else .err a 4

/-- a character of a text: a point and the place behind it, or what is wrong -/
inductive Ch where
  | pt (n : Int) (e : Nat)
  | bad (p : Nat) (c : Int)
def shortOf (c : Nat) : Option Int :=
  if c = 34 then some 34 else if c = 92 then some 92 else if c = 47 then some 47 else if c = 98 then some 8 else if c = 102 then some 12 else if c = 110 then some 10 else if c = 114 then some 13 else if c = 116 then some 9 else none
def isHigh (n : Int) : Bool := decide (55296 ≤ n ∧ n < 56320)
def isLow (n : Int) : Bool := decide (56320 ≤ n ∧ n < 57344)
/-- the escape \u at p: four digits behind it -/
def uniCh (s : ByteArray) (p : Nat) : Ch :=
  if (four s (p + 2)).1 < 0 then .bad (four s (p + 2)).2 1
  else if pt (four s (p + 2)).1 = true then .pt (four s (p + 2)).1 (four s (p + 2)).2
  else if isHigh (four s (p + 2)).1 = true ∧ bt s (p + 6) = 92 ∧ bt s (p + 7) = 117 ∧ isLow (four s (p + 8)).1 = true then
    .pt (65536 + ((four s (p + 2)).1 - 55296) * 1024 + ((four s (p + 8)).1 - 56320)) (p + 12)
  else .bad p 3
def escCh (s : ByteArray) (p : Nat) : Ch :=
  match shortOf (bt s (p + 1)) with
  | some n => .pt n (p + 2)
  | none => if bt s (p + 1) = 117 then uniCh s p else .bad (p + 1) 1
def rawCh (s : ByteArray) (p : Nat) : Ch :=
  if ok (s.data.toList.drop p) = true then .pt ((decL (s.data.toList.drop p)).1 : Nat) (p + (decL (s.data.toList.drop p)).2) else .bad p 2
def chAt (s : ByteArray) (p : Nat) : Ch :=
  if s.size ≤ p ∨ bt s p < 32 then .bad p 1 else if bt s p = 92 then escCh s p else rawCh s p
/-- what a character's answer is: a point, in the text still -/
theorem shortOf_pt {c : Nat} {n : Int} (h : shortOf c = some n) : pt n = true ∧ c ≠ 0 := by
  unfold shortOf at h
  repeat' split at h
  all_goals first
    | (injection h with h; subst h; subst_vars; decide)
    | cases h
theorem uniCh_pt {s : ByteArray} {p : Nat} {n : Int} {e : Nat} (h : uniCh s p = .pt n e) : pt n = true ∧ p < e ∧ e ≤ s.size := by
  unfold uniCh at h
  split at h
  · cases h
  · rename_i h0
    have h1 := four_range s (p + 2)
    split at h
    · rename_i h2
      injection h with h3 h4
      subst h3 h4
      exact ⟨h2, by omega, by omega⟩
    · split at h
      · rename_i h2 h3
        injection h with h4 h5
        subst h4 h5
        obtain ⟨a, b, c, d⟩ := h3
        have h6 := four_range s (p + 8)
        simp only [isHigh, isLow, decide_eq_true_eq] at a d
        refine ⟨?_, by omega, by omega⟩
        rw [pt_iff]; right; omega
      · cases h
theorem chAt_pt {s : ByteArray} {p : Nat} {n : Int} {e : Nat} (h : chAt s p = .pt n e) : pt n = true ∧ p < e ∧ e ≤ s.size := by
  unfold chAt at h
  split at h
  · cases h
  · rename_i h0
    split at h
    · unfold escCh at h
      split at h
      · rename_i m hm
        injection h with h1 h2
        subst h1 h2
        obtain ⟨a, b⟩ := shortOf_pt hm
        exact ⟨a, by omega, by have := lt_of_bt b; omega⟩
      · split at h
        · exact uniCh_pt h
        · cases h
    · unfold rawCh at h
      split at h
      · rename_i h1
        injection h with h2 h3
        subst h2 h3
        obtain ⟨a, b, c⟩ := enc_of_ok _ h1
        have h4 := enc_len ((decL (s.data.toList.drop p)).1 : Int)
        have h5 := congrArg List.length b
        rw [List.length_append, c, List.length_drop, size_toList] at h5
        exact ⟨a, by omega, by omega⟩
      · cases h
/-- a text's points from p on, behind those of acc; the place behind its end, or what is wrong -/
inductive St where
  | pts (l : List Int) (e : Nat)
  | bad (p : Nat) (c : Int)
def strF (s : ByteArray) : Nat → Nat → List Int → St
  | 0, p, _ => .bad p 1
  | n + 1, p, acc => if bt s p = 34 then .pts acc (p + 1) else
    match chAt s p with
    | .pt m e => strF s n e (acc ++ [m])
    | .bad q c => .bad q c
def str (s : ByteArray) (p : Nat) (acc : List Int) : St := strF s (s.size + 1 - p) p acc
theorem strF_more (s : ByteArray) : ∀ n p acc, s.size + 1 - p ≤ n → p ≤ s.size → strF s n p acc = str s p acc := by
  have key : ∀ n m p acc, s.size + 1 - p ≤ n → s.size + 1 - p ≤ m → p ≤ s.size → strF s n p acc = strF s m p acc := by
    intro n
    induction n with
    | zero => intro m p acc h1 h2 h3; omega
    | succ n ih =>
      intro m p acc h1 h2 h3
      obtain ⟨m, rfl⟩ : ∃ k, m = k + 1 := ⟨m - 1, by omega⟩
      unfold strF
      split
      · rfl
      · split
        · rename_i k e hk
          obtain ⟨_, h4, h5⟩ := chAt_pt hk
          exact ih m e _ (by omega) (by omega) h5
        · rfl
  intro n p acc h1 h2
  exact key _ _ _ _ h1 (Nat.le_refl _) h2
theorem str_end {s : ByteArray} {p : Nat} {acc : List Int} (hp : p ≤ s.size) (h : bt s p = 34) : str s p acc = .pts acc (p + 1) := by
  unfold str
  obtain ⟨n, hn⟩ : ∃ n, s.size + 1 - p = n + 1 := ⟨s.size - p, by omega⟩
  rw [hn]; simp [strF, h]
theorem str_pt {s : ByteArray} {p : Nat} {acc : List Int} {m : Int} {e : Nat} (hp : p ≤ s.size) (h : bt s p ≠ 34) (hc : chAt s p = .pt m e) : str s p acc = str s e (acc ++ [m]) := by
  obtain ⟨_, h4, h5⟩ := chAt_pt hc
  have e1 : str s p acc = strF s (s.size + 1 - p) p acc := rfl
  obtain ⟨n, hn⟩ : ∃ n, s.size + 1 - p = n + 1 := ⟨s.size - p, by omega⟩
  rw [e1, hn]
  unfold strF
  rw [if_neg h, hc]
  exact strF_more s n e _ (by omega) h5
theorem str_bad {s : ByteArray} {p : Nat} {acc : List Int} {q : Nat} {c : Int} (hp : p ≤ s.size) (h : bt s p ≠ 34) (hc : chAt s p = .bad q c) : str s p acc = .bad q c := by
  unfold str
  obtain ⟨n, hn⟩ : ∃ n, s.size + 1 - p = n + 1 := ⟨s.size - p, by omega⟩
  rw [hn]; simp [strF, h, hc]
def textOf (l : List Int) : ByteArray := ⟨(flat l).toArray⟩
def strAns (s : ByteArray) (a : Nat) : Ans :=
  match str s (a + 1) [] with
  | .pts l e => .tok ⟨2, textOf l, 0, a, e⟩
  | .bad q c => .err q c
/-- the token that stands at a, where no blank stands -/
def ansAt (s : ByteArray) (a : Nat) : Ans :=
  if s.size ≤ a then .tok ⟨0, nix, 0, a, a⟩
  else if isMark (bt s a) = true then .tok ⟨1, one (bt s a), 0, a, a + 1⟩
  else if bt s a = 34 then strAns s a
  else if bt s a = 45 ∨ isDg (bt s a) = true then numAns s a
  else if bt s a = 116 ∨ bt s a = 102 ∨ bt s a = 110 then wordAns s a
  else .err a 1
/-- the token behind a place -/
def next (s : ByteArray) (i : Nat) : Ans := ansAt s (span isBl s i)
end Go.Proofs.YtfiahpeajccinaaGreatDoor.Tk
namespace Go.Proofs.YtfiahpeajccinaaGreatDoor.Tk
open Pl

theorem sub_list (s : ByteArray) (a b : Nat) : (sub s a b).data.toList = (s.data.toList.drop a).take (b - a) := by
  unfold sub
  rw [ByteArray.data_extract, Array.toList_extract, List.extract_eq_take_drop]
theorem drop_cons {s : ByteArray} {i : Nat} (h : i < s.size) : s.data.toList.drop i = s[i] :: s.data.toList.drop (i + 1) := by
  have h2 : i < s.data.toList.length := h
  rw [List.drop_eq_getElem_cons h2]; rfl
theorem isDig_bt {s : ByteArray} {i : Nat} (h : i < s.size) : De.isDig s[i] = isDg (bt s i) := by
  rw [Bool.eq_iff_iff, De.dig_iff, isDg_iff, bt_at s i h]
theorem bt_eq {s : ByteArray} {i : Nat} (h : i < s.size) {c : Nat} (hc : c < 256) : bt s i = c ↔ s[i] = UInt8.ofNat c := by
  rw [← bt_at s i h]
  constructor
  · intro e; apply UInt8.toNat_inj.1; rw [e, UInt8.toNat_ofNat']; omega
  · intro e; rw [e, UInt8.toNat_ofNat']; omega
theorem digs_all {s : ByteArray} : ∀ (n i : Nat), i + n ≤ s.size → (∀ k, i ≤ k → k < i + n → isDg (bt s k) = true) → ((s.data.toList.drop i).take n).all De.isDig = true := by
  intro n
  induction n with
  | zero => intro i _ _; simp
  | succ n ih =>
    intro i h hd
    have hi : i < s.size := by omega
    rw [drop_cons hi, List.take_succ_cons, List.all_cons, isDig_bt hi, hd i (Nat.le_refl _) (by omega), ih (i + 1) (by omega) (fun k h1 h2 => hd k (by omega) (by omega))]
    rfl
theorem num_form {s : ByteArray} {a : Nat} (h : intB s a = true) : De.form (sub s a (intE s a)).data.toList = true ∧ intE s a ≤ s.size ∧ a < intE s a := by
  have hf : signE s a < s.size := lt_of_bt (fun e => by unfold intB at h; rw [e] at h; cases h)
  have hfa : signE s a = a ∨ signE s a = a + 1 ∧ bt s a = 45 := by
    unfold signE; split
    · rename_i h1; exact .inr ⟨rfl, h1⟩
    · exact .inl rfl
  have hsl : bt s a = 45 → signE s a = a + 1 := fun e => by unfold signE; rw [if_pos e]
  unfold intB at h
  generalize hq : signE s a = f at *
  have hb : f < intE s a ∧ intE s a ≤ s.size ∧ (∀ k, f ≤ k → k < intE s a → isDg (bt s k) = true) ∧ (bt s f = 48 → intE s a = f + 1) := by
    unfold intE
    rw [hq]
    split
    · rename_i h1
      exact ⟨by omega, by omega, fun k h2 h3 => by obtain rfl : f = k := by omega
                                                   exact h, fun _ => rfl⟩
    · rename_i h1
      exact ⟨span_pos hf h, span_le _ (Nat.le_of_lt hf), fun k h2 h3 => span_in h2 h3, fun e => absurd e h1⟩
  generalize intE s a = e at *
  obtain ⟨h1, h2, h3, h4⟩ := hb
  refine ⟨?_, h2, by omega⟩
  have hD : De.formD ((s.data.toList.drop f).take (e - f)) = true := by
    unfold De.formD
    obtain ⟨n, hn⟩ : ∃ n, e - f = n + 1 := ⟨e - f - 1, by omega⟩
    rw [hn, digs_all (n + 1) f (by omega) (fun k h5 h6 => h3 k h5 (by omega)), drop_cons hf, List.take_succ_cons]
    simp only [List.isEmpty_cons, Bool.not_false, Bool.true_and, List.head?_cons, Bool.or_eq_true, decide_eq_true_eq, Bool.not_eq_true']
    by_cases h5 : bt s f = 48
    · left
      have := h4 h5
      obtain rfl : n = 0 := by omega
      simp
    · right
      rw [beq_eq_false_iff_ne]
      intro h6
      injection h6 with h6
      exact h5 ((bt_eq hf (by decide)).2 h6)
  unfold De.form
  have : De.digs (sub s a e).data.toList = (s.data.toList.drop f).take (e - f) := by
    unfold De.digs
    rw [sub_list]
    rcases hfa with rfl | ⟨rfl, h45⟩
    · have hne : bt s f ≠ 45 := fun h45 => by have := hsl h45; omega
      rw [if_neg]
      obtain ⟨n, hn⟩ : ∃ n, e - f = n + 1 := ⟨e - f - 1, by omega⟩
      rw [hn, drop_cons hf, List.take_succ_cons, List.head?_cons]
      intro h6
      injection h6 with h6
      exact hne ((bt_eq hf (by decide)).2 h6)
    · have ha : a < s.size := by omega
      obtain ⟨n, hn⟩ : ∃ n, e - a = n + 1 := ⟨e - a - 1, by omega⟩
      rw [hn, drop_cons ha, List.take_succ_cons, List.head?_cons, if_pos (by rw [(bt_eq ha (by decide)).1 h45]; rfl), List.tail_cons, show e - (a + 1) = n by omega]
  rw [this]
  exact hD
/-- the program's ways -/
theorem intE_sign {s : ByteArray} {a : Nat} (h : bt s (signE s a) ≠ 48) : intE s a = span isDg s (signE s a) := if_neg h
theorem intE_zero {s : ByteArray} {a : Nat} (h : bt s (signE s a) = 48) : intE s a = signE s a + 1 := if_pos h
theorem dgs_pos (s : ByteArray) (i : Nat) : decide (i < span isDg s i) = isDg (bt s i) := by
  rw [Bool.eq_iff_iff, decide_eq_true_iff]
  constructor
  · intro h; exact span_in (Nat.le_refl _) h
  · intro h; exact span_pos (lt_of_bt fun e => by rw [e] at h; cases h) h
end Go.Proofs.YtfiahpeajccinaaGreatDoor.Tk
namespace Go.Proofs.YtfiahpeajccinaaGreatDoor.Tk
open Pl

theorem strF_pts {s : ByteArray} : ∀ n p acc l e, p ≤ s.size → strF s n p acc = .pts l e → p < e ∧ e ≤ s.size ∧ ((∀ x ∈ acc, pt x = true) → ∀ x ∈ l, pt x = true) := by
  intro n
  induction n with
  | zero => intro p acc l e _ h; unfold strF at h; cases h
  | succ n ih =>
    intro p acc l e hp h
    unfold strF at h
    split at h
    · rename_i h34
      injection h with h1 h2
      subst h1 h2
      have := lt_of_bt (s := s) (i := p) (by omega)
      exact ⟨by omega, by omega, fun h => h⟩
    · split at h
      · rename_i m e' hc
        obtain ⟨h1, h2, h3⟩ := chAt_pt hc
        obtain ⟨a, b, c⟩ := ih _ _ _ _ h3 h
        refine ⟨by omega, b, fun hq => c fun x hx => ?_⟩
        rcases List.mem_append.1 hx with hx | hx
        · exact hq x hx
        · obtain rfl := List.mem_singleton.1 hx; exact h1
      · cases h
/-- where a token stands -/
theorem ansAt_tok {s : ByteArray} {a : Nat} {t : Tok} (ha : a ≤ s.size) (h : ansAt s a = .tok t) : t.at_ = a ∧ a ≤ t.fin ∧ t.fin ≤ s.size ∧ (t.kind = 0 → a = s.size ∧ t.fin = s.size ∧ t.text = nix ∧ t.num = 0) ∧ (t.kind ≠ 0 → a < t.fin) := by
  unfold ansAt at h
  split at h
  · injection h with h; subst h
    exact ⟨rfl, Nat.le_refl _, ha, fun _ => ⟨by omega, by show a = s.size; omega, rfl, rfl⟩, fun h => absurd rfl h⟩
  · rename_i hl
    split at h
    · injection h with h; subst h
      exact ⟨rfl, Nat.le_succ _, by show a + 1 ≤ s.size; omega, (fun h => absurd (show (1 : Int) = 0 from h) (by decide)), fun _ => Nat.lt_succ_self a⟩
    · split at h
      · unfold strAns at h
        split at h
        · rename_i l e hs
          injection h with h; subst h
          obtain ⟨h1, h2, _⟩ := strF_pts _ _ _ _ _ (by omega) hs
          exact ⟨rfl, by show a ≤ e; omega, h2, (fun h => absurd (show (2 : Int) = 0 from h) (by decide)), fun _ => by show a < e; omega⟩
        · cases h
      · split at h
        · unfold numAns at h
          split at h
          · cases h
          · rename_i hb
            obtain ⟨_, h2, h3⟩ := num_form (s := s) (a := a) (by simpa using hb)
            split at h
            · cases h
            · split at h
              · cases h
              · split at h
                · cases h
                · split at h
                  · injection h with h; subst h
                    exact ⟨rfl, Nat.le_of_lt h3, h2, (fun h => absurd (show (3 : Int) = 0 from h) (by decide)), fun _ => h3⟩
                  · cases h
        · split at h
          · rename_i hw
            unfold wordAns at h
            split at h
            · rename_i he
              injection h with h; subst h
              have h5 : a + (wordOf (bt s a)).length ≤ s.size := by
                rw [← he]
                refine wordE_size _ _ ?_ ha
                intro c hc
                rcases hw with hw | hw | hw <;> rw [hw] at hc <;> simp [wordOf] at hc <;> omega
              have h6 : 0 < (wordOf (bt s a)).length := by rcases hw with hw | hw | hw <;> rw [hw] <;> decide
              refine ⟨rfl, Nat.le_add_right _ _, h5, (fun h => ?_), (fun _ => by show a < a + _; omega)⟩
              have : kindOf (bt s a) = 0 := h
              rcases hw with hw | hw | hw <;> rw [hw] at this <;> cases this
            · cases h
          · cases h
theorem next_tok {s : ByteArray} {i : Nat} {t : Tok} (hi : i ≤ s.size) (h : next s i = .tok t) : t.at_ = span isBl s i ∧ i ≤ t.at_ ∧ t.at_ ≤ t.fin ∧ t.fin ≤ s.size ∧ (t.kind = 0 → t.at_ = s.size ∧ t.fin = s.size ∧ t.text = nix ∧ t.num = 0) ∧ (t.kind ≠ 0 → i < t.fin) := by
  have h1 := span_le isBl hi
  have h2 := span_ge isBl s i
  obtain ⟨a, b, c, d, e⟩ := ansAt_tok h1 h
  refine ⟨a, by omega, by omega, c, fun hk => ⟨by have := (d hk).1; omega, (d hk).2⟩, fun hk => by have := e hk; omega⟩
/-- all tokens, or the first error -/
inductive Al where
  | toks (l : List Tok)
  | bad (p : Nat) (c : Int)
def allF (s : ByteArray) : Nat → Nat → List Tok → Al
  | 0, _, _ => .bad 0 1
  | n + 1, i, acc => match next s i with
    | .tok t => if t.kind = 0 then .toks (acc ++ [t]) else allF s n t.fin (acc ++ [t])
    | .err p c => .bad p c
def all (s : ByteArray) (i : Nat) (acc : List Tok) : Al := allF s (s.size + 1 - i) i acc
theorem allF_same (s : ByteArray) : ∀ n m i acc, s.size + 1 - i ≤ n → s.size + 1 - i ≤ m → i ≤ s.size → allF s n i acc = allF s m i acc := by
  intro n
  induction n with
  | zero => intro m i acc h1 h2 h3; omega
  | succ n ih =>
    intro m i acc h1 h2 h3
    obtain ⟨m, rfl⟩ : ∃ k, m = k + 1 := ⟨m - 1, by omega⟩
    unfold allF
    split
    · rename_i t ht
      obtain ⟨_, h4, h5, h6, _, h7⟩ := next_tok h3 ht
      split
      · rfl
      · rename_i hk
        have := h7 hk
        exact ih m _ _ (by omega) (by omega) h6
    · rfl
theorem all_end {s : ByteArray} {i : Nat} {acc : List Tok} {t : Tok} (hi : i ≤ s.size) (h : next s i = .tok t) (hk : t.kind = 0) : all s i acc = .toks (acc ++ [t]) := by
  unfold all
  obtain ⟨n, hn⟩ : ∃ n, s.size + 1 - i = n + 1 := ⟨s.size - i, by omega⟩
  rw [hn]; simp [allF, h, hk]
theorem all_more {s : ByteArray} {i : Nat} {acc : List Tok} {t : Tok} (hi : i ≤ s.size) (h : next s i = .tok t) (hk : t.kind ≠ 0) : all s i acc = all s t.fin (acc ++ [t]) := by
  obtain ⟨_, h4, h5, h6, _, h7⟩ := next_tok hi h
  have := h7 hk
  have e1 : all s i acc = allF s (s.size + 1 - i) i acc := rfl
  obtain ⟨n, hn⟩ : ∃ n, s.size + 1 - i = n + 1 := ⟨s.size - i, by omega⟩
  rw [e1, hn]
  unfold allF
  rw [h]
  show (if t.kind = 0 then _ else _) = _
  rw [if_neg hk]
  exact allF_same s n _ _ _ (by omega) (Nat.le_refl _) h6
theorem all_bad {s : ByteArray} {i : Nat} {acc : List Tok} {p : Nat} {c : Int} (hi : i ≤ s.size) (h : next s i = .err p c) : all s i acc = .bad p c := by
  unfold all
  obtain ⟨n, hn⟩ : ∃ n, s.size + 1 - i = n + 1 := ⟨s.size - i, by omega⟩
  rw [hn]; simp [allF, h]
end Go.Proofs.YtfiahpeajccinaaGreatDoor.Tk
namespace Go.Proofs.YtfiahpeajccinaaGreatDoor

/-- a value: kind, truth, number, text, items, keys -/
inductive T where
  | mk (kind : Int) (tr : Bool) (num : Int) (str : ByteArray) (items : List T) (keys : List ByteArray)
namespace T
def kind : T → Int | .mk k _ _ _ _ _ => k
def tr : T → Bool | .mk _ b _ _ _ _ => b
def num : T → Int | .mk _ _ n _ _ _ => n
def str : T → ByteArray | .mk _ _ _ s _ _ => s
def items : T → List T | .mk _ _ _ _ l _ => l
def keys : T → List ByteArray | .mk _ _ _ _ _ l => l
theorem ext {a b : T} (h1 : a.kind = b.kind) (h2 : a.tr = b.tr) (h3 : a.num = b.num) (h4 : a.str = b.str) (h5 : a.items = b.items) (h6 : a.keys = b.keys) : a = b := by
  cases a; cases b; simp only [kind, tr, num, str, items, keys] at *; subst h1 h2 h3 h4 h5 h6; rfl
mutual
def size : T → Nat
  | .mk _ _ _ _ l _ => 1 + sizes l
def sizes : List T → Nat
  | [] => 0
  | x :: r => x.size + sizes r
end
theorem size_eq (t : T) : t.size = 1 + sizes t.items := by cases t; rfl
theorem size_pos (t : T) : 1 ≤ t.size := by rw [size_eq]; omega
theorem sizes_append (a b : List T) : sizes (a ++ b) = sizes a + sizes b := by
  induction a with
  | nil => simp [sizes]
  | cons x r ih => simp only [List.cons_append, sizes, ih]; omega
theorem take_snoc {α : Type} {l : List α} {k : Nat} {x : α} (h : l[k]? = some x) : l.take (k + 1) = l.take k ++ [x] := by
  rw [List.take_add_one, h]; rfl
theorem sizes_snoc {l : List T} {k : Nat} {x : T} (h : l[k]? = some x) : sizes (l.take (k + 1)) = sizes (l.take k) + x.size := by
  rw [take_snoc h, sizes_append]; simp [sizes]
theorem sizes_take (l : List T) (k : Nat) : sizes (l.take k) ≤ sizes l := by
  have := sizes_append (l.take k) (l.drop k)
  rw [List.take_append_drop] at this; omega
theorem mem_size {l : List T} {x : T} (h : x ∈ l) : x.size ≤ sizes l := by
  induction l with
  | nil => cases h
  | cons y r ih =>
    rcases List.mem_cons.1 h with rfl | h
    · simp only [sizes]; omega
    · have := ih h; simp only [sizes]; omega
theorem at_size {t x : T} {k : Nat} (h : t.items[k]? = some x) : x.size < t.size := by
  have := mem_size (List.mem_of_getElem? h); rw [size_eq t]; omega
theorem len_sizes (l : List T) : l.length ≤ sizes l := by
  induction l with
  | nil => simp [sizes]
  | cons x r ih => have := x.size_pos; simp only [sizes, List.length_cons]; omega
theorem len_size (t : T) : t.items.length < t.size := by have := len_sizes t.items; rw [size_eq]; omega
/-- induction on a value -/
theorem ind {P : T → Prop} (h : ∀ t : T, (∀ x ∈ t.items, P x) → P t) : ∀ t, P t := by
  have : ∀ n (t : T), t.size ≤ n → P t := by
    intro n
    induction n with
    | zero => intro t ht; have := t.size_pos; omega
    | succ n ih => exact fun t ht => h t fun x hx => ih x (by have := mem_size hx; rw [size_eq] at ht; omega)
  exact fun t => this _ t (Nat.le_refl _)

mutual
def depth : T → Nat
  | .mk k _ _ _ l _ => if k = 4 ∨ k = 5 then 1 + depths l else 0
def depths : List T → Nat
  | [] => 0
  | x :: r => max x.depth (depths r)
end
theorem depth_eq (t : T) : t.depth = if t.kind = 4 ∨ t.kind = 5 then 1 + depths t.items else 0 := by cases t; rfl
theorem depths_append (a b : List T) : depths (a ++ b) = max (depths a) (depths b) := by
  induction a with
  | nil => simp [depths]
  | cons x r ih => simp only [List.cons_append, depths, ih]; omega
theorem depths_snoc {l : List T} {k : Nat} {x : T} (h : l[k]? = some x) : depths (l.take (k + 1)) = max (depths (l.take k)) x.depth := by
  rw [take_snoc h, depths_append]; simp [depths]
theorem depths_take (l : List T) (k : Nat) : depths (l.take k) ≤ depths l := by
  have := depths_append (l.take k) (l.drop k)
  rw [List.take_append_drop] at this; omega
theorem depths_le_of {l : List T} {n : Nat} (h : ∀ x ∈ l, x.depth ≤ n) : depths l ≤ n := by
  induction l with
  | nil => simp [depths]
  | cons y r ih =>
    simp only [depths]
    have h1 := h y (by simp)
    have h2 := ih (fun x hx => h x (by simp [hx]))
    omega
theorem depth_le (t : T) : t.depth ≤ t.size := by
  induction t using T.ind with
  | h t ih =>
    rw [depth_eq]
    split
    · have h1 : depths t.items ≤ sizes t.items := depths_le_of fun x hx => by
        have := ih x hx; have := mem_size hx; omega
      have h2 := size_eq t
      omega
    · omega

/-- of it and all its parts -/
inductive All (P : T → Prop) : T → Prop
  | mk (t : T) (h : P t) (hs : ∀ x ∈ t.items, All P x) : All P t
theorem All.here {P : T → Prop} {t : T} (h : All P t) : P t := by cases h; assumption
theorem All.mem {P : T → Prop} {t x : T} (h : All P t) (hx : x ∈ t.items) : All P x := by cases h with | mk _ _ hs => exact hs x hx
theorem All.at_ {P : T → Prop} {t x : T} (h : All P t) {k : Nat} (hx : t.items[k]? = some x) : All P x := h.mem (List.mem_of_getElem? hx)
theorem All.imp {P Q : T → Prop} {t : T} (h : All P t) (hi : ∀ t, P t → Q t) : All Q t := by
  induction h with
  | mk t h _ ih => exact .mk t (hi t h) ih
/-- the kinds of it and all its parts are 0 to 5 -/
def Kinds : T → Prop := All fun t => 0 ≤ t.kind ∧ t.kind ≤ 5
/-- no part has more keys than the model's memory can hold -/
def Small : T → Prop := All fun t => t.keys.length ≤ 100000
end T
end Go.Proofs.YtfiahpeajccinaaGreatDoor
namespace Go.Proofs.YtfiahpeajccinaaGreatDoor.Rd
open Tk

/-- a value and the place behind it; or a place and an error; or the steps given were too few -/
inductive Res where
  | val (v : T) (fin : Nat)
  | err (p : Nat) (c : Int)
  | out
/-- a token that is that sign -/
def isM (t : Tok) (c : Nat) : Prop := t.kind = 1 ∧ t.text = one c
instance (t : Tok) (c : Nat) : Decidable (isM t c) := by unfold isM; exact inferInstance
def nulT : T := .mk 0 false 0 nix [] []
def truT (b : Bool) : T := .mk 1 b 0 nix [] []
def numT (n : Int) : T := .mk 2 false n nix [] []
def strT (s : ByteArray) : T := .mk 3 false 0 s [] []
def arrT (l : List T) : T := .mk 4 false 0 nix l []
/-- has one of the members this key? -/
def hasK (m : List (ByteArray × T)) (k : ByteArray) : Bool := m.any fun x => decide (x.1 = k)
mutual
/-- the value that begins with a token; O makes an object of its members -/
def fromF (O : List (ByteArray × T) → T) (s : ByteArray) : Nat → Nat → Tok → Res
  | 0, _, _ => .out
  | n + 1, room, t =>
    if t.kind = 6 then .val nulT t.fin
    else if t.kind = 4 ∨ t.kind = 5 then .val (truT (t.kind == 4)) t.fin
    else if t.kind = 3 then .val (numT t.num) t.fin
    else if t.kind = 2 then .val (strT t.text) t.fin
    else if ¬ isM t 91 ∧ ¬ isM t 123 then .err t.at_ 1
    else if room = 0 then .err t.at_ 6
    else match next s t.fin with
      | .err p c => .err p c
      | .tok u =>
        if isM t 91 then (if isM u 93 then .val (arrT []) u.fin else itemsF O s n (room - 1) u [])
        else (if isM u 125 then .val (O []) u.fin else membsF O s n (room - 1) u [])
/-- the items from a token on -/
def itemsF (O : List (ByteArray × T) → T) (s : ByteArray) : Nat → Nat → Tok → List T → Res
  | 0, _, _, _ => .out
  | n + 1, room, t, acc => match fromF O s n room t with
    | .out => .out
    | .err p c => .err p c
    | .val v e => match next s e with
      | .err p c => .err p c
      | .tok u =>
        if isM u 93 then .val (arrT (acc ++ [v])) u.fin
        else if ¬ isM u 44 then .err u.at_ 1
        else match next s u.fin with
          | .err p c => .err p c
          | .tok x => itemsF O s n room x (acc ++ [v])
/-- the members from a token on -/
def membsF (O : List (ByteArray × T) → T) (s : ByteArray) : Nat → Nat → Tok → List (ByteArray × T) → Res
  | 0, _, _, _ => .out
  | n + 1, room, t, acc =>
    if t.kind ≠ 2 then .err t.at_ 1
    else if hasK acc t.text = true then .err t.at_ 5
    else match next s t.fin with
      | .err p c => .err p c
      | .tok u =>
        if ¬ isM u 58 then .err u.at_ 1
        else match next s u.fin with
          | .err p c => .err p c
          | .tok x => match fromF O s n room x with
            | .out => .out
            | .err p c => .err p c
            | .val v e => match next s e with
              | .err p c => .err p c
              | .tok y =>
                if isM y 125 then .val (O (acc ++ [(t.text, v)])) y.fin
                else if ¬ isM y 44 then .err y.at_ 1
                else match next s y.fin with
                  | .err p c => .err p c
                  | .tok z => membsF O s n room z (acc ++ [(t.text, v)])
end
/-- a token of the text: where it stands -/
def Ok (s : ByteArray) (t : Tok) : Prop := t.at_ ≤ t.fin ∧ t.fin ≤ s.size ∧ (t.kind ≠ 0 → t.at_ < t.fin)
theorem ok_next {s : ByteArray} {i : Nat} {t : Tok} (hi : i ≤ s.size) (h : next s i = .tok t) : Ok s t ∧ i ≤ t.at_ := by
  obtain ⟨h1, h2, h3, h4, _, _⟩ := next_tok hi h
  have h' : ansAt s (span isBl s i) = .tok t := h
  obtain ⟨a, _, _, _, e⟩ := ansAt_tok (span_le isBl hi) h'
  exact ⟨⟨h3, h4, fun hk => by have := e hk; omega⟩, h2⟩
/-- what was read lies within the text, and behind its first token -/
def Fine (s : ByteArray) (t : Tok) (r : Res) : Prop := r ≠ .out ∧ ∀ v e, r = .val v e → t.at_ < e ∧ e ≤ s.size
theorem fine_err (s : ByteArray) (t : Tok) (p : Nat) (c : Int) : Fine s t (.err p c) := ⟨(by intro h; cases h), fun v e h => by cases h⟩
theorem fine_val {s : ByteArray} {t : Tok} {v : T} {e : Nat} (h1 : t.at_ < e) (h2 : e ≤ s.size) : Fine s t (.val v e) := ⟨(by intro h; cases h), fun v' e' h => by injection h with _ h; subst h; exact ⟨h1, h2⟩⟩
theorem Fine.later {s : ByteArray} {t u : Tok} {r : Res} (h : Fine s u r) (hu : t.at_ ≤ u.at_) : Fine s t r := ⟨h.1, fun v e he => by have := h.2 v e he; omega⟩
theorem mark_ne {t : Tok} {c : Nat} (h : isM t c) : t.kind ≠ 0 := by rw [h.1]; decide
/-- enough steps -/
theorem enough (O : List (ByteArray × T) → T) (s : ByteArray) : ∀ n, (∀ room t, Ok s t → 2 * (s.size - t.at_) + 1 ≤ n → Fine s t (fromF O s n room t)) ∧ (∀ room t acc, Ok s t → 2 * (s.size - t.at_) + 2 ≤ n → Fine s t (itemsF O s n room t acc)) ∧ (∀ room t acc, Ok s t → 2 * (s.size - t.at_) + 2 ≤ n → Fine s t (membsF O s n room t acc)) := by
  intro n
  induction n with
  | zero => exact ⟨fun _ _ _ h => by omega, fun _ _ _ _ h => by omega, fun _ _ _ _ h => by omega⟩
  | succ n ih =>
    obtain ⟨ih1, ih2, ih3⟩ := ih
    refine ⟨fun room t ht hn => ?_, fun room t acc ht hn => ?_, fun room t acc ht hn => ?_⟩
    · obtain ⟨h1, h2, h3⟩ := ht
      unfold fromF
      split
      · rename_i hk; have := h3 (by rw [hk]; decide); exact fine_val this h2
      · split
        · rename_i hk; have := h3 (by rcases hk with hk | hk <;> rw [hk] <;> decide); exact fine_val this h2
        · split
          · rename_i hk; have := h3 (by rw [hk]; decide); exact fine_val this h2
          · split
            · rename_i hk; have := h3 (by rw [hk]; decide); exact fine_val this h2
            · split
              · exact fine_err _ _ _ _
              · rename_i hm
                have hk : t.kind ≠ 0 := by
                  by_cases h91 : isM t 91
                  · exact mark_ne h91
                  · by_cases h123 : isM t 123
                    · exact mark_ne h123
                    · exact absurd ⟨h91, h123⟩ hm
                have h4 := h3 hk
                split
                · exact fine_err _ _ _ _
                · split
                  · exact fine_err _ _ _ _
                  · rename_i u hu
                    obtain ⟨ho, hle⟩ := ok_next h2 hu
                    have ho' := ho
                    obtain ⟨h5, h6, h7⟩ := ho'
                    split
                    · split
                      · exact fine_val (by omega) h6
                      · exact (ih2 _ u _ ho (by omega)).later (by omega)
                    · split
                      · exact fine_val (by omega) h6
                      · exact (ih3 _ u _ ho (by omega)).later (by omega)
    · unfold itemsF
      have hf := ih1 room t ht (by omega)
      split
      · rename_i ho; exact absurd ho hf.1
      · exact fine_err _ _ _ _
      · rename_i v e he
        obtain ⟨h1, h2⟩ := hf.2 v e he
        split
        · exact fine_err _ _ _ _
        · rename_i u hu
          obtain ⟨⟨h5, h6, h7⟩, hle⟩ := ok_next h2 hu
          split
          · exact fine_val (by omega) h6
          · split
            · exact fine_err _ _ _ _
            · split
              · exact fine_err _ _ _ _
              · rename_i x hx
                obtain ⟨ho, hle2⟩ := ok_next h6 hx
                exact (ih2 _ x _ ho (by obtain ⟨_, _, _⟩ := ho; omega)).later (by omega)
    · unfold membsF
      obtain ⟨h1, h2, h3⟩ := ht
      split
      · exact fine_err _ _ _ _
      · rename_i hk
        have h4 := h3 (by intro h0; exact hk (by rw [h0]; decide))
        split
        · exact fine_err _ _ _ _
        · split
          · exact fine_err _ _ _ _
          · rename_i u hu
            obtain ⟨⟨h5, h6, h7⟩, hle⟩ := ok_next h2 hu
            split
            · exact fine_err _ _ _ _
            · split
              · exact fine_err _ _ _ _
              · rename_i x hx
                obtain ⟨hox, hlex⟩ := ok_next h6 hx
                have hf := ih1 room x hox (by have := hox.1; have := hox.2.1; omega)
                split
                · rename_i ho; exact absurd ho hf.1
                · exact fine_err _ _ _ _
                · rename_i v e he
                  obtain ⟨h8, h9⟩ := hf.2 v e he
                  split
                  · exact fine_err _ _ _ _
                  · rename_i y hy
                    obtain ⟨⟨h10, h11, h12⟩, hley⟩ := ok_next h9 hy
                    split
                    · exact fine_val (by omega) h11
                    · split
                      · exact fine_err _ _ _ _
                      · split
                        · exact fine_err _ _ _ _
                        · rename_i z hz
                          obtain ⟨ho, hle2⟩ := ok_next h11 hz
                          exact (ih3 _ z _ ho (by obtain ⟨_, _, _⟩ := ho; omega)).later (by omega)
/-- the steps that suffice for a text -/
def many (s : ByteArray) : Nat := 2 * s.size + 2
/-- the value of a whole text, in so many others at most -/
def whole (O : List (ByteArray × T) → T) (s : ByteArray) (room : Nat) : Res := match next s 0 with
  | .err p c => .err p c
  | .tok t => match fromF O s (many s) room t with
    | .out => .out
    | .err p c => .err p c
    | .val v e => match next s e with
      | .err p c => .err p c
      | .tok u => if u.kind = 0 then .val v 0 else .err u.at_ 1
theorem whole_out (O : List (ByteArray × T) → T) (s : ByteArray) (room : Nat) : whole O s room ≠ .out := by
  unfold whole
  split
  · intro h; cases h
  · rename_i t ht
    obtain ⟨ho, _⟩ := ok_next (Nat.zero_le _) ht
    have := (enough O s (many s)).1 room t ho (by unfold many; omega)
    split
    · rename_i h; exact absurd h this.1
    · intro h; cases h
    · split
      · intro h; cases h
      · split
        · intro h; cases h
        · intro h; cases h
end Go.Proofs.YtfiahpeajccinaaGreatDoor.Rd
namespace Go.Proofs.YtfiahpeajccinaaGreatDoor.Ex
open Tk
set_option linter.unusedVariables false

/-- a tree: an Op, a name, a value, others -/
inductive E where
  | mk (op name : ByteArray) (lit : T) (args : List E)
namespace E
def op : E → ByteArray | .mk o _ _ _ => o
def name : E → ByteArray | .mk _ n _ _ => n
def lit : E → T | .mk _ _ v _ => v
def args : E → List E | .mk _ _ _ l => l
theorem ext {a b : E} (h1 : a.op = b.op) (h2 : a.name = b.name) (h3 : a.lit = b.lit) (h4 : a.args = b.args) : a = b := by
  cases a; cases b; simp only [op, name, lit, args] at *; subst h1 h2 h3 h4; rfl
mutual
def size : E → Nat
  | .mk _ _ _ l => 1 + sizes l
def sizes : List E → Nat
  | [] => 0
  | x :: r => x.size + sizes r
end
mutual
def depth : E → Nat
  | .mk _ _ _ l => 1 + depths l
def depths : List E → Nat
  | [] => 0
  | x :: r => max x.depth (depths r)
end
theorem size_eq (t : E) : t.size = 1 + sizes t.args := by cases t; rfl
theorem size_pos (t : E) : 1 ≤ t.size := by rw [size_eq]; omega
theorem depth_eq (t : E) : t.depth = 1 + depths t.args := by cases t; rfl
theorem depth_pos (t : E) : 1 ≤ t.depth := by rw [depth_eq]; omega
theorem mem_size {l : List E} {x : E} (h : x ∈ l) : x.size ≤ sizes l := by
  induction l with
  | nil => cases h
  | cons y r ih =>
    rcases List.mem_cons.1 h with rfl | h
    · simp only [sizes]; omega
    · have := ih h; simp only [sizes]; omega
theorem mem_depth {l : List E} {x : E} (h : x ∈ l) : x.depth ≤ depths l := by
  induction l with
  | nil => cases h
  | cons y r ih =>
    rcases List.mem_cons.1 h with rfl | h
    · simp only [depths]; omega
    · have := ih h; simp only [depths]; omega
theorem sizes_append (a b : List E) : sizes (a ++ b) = sizes a + sizes b := by
  induction a with
  | nil => simp [sizes]
  | cons x r ih => simp only [List.cons_append, sizes, ih]; omega
theorem depths_append (a b : List E) : depths (a ++ b) = max (depths a) (depths b) := by
  induction a with
  | nil => simp [depths]
  | cons x r ih => simp only [List.cons_append, depths, ih]; omega
/-- induction on a tree -/
theorem ind {P : E → Prop} (h : ∀ t : E, (∀ x ∈ t.args, P x) → P t) : ∀ t, P t := by
  have : ∀ n (t : E), t.size ≤ n → P t := by
    intro n
    induction n with
    | zero => intro t ht; have := t.size_pos; omega
    | succ n ih => exact fun t ht => h t fun x hx => ih x (by have := mem_size hx; rw [size_eq] at ht; omega)
  exact fun t => this _ t (Nat.le_refl _)
/-- of it and all its parts -/
inductive All (P : E → Prop) : E → Prop
  | mk (t : E) (h : P t) (hs : ∀ x ∈ t.args, All P x) : All P t
theorem All.here {P : E → Prop} {t : E} (h : All P t) : P t := by cases h; assumption
theorem All.mem {P : E → Prop} {t x : E} (h : All P t) (hx : x ∈ t.args) : All P x := by cases h with | mk _ _ hs => exact hs x hx
theorem All.imp {P Q : E → Prop} {t : E} (h : All P t) (hi : ∀ t, P t → Q t) : All Q t := by
  induction h with
  | mk t h _ ih => exact .mk t (hi t h) ih
end E

/-- a tree and the place behind it; or a place and an error; or the steps given were too few -/
inductive Res where
  | ok (e : E) (p : Nat)
  | err (p : Nat) (c : Int)
  | out

def isLt (c : Nat) : Bool := (decide (97 ≤ c) && decide (c ≤ 122)) || (decide (65 ≤ c) && decide (c ≤ 90))
def isIn (c : Nat) : Bool := isLt c || c == 95
def goes (c : Nat) : Bool := isIn c || isDg c
theorem isLt_iff {c : Nat} : isLt c = true ↔ (97 ≤ c ∧ c ≤ 122) ∨ (65 ≤ c ∧ c ≤ 90) := by simp [isLt]
theorem isLt_no {c : Nat} : isLt c = false ↔ ¬ ((97 ≤ c ∧ c ≤ 122) ∨ (65 ≤ c ∧ c ≤ 90)) := by rw [← isLt_iff, Bool.not_eq_true]
theorem isLt_goes {c : Nat} (h : isLt c = true) : goes c = true := by simp [goes, isIn, h]
/-- where the next thing begins -/
def bl (s : ByteArray) (i : Nat) : Nat := span isBl s i
/-- behind the word at a place; the place, if no letter stands there -/
def wE (s : ByteArray) (a : Nat) : Nat := if isLt (bt s a) = true then span goes s a else a
/-- the word behind a place and blanks; none: no bytes -/
def wd (s : ByteArray) (i : Nat) : ByteArray := sub s (bl s i) (wE s (bl s i))
/-- the same bytes? -/
def eqb (a b : ByteArray) : Bool := a.data.toList == b.data.toList
/-- do these bytes stand at a place? -/
def has (s : ByteArray) (a : Nat) (t : ByteArray) : Bool := t.data.toList.isPrefixOf (s.data.toList.drop a)
/-- is that sign, or that word, the next one? -/
def stands (s : ByteArray) (i : Nat) (t : ByteArray) : Bool :=
  if isLt (bt s (bl s i)) = true then eqb (wd s i) t else has s (bl s i) t

def orB : ByteArray := ⟨#[111, 114]⟩
def andB : ByteArray := ⟨#[97, 110, 100]⟩
def notB : ByteArray := ⟨#[110, 111, 116]⟩
def trueB : ByteArray := ⟨#[116, 114, 117, 101]⟩
def falseB : ByteArray := ⟨#[102, 97, 108, 115, 101]⟩
def nullB : ByteArray := ⟨#[110, 117, 108, 108]⟩
def thisB : ByteArray := ⟨#[116, 104, 105, 115]⟩
def litB : ByteArray := ⟨#[108, 105, 116]⟩
def varB : ByteArray := ⟨#[118, 97, 114]⟩
def getB : ByteArray := ⟨#[103, 101, 116]⟩
def atB : ByteArray := ⟨#[97, 116]⟩
def negB : ByteArray := ⟨#[110, 101, 103]⟩
def minusB : ByteArray := ⟨#[45]⟩
def plusB : ByteArray := ⟨#[43]⟩
def starB : ByteArray := ⟨#[42]⟩
def slashB : ByteArray := ⟨#[47]⟩
def remB : ByteArray := ⟨#[37]⟩
def eqB : ByteArray := ⟨#[61, 61]⟩
def neB : ByteArray := ⟨#[33, 61]⟩
def leB : ByteArray := ⟨#[60, 61]⟩
def geB : ByteArray := ⟨#[62, 61]⟩
def ltB : ByteArray := ⟨#[60]⟩
def gtB : ByteArray := ⟨#[62]⟩
def dotB : ByteArray := ⟨#[46]⟩
def commaB : ByteArray := ⟨#[44]⟩
def opnB : ByteArray := ⟨#[40]⟩
def clsB : ByteArray := ⟨#[41]⟩
def osqB : ByteArray := ⟨#[91]⟩
def csqB : ByteArray := ⟨#[93]⟩
/-- the names of calls -/
def ones : List ByteArray := [⟨#[108, 101, 110]⟩, ⟨#[115, 117, 109]⟩, ⟨#[109, 105, 110]⟩, ⟨#[109, 97, 120]⟩, ⟨#[97, 108, 108]⟩, ⟨#[97, 110, 121]⟩, ⟨#[107, 101, 121, 115]⟩]
def twos : List ByteArray := [⟨#[104, 97, 115]⟩, ⟨#[99, 111, 117, 110, 116]⟩, ⟨#[115, 116, 97, 114, 116, 115]⟩, ⟨#[101, 110, 100, 115]⟩, ⟨#[106, 111, 105, 110]⟩]
def argsN (w : ByteArray) : Nat := if ones.any (eqb w) = true then 1 else if twos.any (eqb w) = true then 2 else 0
def words : List ByteArray := [orB, andB, notB, trueB, falseB, nullB, thisB]
def isWord (w : ByteArray) : Bool := words.any (eqb w)
/-- the signs between expressions of a level -/
def sg : Nat → List ByteArray
  | 0 => [orB]
  | 1 => [andB]
  | 3 => [eqB, neB, leB, geB, ltB, gtB]
  | 4 => [plusB, minusB]
  | 5 => [starB, slashB, remB]
  | _ => []
def btw (s : ByteArray) (n i : Nat) : Option ByteArray := (sg n).find? (stands s i)
/-- behind the sign or the word t, which is the next one -/
def past (s : ByteArray) (i : Nat) (t : ByteArray) : Nat := bl s i + t.size

def litE (v : T) : E := .mk litB nix v []
def up (o : ByteArray) (r : Res) : Res := match r with
  | .ok e p => .ok (.mk o nix Rd.nulT [e]) p
  | .err p c => .err p c
  | .out => .out
def num (s : ByteArray) (a : Nat) : Res :=
  if bt s a = 48 ∧ a + 1 < span isDg s a then .err (a + 1) 1
  else if Tk.In64 (De.numL (sub s a (span isDg s a)).data.toList) then
    (if goes (bt s (span isDg s a)) = true then .err (span isDg s a) 1 else .ok (litE (Rd.numT (De.numL (sub s a (span isDg s a)).data.toList))) (span isDg s a))
  else .err a 4
def strs (s : ByteArray) (a : Nat) : Res := match strAns s a with
  | .tok t => .ok (litE (Rd.strT t.text)) t.fin
  | .err p c => .err p c
/-- a key, behind its point -/
def key (s : ByteArray) (e : E) (i : Nat) : Res :=
  if bt s (bl s i) = 34 then (match strAns s (bl s i) with
    | .tok t => .ok (.mk getB t.text Rd.nulT [e]) t.fin
    | .err p c => .err p c)
  else if isLt (bt s (bl s i)) = true then .ok (.mk getB (wd s i) Rd.nulT [e]) (wE s (bl s i))
  else .err (bl s i) 1
mutual
/-- the expression of a level behind a place: 0 or, 1 and, 2 not, 3 tests, 4 sums, 5 products, 6 signs, 7 a part, 8 one -/
def lev (s : ByteArray) : Nat → Nat → Nat → Res
  | 0, _, _ => .out
  | f + 1, n, i =>
    if n = 2 then (if stands s i notB = true then up notB (lev s f 2 (past s i notB)) else lev s f 3 i)
    else if n = 6 then (if stands s i minusB = true then up negB (lev s f 6 (past s i minusB)) else lev s f 7 i)
    else if n = 7 then (match lev s f 8 i with
      | .ok e p => prt s f e p
      | .err p c => .err p c
      | .out => .out)
    else if n = 8 then
      (if isDg (bt s (bl s i)) = true then num s (bl s i)
      else if bt s (bl s i) = 34 then strs s (bl s i)
      else if isLt (bt s (bl s i)) = true then
        (if isWord (wd s i) = true then
          (if eqb (wd s i) trueB = true then .ok (litE (Rd.truT true)) (wE s (bl s i))
          else if eqb (wd s i) falseB = true then .ok (litE (Rd.truT false)) (wE s (bl s i))
          else if eqb (wd s i) nullB = true then .ok (litE Rd.nulT) (wE s (bl s i))
          else if eqb (wd s i) thisB = true then .ok (.mk thisB nix Rd.nulT []) (wE s (bl s i))
          else .err (bl s i) 1)
        else if 0 < argsN (wd s i) then
          (if stands s (wE s (bl s i)) opnB = true then cal s f (wd s i) [] (past s (wE s (bl s i)) opnB) else .err (bl s (wE s (bl s i))) 1)
        else .ok (.mk varB (wd s i) Rd.nulT []) (wE s (bl s i)))
      else if stands s i opnB = true then (match lev s f 0 (past s i opnB) with
        | .ok e p => if stands s p clsB = true then .ok e (past s p clsB) else .err (bl s p) 1
        | .err p c => .err p c
        | .out => .out)
      else .err (bl s i) 1)
    else (match lev s f (n + 1) i with
      | .ok e p => chn s f n e p
      | .err p c => .err p c
      | .out => .out)
/-- what goes on behind the first expression of a level -/
def chn (s : ByteArray) : Nat → Nat → E → Nat → Res
  | 0, _, _, _ => .out
  | f + 1, n, e, i => match btw s n i with
    | none => .ok e i
    | some o => match lev s f (n + 1) (past s i o) with
      | .ok y p => if n = 3 then .ok (.mk o nix Rd.nulT [e, y]) p else chn s f n (.mk o nix Rd.nulT [e, y]) p
      | .err p c => .err p c
      | .out => .out
/-- what is taken of one -/
def prt (s : ByteArray) : Nat → E → Nat → Res
  | 0, _, _ => .out
  | f + 1, e, i =>
    if stands s i dotB = true then (match key s e (past s i dotB) with
      | .ok y p => prt s f y p
      | .err p c => .err p c
      | .out => .out)
    else if stands s i osqB = true then (match lev s f 0 (past s i osqB) with
      | .ok y p => if stands s p csqB = true then prt s f (.mk atB nix Rd.nulT [e, y]) (past s p csqB) else .err (bl s p) 1
      | .err p c => .err p c
      | .out => .out)
    else .ok e i
/-- a call's expressions -/
def cal (s : ByteArray) : Nat → ByteArray → List E → Nat → Res
  | 0, _, _, _ => .out
  | f + 1, w, acc, i => match lev s f 0 i with
    | .ok y p =>
      if stands s p clsB = true then (if acc.length + 1 < argsN w then .err (bl s p) 12 else .ok (.mk w nix Rd.nulT (acc ++ [y])) (past s p clsB))
      else if stands s p commaB = true then (if acc.length + 1 < argsN w then cal s f w (acc ++ [y]) (past s p commaB) else .err (bl s p) 12)
      else .err (bl s p) 1
    | .err p c => .err p c
    | .out => .out
end
def many (s : ByteArray) : Nat := 12 * s.size + 24
/-- the tree of what begins at a place -/
def top (s : ByteArray) (i : Nat) : Res := lev s (many s) 0 i
/-- the tree of a whole text -/
def parse (s : ByteArray) : Res :=
  if 2048 < s.size then .err 0 7 else match top s 0 with
    | .ok e p => if bl s p < s.size then .err (bl s p) 1 else if 32 < e.depth then .err 0 6 else .ok e 0
    | .err p c => .err p c
    | .out => .out
def prefix_ (s : ByteArray) (i : Nat) : Res := match top s i with
  | .ok e p => if 32 < e.depth then .err i 6 else .ok e p
  | .err p c => .err p c
  | .out => .out
end Go.Proofs.YtfiahpeajccinaaGreatDoor.Ex
namespace Go.Proofs.YtfiahpeajccinaaGreatDoor.Ex
open Tk
set_option linter.unusedVariables false

theorem ba_ext {a b : ByteArray} (h : a.data.toList = b.data.toList) : a = b := by
  obtain ⟨⟨x⟩⟩ := a
  obtain ⟨⟨y⟩⟩ := b
  simp at h
  rw [h]
theorem eqb_self (a : ByteArray) : eqb a a = true := by unfold eqb; exact beq_self_eq_true _
theorem eqb_yes {a b : ByteArray} (h : eqb a b = true) : a = b := by unfold eqb at h; exact ba_ext (beq_iff_eq.1 h)
theorem eqb_no {a b : ByteArray} (h : a ≠ b) : eqb a b = false := by
  cases hb : eqb a b with
  | false => rfl
  | true => exact absurd (eqb_yes hb) h
/-- as the walks spell it -/
theorem tl_eqb (a b : ByteArray) : (a.toList == b.toList) = eqb a b := by rw [ByteArray.toList_eq, ByteArray.toList_eq]; rfl
theorem bl_ge (s : ByteArray) (i : Nat) : i ≤ bl s i := span_ge _ _ _
theorem bl_le {s : ByteArray} {i : Nat} (h : i ≤ s.size) : bl s i ≤ s.size := span_le _ h
theorem wE_ge (s : ByteArray) (a : Nat) : a ≤ wE s a := by unfold wE; split; exact span_ge _ _ _; exact Nat.le_refl _
theorem wE_le {s : ByteArray} {a : Nat} (h : a ≤ s.size) : wE s a ≤ s.size := by unfold wE; split; exact span_le _ h; exact h
theorem lt_lt {s : ByteArray} {a : Nat} (h : isLt (bt s a) = true) : a < s.size := lt_of_bt fun e => by rw [e] at h; cases h
theorem dg_lt {s : ByteArray} {a : Nat} (h : isDg (bt s a) = true) : a < s.size := lt_of_bt fun e => by rw [e] at h; cases h
theorem wE_pos {s : ByteArray} {a : Nat} (h : isLt (bt s a) = true) : a < wE s a := by
  unfold wE; rw [if_pos h]; exact span_pos (lt_lt h) (isLt_goes h)
theorem wE_no {s : ByteArray} {a : Nat} (h : isLt (bt s a) = false) : wE s a = a := by unfold wE; rw [if_neg (by rw [h]; decide)]
theorem sub_size {s : ByteArray} {a b : Nat} (h : b ≤ s.size) : (sub s a b).size = b - a := by
  unfold sub; rw [ByteArray.size_extract]; omega
theorem wd_size {s : ByteArray} {i : Nat} (h : i ≤ s.size) : (wd s i).size = wE s (bl s i) - bl s i := sub_size (wE_le (bl_le h))
theorem has_le {s : ByteArray} {a : Nat} {t : ByteArray} (h : has s a t = true) : t.size ≤ s.size - a := by
  unfold has at h
  have h1 := (List.isPrefixOf_iff_prefix.1 h).length_le
  rw [List.length_drop, size_toList, size_toList] at h1
  exact h1
theorem stands_le {s : ByteArray} {i : Nat} {t : ByteArray} (hi : i ≤ s.size) (h : stands s i t = true) : i + t.size ≤ past s i t ∧ past s i t ≤ s.size := by
  have h1 := bl_ge s i
  have h2 := bl_le hi
  unfold stands at h
  unfold past
  split at h
  · have := eqb_yes h
    subst this
    rw [wd_size hi]
    have := wE_ge s (bl s i)
    have := wE_le h2
    omega
  · have := has_le h
    omega
theorem stands_word {s : ByteArray} {i : Nat} {t : ByteArray} (hi : i ≤ s.size) (hl : isLt (bt s (bl s i)) = true) (h : stands s i t = true) : wd s i = t ∧ past s i t = wE s (bl s i) := by
  unfold stands at h
  rw [if_pos hl] at h
  have := eqb_yes h
  subst this
  refine ⟨rfl, ?_⟩
  unfold past
  rw [wd_size hi]
  have := wE_ge s (bl s i)
  omega
/-- what was read lies behind its place, and within the text; where the steps suffice (q) something was -/
def Fit (q : Prop) (s : ByteArray) (i : Nat) (r : Res) : Prop := (q → r ≠ .out) ∧ ∀ e p, r = .ok e p → i < p ∧ p ≤ s.size
theorem fit_err {q : Prop} (s : ByteArray) (i p : Nat) (c : Int) : Fit q s i (.err p c) := ⟨fun _ => (by intro h; cases h), fun e p h => by cases h⟩
theorem fit_ok {q : Prop} {s : ByteArray} {i p : Nat} {e : E} (h1 : i < p) (h2 : p ≤ s.size) : Fit q s i (.ok e p) := ⟨fun _ => (by intro h; cases h), fun e' p' h => by injection h with _ h; subst h; exact ⟨h1, h2⟩⟩
theorem fit_out {q : Prop} {s : ByteArray} {i : Nat} (h : ¬ q) : Fit q s i .out := ⟨fun hq => absurd hq h, fun e p h => by cases h⟩
theorem Fit.later {q q' : Prop} {s : ByteArray} {i j : Nat} {r : Res} (h : Fit q' s j r) (hq : q → q') (hu : i ≤ j) : Fit q s i r := ⟨fun k => h.1 (hq k), fun e p he => by have := h.2 e p he; omega⟩
theorem fit_up {q : Prop} {s : ByteArray} {i : Nat} {o : ByteArray} {r : Res} (h : Fit q s i r) : Fit q s i (up o r) := by
  cases r with
  | ok e p => have := h.2 e p rfl; exact fit_ok this.1 this.2
  | err p c => exact fit_err _ _ _ _
  | out => exact fit_out fun hq => absurd rfl (h.1 hq)
theorem fit_num {q : Prop} {s : ByteArray} {a : Nat} (h : isDg (bt s a) = true) : Fit q s a (num s a) := by
  have h1 := dg_lt h
  have h2 := span_pos h1 h
  have h3 := span_le isDg (s := s) (i := a) (Nat.le_of_lt h1)
  unfold num
  split
  · exact fit_err _ _ _ _
  · split
    · split
      · exact fit_err _ _ _ _
      · exact fit_ok h2 h3
    · exact fit_err _ _ _ _
theorem str_fin {s : ByteArray} {a : Nat} {t : Tok} (ha : a < s.size) (h : strAns s a = .tok t) : a < t.fin ∧ t.fin ≤ s.size := by
  unfold strAns at h
  split at h
  · rename_i l e hs
    injection h with h; subst h
    obtain ⟨h1, h2, _⟩ := strF_pts _ _ _ _ _ (by omega) hs
    exact ⟨by show a < e; omega, h2⟩
  · cases h
theorem fit_strs {q : Prop} {s : ByteArray} {a : Nat} (h : bt s a = 34) : Fit q s a (strs s a) := by
  have h1 := lt_of_bt (s := s) (i := a) (by rw [h]; decide)
  unfold strs
  split
  · rename_i t ht
    obtain ⟨h2, h3⟩ := str_fin h1 ht
    exact fit_ok h2 h3
  · exact fit_err _ _ _ _
theorem fit_key {q : Prop} {s : ByteArray} {i : Nat} {e : E} : Fit q s i (key s e i) := by
  have hb := bl_ge s i
  unfold key
  split
  · rename_i h
    have h1 := lt_of_bt (s := s) (i := bl s i) (by rw [h]; decide)
    split
    · rename_i t ht
      obtain ⟨h2, h3⟩ := str_fin h1 ht
      exact fit_ok (by omega) h3
    · exact fit_err _ _ _ _
  · split
    · rename_i h
      have := wE_pos h
      exact fit_ok (by omega) (wE_le (Nat.le_of_lt (lt_lt h)))
    · exact fit_err _ _ _ _
theorem sg_size {n : Nat} {t : ByteArray} (h : t ∈ sg n) : 1 ≤ t.size := by
  unfold sg at h
  split at h <;> simp at h
  · subst h; decide
  · subst h; decide
  · rcases h with rfl | rfl | rfl | rfl | rfl | rfl <;> decide
  · rcases h with rfl | rfl <;> decide
  · rcases h with rfl | rfl | rfl <;> decide
theorem sg_lt {n : Nat} {t : ByteArray} (h : t ∈ sg n) : n < 8 := by
  unfold sg at h
  split at h <;> first | omega | cases h
theorem btw_some {s : ByteArray} {n i : Nat} {t : ByteArray} (h : btw s n i = some t) : t ∈ sg n ∧ stands s i t = true :=
  ⟨List.mem_of_find?_eq_some h, List.find?_some h⟩
theorem btw_le {s : ByteArray} {n i : Nat} {t : ByteArray} (hi : i ≤ s.size) (h : btw s n i = some t) : i < past s i t ∧ past s i t ≤ s.size := by
  obtain ⟨h1, h2⟩ := btw_some h
  have := stands_le hi h2
  have := sg_size h1
  omega
/-- as Fit, for what may go on or not -/
def Fit0 (q : Prop) (s : ByteArray) (i : Nat) (r : Res) : Prop := (q → r ≠ .out) ∧ ∀ e p, r = .ok e p → i ≤ p ∧ p ≤ s.size
theorem fit0_err {q : Prop} (s : ByteArray) (i p : Nat) (c : Int) : Fit0 q s i (.err p c) := ⟨fun _ => (by intro h; cases h), fun e p h => by cases h⟩
theorem fit0_ok {q : Prop} {s : ByteArray} {i p : Nat} {e : E} (h1 : i ≤ p) (h2 : p ≤ s.size) : Fit0 q s i (.ok e p) := ⟨fun _ => (by intro h; cases h), fun e' p' h => by injection h with _ h; subst h; exact ⟨h1, h2⟩⟩
theorem fit0_out {q : Prop} {s : ByteArray} {i : Nat} (h : ¬ q) : Fit0 q s i .out := ⟨fun hq => absurd hq h, fun e p h => by cases h⟩
theorem Fit0.later {q q' : Prop} {s : ByteArray} {i j : Nat} {r : Res} (h : Fit0 q' s j r) (hq : q → q') (hu : i ≤ j) : Fit0 q s i r := ⟨fun k => h.1 (hq k), fun e p he => by have := h.2 e p he; omega⟩
theorem Fit0.go {q q' : Prop} {s : ByteArray} {i j : Nat} {r : Res} (h : Fit0 q' s j r) (hq : q → q') (hu : i < j) : Fit q s i r := ⟨fun k => h.1 (hq k), fun e p he => by have := h.2 e p he; omega⟩
/-- enough steps -/
theorem enough (s : ByteArray) : ∀ f, (∀ n i, n ≤ 8 → i ≤ s.size → Fit (12 * (s.size - i) + 10 ≤ f + n) s i (lev s f n i)) ∧ (∀ n e i, i ≤ s.size → Fit0 (12 * (s.size - i) + 1 ≤ f) s i (chn s f n e i)) ∧ (∀ e i, i ≤ s.size → Fit0 (12 * (s.size - i) + 1 ≤ f) s i (prt s f e i)) ∧ (∀ w acc i, i ≤ s.size → Fit (12 * (s.size - i) + 11 ≤ f) s i (cal s f w acc i)) := by
  intro f
  induction f with
  | zero =>
    refine ⟨fun n i hn _ => ?_, fun n e i _ => ?_, fun e i _ => ?_, fun w acc i _ => ?_⟩
    · rw [lev]; exact fit_out (by omega)
    · rw [chn]; exact fit0_out (by omega)
    · rw [prt]; exact fit0_out (by omega)
    · rw [cal]; exact fit_out (by omega)
  | succ f ih =>
    obtain ⟨ih1, ih2, ih3, ih4⟩ := ih
    have hnot : notB.size = 3 := rfl
    have hmin : minusB.size = 1 := rfl
    have hopn : opnB.size = 1 := rfl
    have hcls : clsB.size = 1 := rfl
    have hcom : commaB.size = 1 := rfl
    have hdot : dotB.size = 1 := rfl
    have hosq : osqB.size = 1 := rfl
    have hcsq : csqB.size = 1 := rfl
    refine ⟨fun n i hn hi => ?_, fun n e i hi => ?_, fun e i hi => ?_, fun w acc i hi => ?_⟩
    · have hb1 := bl_ge s i
      have hb2 := bl_le hi
      rcases (by omega : n = 2 ∨ n = 6 ∨ n = 7 ∨ n = 8 ∨ (n = 0 ∨ n = 1 ∨ n = 3 ∨ n = 4 ∨ n = 5)) with rfl | rfl | rfl | rfl | hn'
      · rw [lev, if_pos rfl]
        by_cases h : stands s i notB = true
        · rw [if_pos h]
          obtain ⟨h1, h2⟩ := stands_le hi h
          exact fit_up ((ih1 2 _ (by omega) h2).later (by omega) (by omega))
        · rw [if_neg h]
          exact (ih1 3 i (by omega) hi).later (by omega) (Nat.le_refl _)
      · rw [lev, if_neg (by decide), if_pos rfl]
        by_cases h : stands s i minusB = true
        · rw [if_pos h]
          obtain ⟨h1, h2⟩ := stands_le hi h
          exact fit_up ((ih1 6 _ (by omega) h2).later (by omega) (by omega))
        · rw [if_neg h]
          exact (ih1 7 i (by omega) hi).later (by omega) (Nat.le_refl _)
      · rw [lev, if_neg (by decide), if_neg (by decide), if_pos rfl]
        have hx := ih1 8 i (by omega) hi
        cases he : lev s f 8 i with
        | ok e p =>
          obtain ⟨h1, h2⟩ := hx.2 e p he
          exact (ih3 e p h2).go (by omega) h1
        | err p c => exact fit_err _ _ _ _
        | out => exact fit_out fun hq => absurd he (hx.1 (by omega))
      · rw [lev, if_neg (by decide), if_neg (by decide), if_neg (by decide), if_pos rfl]
        by_cases h : isDg (bt s (bl s i)) = true
        · rw [if_pos h]
          exact (fit_num (q := True) h).later (fun _ => trivial) hb1
        rw [if_neg h]
        by_cases h : bt s (bl s i) = 34
        · rw [if_pos h]
          exact (fit_strs (q := True) h).later (fun _ => trivial) hb1
        rw [if_neg h]
        by_cases h : isLt (bt s (bl s i)) = true
        · rw [if_pos h]
          have h1 := wE_pos h
          have h2 := wE_le hb2
          by_cases h3 : isWord (wd s i) = true
          · rw [if_pos h3]
            by_cases h4 : eqb (wd s i) trueB = true
            · rw [if_pos h4]; exact fit_ok (by omega) h2
            rw [if_neg h4]
            by_cases h4 : eqb (wd s i) falseB = true
            · rw [if_pos h4]; exact fit_ok (by omega) h2
            rw [if_neg h4]
            by_cases h4 : eqb (wd s i) nullB = true
            · rw [if_pos h4]; exact fit_ok (by omega) h2
            rw [if_neg h4]
            by_cases h4 : eqb (wd s i) thisB = true
            · rw [if_pos h4]; exact fit_ok (by omega) h2
            · rw [if_neg h4]; exact fit_err _ _ _ _
          rw [if_neg h3]
          by_cases h4 : 0 < argsN (wd s i)
          · rw [if_pos h4]
            by_cases h5 : stands s (wE s (bl s i)) opnB = true
            · rw [if_pos h5]
              obtain ⟨h6, h7⟩ := stands_le h2 h5
              exact (ih4 _ _ _ h7).later (by omega) (by omega)
            · rw [if_neg h5]; exact fit_err _ _ _ _
          · rw [if_neg h4]; exact fit_ok (by omega) h2
        rw [if_neg h]
        by_cases h3 : stands s i opnB = true
        · rw [if_pos h3]
          obtain ⟨h4, h5⟩ := stands_le hi h3
          have hx := ih1 0 _ (by omega) h5
          cases he : lev s f 0 (past s i opnB) with
          | ok e p =>
            obtain ⟨h6, h7⟩ := hx.2 e p he
            dsimp only
            by_cases h8 : stands s p clsB = true
            · rw [if_pos h8]
              obtain ⟨h9, h10⟩ := stands_le h7 h8
              exact fit_ok (by omega) h10
            · rw [if_neg h8]; exact fit_err _ _ _ _
          | err p c => exact fit_err _ _ _ _
          | out => exact fit_out fun hq => absurd he (hx.1 (by omega))
        · rw [if_neg h3]; exact fit_err _ _ _ _
      · rw [lev, if_neg (by omega), if_neg (by omega), if_neg (by omega), if_neg (by omega)]
        have hx := ih1 (n + 1) i (by omega) hi
        cases he : lev s f (n + 1) i with
        | ok e p =>
          obtain ⟨h1, h2⟩ := hx.2 e p he
          exact (ih2 n e p h2).go (by omega) h1
        | err p c => exact fit_err _ _ _ _
        | out => exact fit_out fun hq => absurd he (hx.1 (by omega))
    · rw [chn]
      split
      · exact fit0_ok (Nat.le_refl _) hi
      · rename_i o ho
        obtain ⟨h1, h2⟩ := btw_le hi ho
        have hn8 := sg_lt (btw_some ho).1
        have hx := ih1 (n + 1) _ (by omega) h2
        split
        · rename_i y p he
          obtain ⟨h3, h4⟩ := hx.2 y p he
          split
          · exact fit0_ok (by omega) h4
          · exact (ih2 n (.mk o nix Rd.nulT [e, y]) p h4).later (by omega) (by omega)
        · exact fit0_err _ _ _ _
        · rename_i ho; exact fit0_out fun hq => absurd ho (hx.1 (by omega))
    · rw [prt]
      split
      · rename_i h
        obtain ⟨h1, h2⟩ := stands_le hi h
        have hx := fit_key (q := True) (s := s) (i := past s i dotB) (e := e)
        split
        · rename_i y p he
          obtain ⟨h3, h4⟩ := hx.2 y p he
          exact (ih3 y p h4).later (by omega) (by omega)
        · exact fit0_err _ _ _ _
        · rename_i ho; exact absurd ho (hx.1 trivial)
      split
      · rename_i h
        obtain ⟨h1, h2⟩ := stands_le hi h
        have hx := ih1 0 _ (by omega) h2
        split
        · rename_i y p he
          obtain ⟨h3, h4⟩ := hx.2 y p he
          split
          · rename_i h5
            obtain ⟨h6, h7⟩ := stands_le h4 h5
            exact (ih3 (.mk atB nix Rd.nulT [e, y]) _ h7).later (by omega) (by omega)
          · exact fit0_err _ _ _ _
        · exact fit0_err _ _ _ _
        · rename_i ho; exact fit0_out fun hq => absurd ho (hx.1 (by omega))
      · exact fit0_ok (Nat.le_refl _) hi
    · rw [cal]
      have hx := ih1 0 i (by omega) hi
      split
      · rename_i y p he
        obtain ⟨h3, h4⟩ := hx.2 y p he
        split
        · rename_i h
          obtain ⟨h5, h6⟩ := stands_le h4 h
          split
          · exact fit_err _ _ _ _
          · exact fit_ok (by omega) h6
        split
        · rename_i h
          obtain ⟨h5, h6⟩ := stands_le h4 h
          split
          · exact (ih4 _ _ _ h6).later (by omega) (by omega)
          · exact fit_err _ _ _ _
        · exact fit_err _ _ _ _
      · exact fit_err _ _ _ _
      · rename_i ho; exact fit_out fun hq => absurd ho (hx.1 (by omega))
theorem top_out {s : ByteArray} {i : Nat} (hi : i ≤ s.size) : top s i ≠ .out := ((enough s (many s)).1 0 i (by omega) hi).1 (by unfold many; omega)
theorem lev_le {s : ByteArray} {f n i : Nat} {e : E} {p : Nat} (hn : n ≤ 8) (hi : i ≤ s.size) (h : lev s f n i = .ok e p) : i < p ∧ p ≤ s.size := ((enough s f).1 n i hn hi).2 e p h
theorem top_le {s : ByteArray} {i : Nat} {e : E} {p : Nat} (hi : i ≤ s.size) (h : top s i = .ok e p) : i < p ∧ p ≤ s.size := lev_le (by omega) hi h
end Go.Proofs.YtfiahpeajccinaaGreatDoor.Ex
namespace Go.Proofs.YtfiahpeajccinaaGreatDoor.Ex
open Tk
set_option linter.unusedVariables false

/-- what was read, with what was there before (d), is no deeper than its text is long -/
def Dp (i d : Nat) (r : Res) : Prop := ∀ e p, r = .ok e p → e.depth + i ≤ p + d
theorem dp_err (i d p : Nat) (c : Int) : Dp i d (.err p c) := fun e q h => by cases h
theorem dp_out (i d : Nat) : Dp i d .out := fun e q h => by cases h
theorem dp_ok {i d p : Nat} {e : E} (h : e.depth + i ≤ p + d) : Dp i d (.ok e p) := fun e' p' k => by injection k with k1 k2; subst k1 k2; exact h
theorem leaf_depth (o n : ByteArray) (v : T) : (E.mk o n v []).depth = 1 := rfl
theorem one_depth (o n : ByteArray) (v : T) (e : E) : (E.mk o n v [e]).depth = 1 + e.depth := by
  show 1 + max e.depth 0 = _; omega
theorem two_depth (o n : ByteArray) (v : T) (e y : E) : (E.mk o n v [e, y]).depth = 1 + max e.depth y.depth := by
  show 1 + max e.depth (max y.depth 0) = _; omega
theorem dp_up {i j : Nat} {o : ByteArray} {r : Res} (h : Dp j 0 r) (hij : i < j) : Dp i 0 (up o r) := by
  cases r with
  | ok e p => have := h e p rfl; refine dp_ok ?_; rw [one_depth]; omega
  | err p c => exact dp_err _ _ _ _
  | out => exact dp_out _ _
theorem dp_key {s : ByteArray} {e : E} {i d : Nat} (hi : i ≤ s.size) (hd : e.depth ≤ d) : Dp i d (key s e i) := by
  have hf := (fit_key (q := True) (s := s) (i := i) (e := e)).2
  intro x p hx
  have := hf x p hx
  have hdx : x.depth = 1 + e.depth := by
    unfold key at hx
    split at hx
    · split at hx
      · injection hx with h1 _; subst h1; exact one_depth _ _ _ _
      · cases hx
    · split at hx
      · injection hx with h1 _; subst h1; exact one_depth _ _ _ _
      · cases hx
  omega
theorem leaf_num {s : ByteArray} {a : Nat} {e : E} {p : Nat} (h : num s a = .ok e p) : e.depth = 1 := by
  unfold num at h
  split at h
  · cases h
  · split at h
    · split at h
      · cases h
      · injection h with h1 _; subst h1; rfl
    · cases h
theorem leaf_strs {s : ByteArray} {a : Nat} {e : E} {p : Nat} (h : strs s a = .ok e p) : e.depth = 1 := by
  unfold strs at h
  split at h
  · injection h with h1 _; subst h1; rfl
  · cases h
theorem dp_leaf {i p : Nat} {r : Res} (hf : ∀ e p, r = .ok e p → i < p) (hd : ∀ e p, r = .ok e p → e.depth = 1) : Dp i 0 r := fun e p h => by
  have := hf e p h
  have := hd e p h
  omega
theorem deep_enough (s : ByteArray) : ∀ f, (∀ n i, n ≤ 8 → i ≤ s.size → Dp i 0 (lev s f n i)) ∧ (∀ n e i, i ≤ s.size → Dp i e.depth (chn s f n e i)) ∧ (∀ e i, i ≤ s.size → Dp i e.depth (prt s f e i)) ∧ (∀ w acc i, i ≤ s.size → Dp i (E.depths acc) (cal s f w acc i)) := by
  intro f
  induction f with
  | zero =>
    refine ⟨fun n i hn _ => ?_, fun n e i _ => ?_, fun e i _ => ?_, fun w acc i _ => ?_⟩
    · rw [lev]; exact dp_out _ _
    · rw [chn]; exact dp_out _ _
    · rw [prt]; exact dp_out _ _
    · rw [cal]; exact dp_out _ _
  | succ f ih =>
    obtain ⟨ih1, ih2, ih3, ih4⟩ := ih
    have hnot : notB.size = 3 := rfl
    have hmin : minusB.size = 1 := rfl
    have hopn : opnB.size = 1 := rfl
    have hcls : clsB.size = 1 := rfl
    have hcom : commaB.size = 1 := rfl
    have hdot : dotB.size = 1 := rfl
    have hosq : osqB.size = 1 := rfl
    have hcsq : csqB.size = 1 := rfl
    refine ⟨fun n i hn hi => ?_, fun n e i hi => ?_, fun e i hi => ?_, fun w acc i hi => ?_⟩
    · have hb1 := bl_ge s i
      have hb2 := bl_le hi
      rcases (by omega : n = 2 ∨ n = 6 ∨ n = 7 ∨ n = 8 ∨ (n = 0 ∨ n = 1 ∨ n = 3 ∨ n = 4 ∨ n = 5)) with rfl | rfl | rfl | rfl | hn'
      · rw [lev, if_pos rfl]
        by_cases h : stands s i notB = true
        · rw [if_pos h]
          obtain ⟨h1, h2⟩ := stands_le hi h
          exact dp_up (ih1 2 _ (by omega) h2) (by omega)
        · rw [if_neg h]
          exact ih1 3 i (by omega) hi
      · rw [lev, if_neg (by decide), if_pos rfl]
        by_cases h : stands s i minusB = true
        · rw [if_pos h]
          obtain ⟨h1, h2⟩ := stands_le hi h
          exact dp_up (ih1 6 _ (by omega) h2) (by omega)
        · rw [if_neg h]
          exact ih1 7 i (by omega) hi
      · rw [lev, if_neg (by decide), if_neg (by decide), if_pos rfl]
        have hx := ih1 8 i (by omega) hi
        cases he : lev s f 8 i with
        | ok e p =>
          have h1 := hx e p he
          obtain ⟨h3, h4⟩ := lev_le (by omega) hi he
          exact fun e' p' h => by have := ih3 e p h4 e' p' h; omega
        | err p c => exact dp_err _ _ _ _
        | out => exact dp_out _ _
      · rw [lev, if_neg (by decide), if_neg (by decide), if_neg (by decide), if_pos rfl]
        by_cases h : isDg (bt s (bl s i)) = true
        · rw [if_pos h]
          exact dp_leaf (p := 0) (fun e p k => by have := (fit_num (q := True) h).2 e p k; omega) fun e p k => leaf_num k
        rw [if_neg h]
        by_cases h : bt s (bl s i) = 34
        · rw [if_pos h]
          exact dp_leaf (p := 0) (fun e p k => by have := (fit_strs (q := True) h).2 e p k; omega) fun e p k => leaf_strs k
        rw [if_neg h]
        by_cases h : isLt (bt s (bl s i)) = true
        · rw [if_pos h]
          have h1 := wE_pos h
          have h2 := wE_le hb2
          by_cases h3 : isWord (wd s i) = true
          · rw [if_pos h3]
            by_cases h4 : eqb (wd s i) trueB = true
            · rw [if_pos h4]; exact dp_ok (by rw [show (litE (Rd.truT true)).depth = 1 from rfl]; omega)
            rw [if_neg h4]
            by_cases h4 : eqb (wd s i) falseB = true
            · rw [if_pos h4]; exact dp_ok (by rw [show (litE (Rd.truT false)).depth = 1 from rfl]; omega)
            rw [if_neg h4]
            by_cases h4 : eqb (wd s i) nullB = true
            · rw [if_pos h4]; exact dp_ok (by rw [show (litE Rd.nulT).depth = 1 from rfl]; omega)
            rw [if_neg h4]
            by_cases h4 : eqb (wd s i) thisB = true
            · rw [if_pos h4]; exact dp_ok (by rw [leaf_depth]; omega)
            · rw [if_neg h4]; exact dp_err _ _ _ _
          rw [if_neg h3]
          by_cases h4 : 0 < argsN (wd s i)
          · rw [if_pos h4]
            by_cases h5 : stands s (wE s (bl s i)) opnB = true
            · rw [if_pos h5]
              obtain ⟨h6, h7⟩ := stands_le h2 h5
              exact fun e' p' h => by have := ih4 _ _ _ h7 e' p' h; simp only [E.depths] at this; omega
            · rw [if_neg h5]; exact dp_err _ _ _ _
          · rw [if_neg h4]; exact dp_ok (by rw [leaf_depth]; omega)
        rw [if_neg h]
        by_cases h3 : stands s i opnB = true
        · rw [if_pos h3]
          obtain ⟨h4, h5⟩ := stands_le hi h3
          have hx := ih1 0 _ (by omega) h5
          cases he : lev s f 0 (past s i opnB) with
          | ok e p =>
            have h6 := hx e p he
            obtain ⟨h7, h8⟩ := lev_le (by omega) h5 he
            dsimp only
            by_cases h9 : stands s p clsB = true
            · rw [if_pos h9]
              obtain ⟨h10, h11⟩ := stands_le h8 h9
              exact dp_ok (by omega)
            · rw [if_neg h9]; exact dp_err _ _ _ _
          | err p c => exact dp_err _ _ _ _
          | out => exact dp_out _ _
        · rw [if_neg h3]; exact dp_err _ _ _ _
      · rw [lev, if_neg (by omega), if_neg (by omega), if_neg (by omega), if_neg (by omega)]
        have hx := ih1 (n + 1) i (by omega) hi
        cases he : lev s f (n + 1) i with
        | ok e p =>
          have h1 := hx e p he
          obtain ⟨h3, h4⟩ := lev_le (by omega) hi he
          exact fun e' p' h => by have := ih2 n e p h4 e' p' h; omega
        | err p c => exact dp_err _ _ _ _
        | out => exact dp_out _ _
    · rw [chn]
      split
      · exact dp_ok (by omega)
      · rename_i o ho
        obtain ⟨h1, h2⟩ := btw_le hi ho
        have hn8 := sg_lt (btw_some ho).1
        have hx := ih1 (n + 1) _ (by omega) h2
        split
        · rename_i y p he
          have h3 := hx y p he
          obtain ⟨h5, h6⟩ := lev_le (by omega) h2 he
          split
          · refine dp_ok ?_; rw [two_depth]; omega
          · exact fun e' p' h => by
              have := ih2 n (.mk o nix Rd.nulT [e, y]) p h6 e' p' h
              rw [two_depth] at this; omega
        · exact dp_err _ _ _ _
        · exact dp_out _ _
    · rw [prt]
      split
      · rename_i h
        obtain ⟨h1, h2⟩ := stands_le hi h
        have hx := dp_key (s := s) (e := e) (i := past s i dotB) (d := e.depth) h2 (Nat.le_refl _)
        have hf := (fit_key (q := True) (s := s) (i := past s i dotB) (e := e)).2
        split
        · rename_i y p he
          have h3 := hx y p he
          obtain ⟨h4, h5⟩ := hf y p he
          exact fun e' p' h => by have := ih3 y p h5 e' p' h; omega
        · exact dp_err _ _ _ _
        · exact dp_out _ _
      split
      · rename_i h
        obtain ⟨h1, h2⟩ := stands_le hi h
        have hx := ih1 0 _ (by omega) h2
        split
        · rename_i y p he
          have h3 := hx y p he
          obtain ⟨h4, h5⟩ := lev_le (by omega) h2 he
          split
          · rename_i h6
            obtain ⟨h7, h8⟩ := stands_le h5 h6
            exact fun e' p' h => by
              have := ih3 (.mk atB nix Rd.nulT [e, y]) _ h8 e' p' h
              rw [two_depth] at this; omega
          · exact dp_err _ _ _ _
        · exact dp_err _ _ _ _
        · exact dp_out _ _
      · exact dp_ok (by omega)
    · rw [cal]
      have hx := ih1 0 i (by omega) hi
      have hac : ∀ y : E, E.depths (acc ++ [y]) = max (E.depths acc) y.depth := fun y => by rw [E.depths_append]; simp only [E.depths]; omega
      split
      · rename_i y p he
        have h3 := hx y p he
        obtain ⟨h4, h5⟩ := lev_le (by omega) hi he
        split
        · rename_i h
          obtain ⟨h6, h7⟩ := stands_le h5 h
          split
          · exact dp_err _ _ _ _
          · refine dp_ok ?_
            show 1 + E.depths (acc ++ [y]) + i ≤ _
            rw [hac]; omega
        split
        · rename_i h
          obtain ⟨h6, h7⟩ := stands_le h5 h
          split
          · exact fun e' p' h => by
              have := ih4 w (acc ++ [y]) _ h7 e' p' h
              rw [hac] at this; omega
          · exact dp_err _ _ _ _
        · exact dp_err _ _ _ _
      · exact dp_err _ _ _ _
      · exact dp_out _ _
theorem lev_deep {s : ByteArray} {f n i : Nat} {e : E} {p : Nat} (hn : n ≤ 8) (hi : i ≤ s.size) (h : lev s f n i = .ok e p) : e.depth ≤ s.size := by
  have h1 := (deep_enough s f).1 n i hn hi e p h
  have h2 := lev_le hn hi h
  omega
theorem lev_dp {s : ByteArray} {f n i : Nat} {e : E} {p : Nat} (hn : n ≤ 8) (hi : i ≤ s.size) (h : lev s f n i = .ok e p) : e.depth + i ≤ p := by
  have h1 := (deep_enough s f).1 n i hn hi e p h
  omega
end Go.Proofs.YtfiahpeajccinaaGreatDoor.Ex
namespace Go.Proofs.YtfiahpeajccinaaGreatDoor.Iz
open Tk Ex
set_option linter.unusedVariables false

/-- an iso -/
structure Iso where
  name : ByteArray
  n : Int
  key : ByteArray
/-- an iso and the place behind it, or a place and an error -/
inductive IRes where
  | ok (x : Iso) (p : Nat)
  | err (p : Nat) (c : Int)
/-- isos and the place behind them, or a place and an error; or the steps given were too few -/
inductive LRes where
  | ok (l : List Iso) (p : Nat)
  | err (p : Nat) (c : Int)
  | out
def negW : ByteArray := ⟨#[110, 101, 103]⟩
def flipW : ByteArray := ⟨#[102, 108, 105, 112]⟩
def revW : ByteArray := ⟨#[114, 101, 118]⟩
def swapW : ByteArray := ⟨#[115, 119, 97, 112]⟩
def boxW : ByteArray := ⟨#[98, 111, 120]⟩
def showW : ByteArray := ⟨#[115, 104, 111, 119]⟩
def charsW : ByteArray := ⟨#[99, 104, 97, 114, 115]⟩
def pairsW : ByteArray := ⟨#[112, 97, 105, 114, 115]⟩
def plusW : ByteArray := ⟨#[112, 108, 117, 115]⟩
def timesW : ByteArray := ⟨#[116, 105, 109, 101, 115]⟩
def tagW : ByteArray := ⟨#[116, 97, 103]⟩
def zeroW : List ByteArray := [negW, flipW, revW, swapW, boxW, showW, charsW, pairsW]
/-- what isos of a name use: 0 it is none's, 1 nothing, 2 N, 3 N that isn't 0, 4 Key -/
def use (w : ByteArray) : Nat := if zeroW.any (eqb w) = true then 1 else if eqb w plusW = true then 2 else if eqb w timesW = true then 3 else if eqb w tagW = true then 4 else 0
theorem use_le (w : ByteArray) : use w ≤ 4 := by
  unfold use
  split
  · omega
  · split
    · omega
    · split
      · omega
      · split <;> omega
def numI (s w : ByteArray) (u a : Nat) : IRes :=
  if isDg (bt s (signE s a)) = false then .err (signE s a) 1
  else if bt s (signE s a) = 48 ∧ signE s a + 1 < span isDg s (signE s a) then .err (signE s a + 1) 1
  else if Tk.In64 (De.numL (sub s a (intE s a)).data.toList) then
    (if u = 3 ∧ De.numL (sub s a (intE s a)).data.toList = 0 then .err a 8 else .ok ⟨w, De.numL (sub s a (intE s a)).data.toList, nix⟩ (intE s a))
  else .err a 4
def keyI (s w : ByteArray) (a : Nat) : IRes :=
  if bt s a = 34 then (match strAns s a with
    | .tok t => .ok ⟨w, 0, t.text⟩ t.fin
    | .err p c => .err p c)
  else .err a 1
/-- an iso behind a place -/
def oneI (s : ByteArray) (i : Nat) : IRes :=
  if isLt (bt s (bl s i)) = true then
    (if use (wd s i) = 0 then .err (bl s i) 13
    else if use (wd s i) = 1 then .ok ⟨wd s i, 0, nix⟩ (wE s (bl s i))
    else if use (wd s i) = 4 then keyI s (wd s i) (bl s (wE s (bl s i)))
    else numI s (wd s i) (use (wd s i)) (bl s (wE s (bl s i))))
  else .err (bl s i) 1
/-- isos behind a place, behind those that are read -/
def isosF (s : ByteArray) : Nat → List Iso → Nat → LRes
  | 0, _, _ => .out
  | f + 1, acc, i => match oneI s i with
    | .err p c => .err p c
    | .ok x p => if bt s (bl s p) = 124 then isosF s f (acc ++ [x]) (bl s p + 1) else .ok (acc ++ [x]) p
def isos (s : ByteArray) (i : Nat) : LRes := isosF s (s.size + 2 - i) [] i
theorem wE_le {s : ByteArray} {a : Nat} (h : a ≤ s.size) : wE s a ≤ s.size := by
  unfold wE
  split
  · exact span_le _ h
  · exact h
theorem wE_pos {s : ByteArray} {a : Nat} (h : isLt (bt s a) = true) : a < wE s a := by
  have ha : a < s.size := lt_of_bt (fun e => by rw [e] at h; exact absurd h (by decide))
  unfold wE
  rw [if_pos h]
  exact span_pos ha (isLt_goes h)
theorem signE_ge (s : ByteArray) (a : Nat) : a ≤ signE s a := by unfold signE; split <;> omega
theorem signE_le {s : ByteArray} {a : Nat} (h : a ≤ s.size) : signE s a ≤ s.size := by
  unfold signE
  split
  · rename_i h1
    have := lt_of_bt (s := s) (i := a) (by rw [h1]; decide)
    omega
  · exact h
/-- what is read ends within the text, behind where it begins -/
theorem oneI_le {s : ByteArray} {i p : Nat} {x : Iso} (hi : i ≤ s.size) (h : oneI s i = .ok x p) : i < p ∧ p ≤ s.size := by
  unfold oneI at h
  split at h
  · rename_i h1
    have hb := bl_ge s i
    have hw := wE_pos h1
    have hwl := wE_le (bl_le hi)
    have hc := bl_ge s (wE s (bl s i))
    have hcl := bl_le hwl
    split at h
    · cases h
    · split at h
      · injection h with h2 h3
        subst h3
        omega
      · split at h
        · unfold keyI at h
          split at h
          · rename_i h34
            cases hx : strAns s (bl s (wE s (bl s i))) with
            | err q c => rw [hx] at h; cases h
            | tok t =>
              rw [hx] at h
              injection h with h2 h3
              subst h3
              have := str_fin (s := s) (a := bl s (wE s (bl s i))) (t := t) (lt_of_bt (by rw [h34]; decide)) hx
              omega
          · cases h
        · unfold numI at h
          split at h
          · cases h
          · rename_i hd
            split at h
            · cases h
            · split at h
              · split at h
                · cases h
                · injection h with h2 h3
                  subst h3
                  have hd' : intB s (bl s (wE s (bl s i))) = true := by unfold intB; revert hd; cases isDg (bt s (signE s (bl s (wE s (bl s i))))) <;> simp
                  have := num_form hd'
                  omega
              · cases h
  · cases h
theorem isosF_mono {s : ByteArray} : ∀ (f : Nat) (acc : List Iso) (i : Nat), i ≤ s.size → s.size + 2 ≤ f + i → ∀ g, s.size + 2 ≤ g + i → isosF s f acc i = isosF s g acc i
  | 0, acc, i, hi, hf, g, hg => by omega
  | f + 1, acc, i, hi, hf, g, hg => by
    obtain ⟨g', rfl⟩ : ∃ g', g = g' + 1 := ⟨g - 1, by omega⟩
    rw [isosF, isosF]
    cases hx : oneI s i with
    | err p c => rfl
    | ok x p =>
      dsimp only
      obtain ⟨h1, h2⟩ := oneI_le hi hx
      split
      · rename_i hb
        have := bl_ge s p
        have hlt := lt_of_bt (s := s) (i := bl s p) (by rw [hb]; decide)
        exact isosF_mono f _ _ (by omega) (by omega) g' (by omega)
      · rfl
theorem isosF_out {s : ByteArray} : ∀ (f : Nat) (acc : List Iso) (i : Nat), i ≤ s.size → s.size + 2 ≤ f + i → isosF s f acc i ≠ .out
  | 0, acc, i, hi, hf => by omega
  | f + 1, acc, i, hi, hf => by
    rw [isosF]
    cases hx : oneI s i with
    | err p c => intro h; cases h
    | ok x p =>
      dsimp only
      obtain ⟨h1, h2⟩ := oneI_le hi hx
      split
      · rename_i hb
        have := bl_ge s p
        have hlt := lt_of_bt (s := s) (i := bl s p) (by rw [hb]; decide)
        exact isosF_out f _ _ (by omega) (by omega)
      · intro h; cases h
/-- read on from a place: a step -/
theorem isosF_step {s : ByteArray} {acc : List Iso} {i p : Nat} {x : Iso} (hi : i ≤ s.size) (hx : oneI s i = .ok x p) (hb : bt s (bl s p) = 124) : isosF s (s.size + 2 - i) acc i = isosF s (s.size + 2 - (bl s p + 1)) (acc ++ [x]) (bl s p + 1) := by
  obtain ⟨h1, h2⟩ := oneI_le hi hx
  obtain ⟨f, hf⟩ : ∃ f, s.size + 2 - i = f + 1 := ⟨s.size + 1 - i, by omega⟩
  have := bl_ge s p
  have hlt := lt_of_bt (s := s) (i := bl s p) (by rw [hb]; decide)
  rw [hf, isosF, hx]
  dsimp only
  rw [if_pos hb]
  exact isosF_mono f _ _ (by omega) (by omega) _ (by omega)
theorem isosF_end {s : ByteArray} {acc : List Iso} {i p : Nat} {x : Iso} (hi : i ≤ s.size) (hx : oneI s i = .ok x p) (hb : bt s (bl s p) ≠ 124) : isosF s (s.size + 2 - i) acc i = .ok (acc ++ [x]) p := by
  obtain ⟨f, hf⟩ : ∃ f, s.size + 2 - i = f + 1 := ⟨s.size + 1 - i, by omega⟩
  rw [hf, isosF, hx]
  dsimp only
  rw [if_neg hb]
theorem isosF_err {s : ByteArray} {acc : List Iso} {i p : Nat} {c : Int} (hi : i ≤ s.size) (hx : oneI s i = .err p c) : isosF s (s.size + 2 - i) acc i = .err p c := by
  obtain ⟨f, hf⟩ : ∃ f, s.size + 2 - i = f + 1 := ⟨s.size + 1 - i, by omega⟩
  rw [hf, isosF, hx]
def awk11 : ByteArray := ⟨#[112, 108, 117, 115, 32, 50, 32, 124, 32, 115, 104, 111, 119]⟩
theorem isos_awk11 : isos awk11 0 = .ok [⟨plusW, 2, nix⟩, ⟨showW, 0, nix⟩] 13 := by kernel_rfl
end Go.Proofs.YtfiahpeajccinaaGreatDoor.Iz
