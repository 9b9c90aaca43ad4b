/- Bytes of a text and runs of them: plain mathematics. Plain mathematics of UTF-8, no program: what a range over a string decodes at a place, against the bytes of points. Plain mathematics: any bytes are the bytes of some points, and a rest at which no point begins. The tokens of a text: plain mathematics. A number's text within a text: plain mathematics. All tokens of a text: plain mathematics. Values as trees: plain mathematics. The value of a text: plain mathematics, over the tokens. A value's tokens are read as it, or it is too deep: plain mathematics. What stands between brackets, part by part: plain mathematics. -/
import Derived.Lib.RuneBytes
import Derived.Laws.RangeAny
import Derived.Laws.Runes
import Derived.Test.YtgblenoaeanogaaGreatDoorNA
set_option linter.unusedVariables false
set_option maxRecDepth 100000
set_option maxHeartbeats 8000000
open Go.Lib (hid)
namespace Go.Proofs.YtgblenoaeanogaaGreatDoor.Tk
theorem size_toList (s : ByteArray) : s.data.toList.length = s.size := rfl
def bt (s : ByteArray) (i : Nat) : Nat := (s.data.toList.getD i 0).toNat
theorem bt_lt (s : ByteArray) (i : Nat) : bt s i < 256 := UInt8.toNat_lt _
theorem bt_at (s : ByteArray) (i : Nat) (h : i < s.size) : (s[i]'h).toNat = bt s i := by
 unfold bt
 have h2 : i < s.data.toList.length := h
 rw [List.getD_eq_getElem?_getD, List.getElem?_eq_getElem h2]
 rfl
theorem bt_end {s : ByteArray} {i : Nat} (h : s.size ≤ i) : bt s i = 0 := by
 unfold bt
 rw [List.getD_eq_getElem?_getD, List.getElem?_eq_none (by rw [size_toList]; exact h)]; rfl
theorem lt_of_bt {s : ByteArray} {i : Nat} (h : bt s i ≠ 0) : i < s.size := by
 rcases Nat.lt_or_ge i s.size with h1 | h1
 · exact h1
 · exact absurd (bt_end h1) h
def spanF (p : Nat → Bool) (s : ByteArray) : Nat → Nat → Nat
 | 0, i => i
 | n + 1, i => if p (bt s i) = true then spanF p s n (i + 1) else i
def span (p : Nat → Bool) (s : ByteArray) (i : Nat) : Nat := spanF p s (s.size - i) i
theorem span_yes {p : Nat → Bool} {s : ByteArray} {i : Nat} (h : i < s.size) (hp : p (bt s i) = true) : span p s i = span p s (i + 1) := by
 unfold span
 obtain ⟨n, hn⟩ : ∃ n, s.size - i = n + 1 := ⟨s.size - i - 1, by omega⟩
 rw [hn, show s.size - (i + 1) = n by omega]
 simp only [spanF, hp, if_true]
theorem span_end {p : Nat → Bool} {s : ByteArray} {i : Nat} (h : s.size ≤ i) : span p s i = i := by
 unfold span
 rw [show s.size - i = 0 by omega]; rfl
theorem span_no {p : Nat → Bool} {s : ByteArray} {i : Nat} (hp : p (bt s i) = false) : span p s i = i := by
 rcases Nat.lt_or_ge i s.size with h | h
 ·
  unfold span
  obtain ⟨n, hn⟩ : ∃ n, s.size - i = n + 1 := ⟨s.size - i - 1, by omega⟩
  rw [hn]
  simp [spanF, hp]
 · exact span_end h
theorem spanF_ge (p : Nat → Bool) (s : ByteArray) : ∀ n i, i ≤ spanF p s n i := by
 intro n
 induction n with
 | zero => intro i; exact Nat.le_refl _
 | succ n ih => intro i; unfold spanF; split; exact Nat.le_trans (Nat.le_succ i) (ih (i + 1)); exact Nat.le_refl _
theorem spanF_le (p : Nat → Bool) (s : ByteArray) : ∀ n i, spanF p s n i ≤ i + n := by
 intro n
 induction n with
 | zero => intro i; exact Nat.le_refl _
 | succ n ih => intro i; unfold spanF; split; have := ih (i + 1); omega; omega
theorem span_ge (p : Nat → Bool) (s : ByteArray) (i : Nat) : i ≤ span p s i := spanF_ge p s _ i
theorem span_le (p : Nat → Bool) {s : ByteArray} {i : Nat} (h : i ≤ s.size) : span p s i ≤ s.size := by
 have := spanF_le p s (s.size - i) i
 unfold span; omega
theorem spanF_in (p : Nat → Bool) (s : ByteArray) : ∀ n i k, i ≤ k → k < spanF p s n i → p (bt s k) = true := by
 intro n
 induction n with
 | zero => intro i k h1 h2; simp only [spanF] at h2; omega
 | succ n ih =>
  intro i k h1 h2
  unfold spanF at h2
  split at h2
  ·
   rename_i hp
   rcases Nat.lt_or_ge i k with h | h
   · exact ih (i + 1) k h h2
   ·
    obtain rfl : i = k := by omega
    exact hp
  · omega
theorem span_in {p : Nat → Bool} {s : ByteArray} {i k : Nat} (h1 : i ≤ k) (h2 : k < span p s i) : p (bt s k) = true := spanF_in p s _ i k h1 h2
theorem span_pos {p : Nat → Bool} {s : ByteArray} {i : Nat} (h : i < s.size) (hp : p (bt s i) = true) : i < span p s i := by
 rw [span_yes h hp]; exact span_ge p s (i + 1)
theorem span_out {p : Nat → Bool} {s : ByteArray} {i : Nat} (h : span p s i < s.size) : p (bt s (span p s i)) = false := by
 have key : ∀ n i, s.size - i = n → span p s i < s.size → p (bt s (span p s i)) = false := by
  intro n
  induction n with
  | zero => intro i hn h; have := span_ge p s i; omega
  | succ n ih =>
   intro i hn h
   by_cases hp : p (bt s i) = true
   ·
    have e := span_yes (p := p) (show i < s.size by omega) hp
    rw [e] at h ⊢
    exact ih (i + 1) (by omega) h
   · rw [span_no (by simpa using hp)]; simpa using hp
 exact key _ i rfl h
def isBl (c : Nat) : Bool := c == 32 || c == 9 || c == 10 || c == 13
def isDg (c : Nat) : Bool := decide (48 ≤ c) && decide (c ≤ 57)
theorem isDg_iff {c : Nat} : isDg c = true ↔ 48 ≤ c ∧ c ≤ 57 := by simp [isDg]
theorem isDg_no {c : Nat} : isDg c = false ↔ c < 48 ∨ 57 < c := by
 rw [← Bool.not_eq_true, isDg_iff]; omega
theorem isBl_iff {c : Nat} : isBl c = true ↔ c = 32 ∨ c = 9 ∨ c = 10 ∨ c = 13 := by simp [isBl, or_assoc]
def hexOf (c : Nat) : Int := if 48 ≤ c ∧ c ≤ 57 then (c : Int) - 48 else if 97 ≤ c ∧ c ≤ 102 then (c : Int) - 87 else if 65 ≤ c ∧ c ≤ 70 then (c : Int) - 55 else -1
theorem hexOf_le (c : Nat) : -1 ≤ hexOf c ∧ hexOf c ≤ 15 := by unfold hexOf; split <;> (try split) <;> (try split) <;> omega
theorem hexOf_end {s : ByteArray} {i : Nat} (h : s.size ≤ i) : hexOf (bt s i) = -1 := by rw [bt_end h]; rfl
def fourF (s : ByteArray) : Nat → Nat → Int → Int × Nat
 | 0, i, n => (n, i)
 | k + 1, i, n => if hexOf (bt s i) < 0 then (-1, i) else fourF s k (i + 1) (n * 16 + hexOf (bt s i))
def four (s : ByteArray) (i : Nat) : Int × Nat := fourF s 4 i 0
theorem fourF_no {s : ByteArray} {k i : Nat} {n : Int} (h : hexOf (bt s i) < 0) : fourF s (k + 1) i n = (-1, i) := by simp [fourF, h]
theorem fourF_yes {s : ByteArray} {k i : Nat} {n : Int} (h : 0 ≤ hexOf (bt s i)) : fourF s (k + 1) i n = fourF s k (i + 1) (n * 16 + hexOf (bt s i)) := by
 have : ¬ hexOf (bt s i) < 0 := by omega
 simp [fourF, this]
theorem fourF_range (s : ByteArray) : ∀ k i (n : Int), 0 ≤ n → ((fourF s k i n).1 = -1 ∧ i ≤ (fourF s k i n).2 ∧ (fourF s k i n).2 < i + k ∧ hexOf (bt s (fourF s k i n).2) < 0) ∨ (n * 16 ^ k ≤ (fourF s k i n).1 ∧ (fourF s k i n).1 < (n + 1) * 16 ^ k ∧ (fourF s k i n).2 = i + k ∧ ∀ j, i ≤ j → j < i + k → j < s.size) := by
 intro k
 induction k with
 | zero => intro i n hn; right; simp [fourF]; exact ⟨by omega, fun j h1 h2 => absurd h1 (by omega)⟩
 | succ k ih =>
  intro i n hn
  by_cases h : hexOf (bt s i) < 0
  · left; rw [fourF_no h]; exact ⟨rfl, Nat.le_refl _, by show i < i + (k + 1); omega, h⟩
  ·
   have h0 : 0 ≤ hexOf (bt s i) := by omega
   have hl := (hexOf_le (bt s i)).2
   have hi : i < s.size := by
    rcases Nat.lt_or_ge i s.size with h1 | h1
    · exact h1
    · rw [hexOf_end h1] at h; omega
   rw [fourF_yes h0]
   rcases ih (i + 1) (n * 16 + hexOf (bt s i)) (by omega) with ⟨a, b, c, d⟩ | ⟨a, b, c, d⟩
   · left; exact ⟨a, by omega, by omega, d⟩
   ·
    right
    refine ⟨?_, ?_, by omega, fun j h1 h2 => ?_⟩
    ·
     refine Int.le_trans ?_ a
     rw [Int.pow_succ, ← Int.mul_assoc, Int.mul_right_comm]
     exact Int.mul_le_mul_of_nonneg_right (by omega) (Int.pow_nonneg (by decide))
    ·
     refine Int.lt_of_lt_of_le b ?_
     rw [Int.pow_succ, ← Int.mul_assoc, Int.mul_right_comm]
     exact Int.mul_le_mul_of_nonneg_right (by omega) (Int.pow_nonneg (by decide))
    ·
     rcases Nat.lt_or_ge i j with h3 | h3
     · exact d j h3 (by omega)
     · omega
theorem four_range (s : ByteArray) (i : Nat) : ((four s i).1 = -1 ∧ i ≤ (four s i).2 ∧ (four s i).2 < i + 4) ∨ (0 ≤ (four s i).1 ∧ (four s i).1 < 65536 ∧ (four s i).2 = i + 4 ∧ i + 4 ≤ s.size) := by
 rcases fourF_range s 4 i 0 (by decide) with ⟨a, b, c, _⟩ | ⟨a, b, c, d⟩
 · exact .inl ⟨a, b, c⟩
 ·
  refine .inr ⟨by unfold four; omega, by unfold four; omega, c, ?_⟩
  have := d (i + 3) (by omega) (by omega); omega
end Go.Proofs.YtgblenoaeanogaaGreatDoor.Tk
namespace Go.Proofs.YtgblenoaeanogaaGreatDoor.Pl
def pt (n : Int) : Bool := decide ((0 ≤ n ∧ n < 55296) ∨ (57343 < n ∧ n ≤ 1114111))
theorem pt_iff (n : Int) : pt n = true ↔ ((0 ≤ n ∧ n < 55296) ∨ (57343 < n ∧ n ≤ 1114111)) := by simp [pt]
def decL (L : List UInt8) : Nat × Nat :=
 let b (k : Nat) : Nat := (L.getD k 0).toNat
 let cont (k : Nat) : Bool := decide (k < L.length) && b k / 64 == 2
 if b 0 < 128 then (b 0, 1)
 else if b 0 / 32 == 6 && cont 1 then
  (if (b 0 % 32) * 64 + b 1 % 64 ≥ 128 then ((b 0 % 32) * 64 + b 1 % 64, 2) else (65533, 1))
 else if b 0 / 16 == 14 && cont 1 && cont 2 then
  (if (b 0 % 16) * 4096 + (b 1 % 64) * 64 + b 2 % 64 ≥ 2048 && Utf8.valid (((b 0 % 16) * 4096 + (b 1 % 64) * 64 + b 2 % 64 : Nat) : Int) then ((b 0 % 16) * 4096 + (b 1 % 64) * 64 + b 2 % 64, 3) else (65533, 1))
 else if b 0 / 8 == 30 && cont 1 && cont 2 && cont 3 then
  (if (b 0 % 8) * 262144 + (b 1 % 64) * 4096 + (b 2 % 64) * 64 + b 3 % 64 ≥ 65536 && Utf8.valid (((b 0 % 8) * 262144 + (b 1 % 64) * 4096 + (b 2 % 64) * 64 + b 3 % 64 : Nat) : Int) then ((b 0 % 8) * 262144 + (b 1 % 64) * 4096 + (b 2 % 64) * 64 + b 3 % 64, 4) else (65533, 1))
 else (65533, 1)
theorem get_drop (s : ByteArray) (i k : Nat) : s.get! (i + k) = (s.data.toList.drop i).getD k 0 := by
 rw [List.getD_eq_getElem?_getD, List.getElem?_drop, Array.getElem?_toList]
 rcases s with ⟨d⟩
 show d[i + k]! = _
 by_cases h : i + k < d.size
 · simp [h]
 · simp [h]; rfl
theorem decode_eq (s : ByteArray) (i : Nat) : Utf8.decode s i = decL (s.data.toList.drop i) := by
 have hl : (s.data.toList.drop i).length = s.size - i := by
  rw [List.length_drop, Array.length_toList]; rfl
 have hc : ∀ k, decide (k < (s.data.toList.drop i).length) = decide (i + k < s.size) := by
  intro k; rw [hl]; apply decide_eq_decide.2; omega
 simp only [decL, Utf8.decode, hc, get_drop, Utf8.runeError]
def fffd (L : List UInt8) : Bool := L.take 3 == [239, 191, 189]
def ok (L : List UInt8) : Bool := !L.isEmpty && !((decL L).1 == 65533 && !fffd L)
theorem b8 (x : Int) (_h0 : 0 ≤ x) (h1 : x < 256) : (x.toNat.toUInt8).toNat = x.toNat := by
 simp [Nat.toUInt8]; omega
theorem u8_eq (a : UInt8) (x : Int) (h : (a.toNat : Int) = x) : a = x.toNat.toUInt8 := by
 apply UInt8.toNat_inj.1
 have := a.toNat_lt
 rw [b8 x (by omega) (by omega)]; omega
theorem ok_of_enc (r : Int) (rest : List UInt8) (h : pt r = true) :
 decL (Lib.encodeRune r ++ rest) = (r.toNat, (Lib.encodeRune r).length) ∧ ok (Lib.encodeRune r ++ rest) = true := by
 have hp := (pt_iff r).1 h
 have hv : Utf8.valid r = true := by rw [validRune_eq]; simpa [validRune] using hp
 have key : decL (Lib.encodeRune r ++ rest) = (r.toNat, (Lib.encodeRune r).length) := by
  by_cases h1 : r ≤ 127
  ·
   simp [Lib.encodeRune, Lib.encodeRuneZ_one (by omega) h1, decL, b8 r (by omega) (by omega)]
   omega
  ·
   by_cases h2 : r ≤ 2047
   ·
    have e0 := b8 (192 + r / 64) (by omega) (by omega)
    have e1 := b8 (128 + r % 64) (by omega) (by omega)
    simp only [Lib.encodeRune, Lib.encodeRuneZ_two (by omega) h2, decL, List.map_cons, List.map_nil, List.cons_append, List.nil_append, List.getD_cons_zero, List.getD_cons_succ, e0, e1, List.length_cons, List.length_nil]
    have c0 : ¬ (192 + r / 64).toNat < 128 := by omega
    have c1 : ((192 + r / 64).toNat / 32 == 6) = true := by simp; omega
    have c2 : ((128 + r % 64).toNat / 64 == 2) = true := by simp; omega
    have c3 : decide (1 < rest.length + 1 + 1) = true := by simp
    have c4 : (192 + r / 64).toNat % 32 * 64 + (128 + r % 64).toNat % 64 = r.toNat := by omega
    rw [if_neg c0, c1, c2, c3, c4]
    simp; omega
   ·
    by_cases h3 : r ≤ 65535
    ·
     have e0 := b8 (224 + r / 4096) (by omega) (by omega)
     have e1 := b8 (128 + r / 64 % 64) (by omega) (by omega)
     have e2 := b8 (128 + r % 64) (by omega) (by omega)
     simp only [Lib.encodeRune, Lib.encodeRuneZ_three (show (2048 ≤ r ∧ r < 55296) ∨ (57343 < r ∧ r ≤ 65535) by omega), decL, List.map_cons, List.map_nil, List.cons_append, List.nil_append, List.getD_cons_zero, List.getD_cons_succ, e0, e1, e2, List.length_cons, List.length_nil]
     have c0 : ¬ (224 + r / 4096).toNat < 128 := by omega
     have c1 : ((224 + r / 4096).toNat / 32 == 6) = false := by simp; omega
     have c1' : ((224 + r / 4096).toNat / 16 == 14) = true := by simp; omega
     have c2 : ((128 + r / 64 % 64).toNat / 64 == 2) = true := by simp; omega
     have c2' : ((128 + r % 64).toNat / 64 == 2) = true := by simp; omega
     have c3 : decide (1 < rest.length + 1 + 1 + 1) = true := by simp
     have c3' : decide (2 < rest.length + 1 + 1 + 1) = true := by simp
     have c4 : (224 + r / 4096).toNat % 16 * 4096 + (128 + r / 64 % 64).toNat % 64 * 64 + (128 + r % 64).toNat % 64 = r.toNat := by omega
     rw [if_neg c0, c1, c1', c2, c2', c3, c3', c4, show ((r.toNat : Nat) : Int) = r by omega, hv]
     simp; omega
    ·
     have e0 := b8 (240 + r / 262144) (by omega) (by omega)
     have e1 := b8 (128 + r / 4096 % 64) (by omega) (by omega)
     have e2 := b8 (128 + r / 64 % 64) (by omega) (by omega)
     have e3 := b8 (128 + r % 64) (by omega) (by omega)
     simp only [Lib.encodeRune, Lib.encodeRuneZ_four (show 65536 ≤ r by omega) (show r ≤ 1114111 by omega), decL, List.map_cons, List.map_nil, List.cons_append, List.nil_append, List.getD_cons_zero, List.getD_cons_succ, e0, e1, e2, e3, List.length_cons, List.length_nil]
     have c0 : ¬ (240 + r / 262144).toNat < 128 := by omega
     have c1 : ((240 + r / 262144).toNat / 32 == 6) = false := by simp; omega
     have c1' : ((240 + r / 262144).toNat / 16 == 14) = false := by simp; omega
     have c1'' : ((240 + r / 262144).toNat / 8 == 30) = true := by simp; omega
     have c2 : ((128 + r / 4096 % 64).toNat / 64 == 2) = true := by simp; omega
     have c2' : ((128 + r / 64 % 64).toNat / 64 == 2) = true := by simp; omega
     have c2'' : ((128 + r % 64).toNat / 64 == 2) = true := by simp; omega
     have c3 : decide (1 < rest.length + 1 + 1 + 1 + 1) = true := by simp
     have c3' : decide (2 < rest.length + 1 + 1 + 1 + 1) = true := by simp
     have c3'' : decide (3 < rest.length + 1 + 1 + 1 + 1) = true := by simp
     have c4 : (240 + r / 262144).toNat % 8 * 262144 + (128 + r / 4096 % 64).toNat % 64 * 4096 + (128 + r / 64 % 64).toNat % 64 * 64 + (128 + r % 64).toNat % 64 = r.toNat := by omega
     rw [if_neg c0, c1, c1', c1'', c2, c2', c2'', c3, c3', c3'', c4, show ((r.toNat : Nat) : Int) = r by omega, hv]
     simp; omega
 refine ⟨key, ?_⟩
 unfold ok
 rw [key]
 have hne : (Lib.encodeRune r ++ rest).isEmpty = false := by
  have := (Lib.encodeRuneZ_length r).1
  cases he : Lib.encodeRune r with
  | nil => simp [Lib.encodeRune] at he; rw [he] at this; simp at this
  | cons a l => rfl
 rw [hne]
 by_cases h5 : r = 65533
 ·
  subst h5
  have e : Lib.encodeRune 65533 = [239, 191, 189] := by decide
  simp [fffd, e]
 ·
  have : (r.toNat == 65533) = false := by simp; omega
  rw [this]; rfl
theorem enc_of_ok (L : List UInt8) (h : ok L = true) : pt ((decL L).1 : Int) = true ∧ L = Lib.encodeRune ((decL L).1 : Int) ++ L.drop (decL L).2 ∧ (Lib.encodeRune ((decL L).1 : Int)).length = (decL L).2 := by
 obtain ⟨a, T, rfl⟩ : ∃ a T, L = a :: T := by
  cases L with
  | nil => simp [ok] at h
  | cons a T => exact ⟨a, T, rfl⟩
 have ha := a.toNat_lt
 by_cases f : fffd (a :: T) = true
 ·
  -- its bytes are U+FFFD's own
  obtain ⟨rest, he⟩ : ∃ rest, a :: T = Lib.encodeRune 65533 ++ rest := by
   have e : Lib.encodeRune 65533 = [239, 191, 189] := by decide
   refine ⟨(a :: T).drop 3, ?_⟩
   have := List.take_append_drop 3 (a :: T)
   rw [← this]
   simp only [fffd, beq_iff_eq] at f
   rw [f, e]
   simp
  have := (ok_of_enc 65533 rest (by decide)).1
  rw [he, this]
  refine ⟨by decide, ?_, by simp⟩
  simp
 ·
  have hne : (decL (a :: T)).1 ≠ 65533 := by
   intro e
   simp [ok, e, f] at h
  clear h f
  revert hne
  simp only [decL, List.getD_cons_zero]
  split
  ·
   rename_i h1
   intro _
   refine ⟨(pt_iff _).2 (by omega), ?_, ?_⟩
   ·
    rw [Lib.encodeRune, Lib.encodeRuneZ_one (by omega) (by omega)]
    simp
   · rw [Lib.encodeRune, Lib.encodeRuneZ_one (by omega) (by omega)]; rfl
  ·
   rename_i h1
   split
   ·
    rename_i h2
    simp only [Bool.and_eq_true, beq_iff_eq, decide_eq_true_eq] at h2
    obtain ⟨h2, h3, h4⟩ := h2
    obtain ⟨b, T, rfl⟩ : ∃ b T', T = b :: T' := by
     cases T with
     | nil => simp at h3
     | cons b T => exact ⟨b, T, rfl⟩
    have hb := b.toNat_lt
    simp only [List.getD_cons_succ, List.getD_cons_zero] at h4 ⊢
    split
    ·
     rename_i h5
     intro _
     simp only []
     have e := Lib.encodeRuneZ_two (r := ((a.toNat % 32 * 64 + b.toNat % 64 : Nat) : Int)) (by omega) (by omega)
     refine ⟨(pt_iff _).2 (by omega), ?_, ?_⟩
     ·
      rw [Lib.encodeRune, e]
      simp only [List.map_cons, List.map_nil, List.cons_append, List.nil_append, List.drop_succ_cons, List.drop_zero]
      rw [← u8_eq a _ (by omega), ← u8_eq b _ (by omega)]
     · rw [Lib.encodeRune, e]; rfl
    · intro hn; exact absurd rfl hn
   ·
    split
    ·
     rename_i h0 h2
     simp only [Bool.and_eq_true, beq_iff_eq, decide_eq_true_eq] at h2
     obtain ⟨⟨h2, h3, h4⟩, h3', h4'⟩ := h2
     obtain ⟨b, c, T, rfl⟩ : ∃ b c T', T = b :: c :: T' := by
      cases T with
      | nil => simp at h3
      | cons b T =>
       cases T with
       | nil => simp at h3'
       | cons c T => exact ⟨b, c, T, rfl⟩
     have hb := b.toNat_lt
     have hc := c.toNat_lt
     simp only [List.getD_cons_succ, List.getD_cons_zero] at h4 h4' ⊢
     split
     ·
      rename_i h5
      intro _
      simp only [Bool.and_eq_true, decide_eq_true_eq] at h5
      obtain ⟨h5, h6⟩ := h5
      rw [validRune_eq] at h6
      simp only [validRune, decide_eq_true_eq] at h6
      simp only []
      have e := Lib.encodeRuneZ_three (r := ((a.toNat % 16 * 4096 + b.toNat % 64 * 64 + c.toNat % 64 : Nat) : Int)) (by omega)
      refine ⟨(pt_iff _).2 (by omega), ?_, ?_⟩
      ·
       rw [Lib.encodeRune, e]
       simp only [List.map_cons, List.map_nil, List.cons_append, List.nil_append, List.drop_succ_cons, List.drop_zero]
       rw [← u8_eq a _ (by omega), ← u8_eq b _ (by omega), ← u8_eq c _ (by omega)]
      · rw [Lib.encodeRune, e]; rfl
     · intro hn; exact absurd rfl hn
    ·
     split
     ·
      rename_i h0 h00 h2
      simp only [Bool.and_eq_true, beq_iff_eq, decide_eq_true_eq] at h2
      obtain ⟨⟨⟨h2, h3, h4⟩, h3', h4'⟩, h3'', h4''⟩ := h2
      obtain ⟨b, c, d, T, rfl⟩ : ∃ b c d T', T = b :: c :: d :: T' := by
       cases T with
       | nil => simp at h3
       | cons b T =>
        cases T with
        | nil => simp at h3'
        | cons c T =>
         cases T with
         | nil => simp at h3''
         | cons d T => exact ⟨b, c, d, T, rfl⟩
      have hb := b.toNat_lt
      have hc := c.toNat_lt
      have hd := d.toNat_lt
      simp only [List.getD_cons_succ, List.getD_cons_zero] at h4 h4' h4'' ⊢
      split
      ·
       rename_i h5
       intro _
       simp only [Bool.and_eq_true, decide_eq_true_eq] at h5
       obtain ⟨h5, h6⟩ := h5
       rw [validRune_eq] at h6
       simp only [validRune, decide_eq_true_eq] at h6
       simp only []
       have e := Lib.encodeRuneZ_four (r := ((a.toNat % 8 * 262144 + b.toNat % 64 * 4096 + c.toNat % 64 * 64 + d.toNat % 64 : Nat) : Int)) (by omega) (by omega)
       refine ⟨(pt_iff _).2 (by omega), ?_, ?_⟩
       ·
        rw [Lib.encodeRune, e]
        simp only [List.map_cons, List.map_nil, List.cons_append, List.nil_append, List.drop_succ_cons, List.drop_zero]
        rw [← u8_eq a _ (by omega), ← u8_eq b _ (by omega), ← u8_eq c _ (by omega), ← u8_eq d _ (by omega)]
       · rw [Lib.encodeRune, e]; rfl
      · intro hn; exact absurd rfl hn
     · intro hn; exact absurd rfl hn
end Go.Proofs.YtgblenoaeanogaaGreatDoor.Pl
namespace Go.Proofs.YtgblenoaeanogaaGreatDoor.Pl
def flat (l : List Int) : List UInt8 := l.flatMap Lib.encodeRune
theorem flat_nil : flat [] = [] := rfl
theorem flat_cons (x : Int) (l : List Int) : flat (x :: l) = Lib.encodeRune x ++ flat l := by simp [flat]
theorem flat_append (l m : List Int) : flat (l ++ m) = flat l ++ flat m := by simp [flat]
theorem enc_len (r : Int) : 1 ≤ (Lib.encodeRune r).length ∧ (Lib.encodeRune r).length ≤ 4 := by
 have := Lib.encodeRuneZ_length r
 simpa [Lib.encodeRune] using this
def Split (S : List UInt8) (l : List Int) (R : List UInt8) : Prop := S = flat l ++ R ∧ ok R = false ∧ ∀ x ∈ l, pt x = true
def off (l : List Int) (k : Nat) : Nat := (flat (l.take k)).length
theorem off_succ (l : List Int) (k : Nat) (h : k < l.length) : off l (k + 1) = off l k + (Lib.encodeRune (l.getD k 0)).length := by
 unfold off
 rw [List.take_succ_eq_append_getElem h, flat_append, List.length_append]
 simp [flat, List.getElem?_eq_getElem h]
theorem off_lt (l : List Int) (k : Nat) (h : k < l.length) : off l k < off l (k + 1) := by
 rw [off_succ l k h]; have := (enc_len (l.getD k 0)).1; omega
theorem off_le (l : List Int) (k : Nat) : off l k ≤ (flat l).length := by
 have : flat l = flat (l.take k) ++ flat (l.drop k) := by rw [← flat_append, List.take_append_drop]
 rw [this, List.length_append]; unfold off; omega
theorem drop_off (l : List Int) (R : List UInt8) (k : Nat) : (flat l ++ R).drop (off l k) = flat (l.drop k) ++ R := by
 have : flat l = flat (l.take k) ++ flat (l.drop k) := by rw [← flat_append, List.take_append_drop]
 rw [this, List.append_assoc, off, List.drop_left]
theorem drop_all (l : List Int) (R : List UInt8) : (flat l ++ R).drop (flat l).length = R := List.drop_left
theorem drop_at (l : List Int) (R : List UInt8) (k : Nat) (h : k < l.length) :
 (flat l ++ R).drop (off l k) = Lib.encodeRune (l.getD k 0) ++ (flat (l.drop (k + 1)) ++ R) := by
 rw [drop_off, List.drop_eq_getElem_cons h, flat_cons, List.append_assoc]
 simp [List.getElem?_eq_getElem h]
section
variable {s : ByteArray} {l : List Int} {R : List UInt8}
theorem Split.size (h : Split s.data.toList l R) : s.size = (flat l).length + R.length := by
 have := congrArg List.length h.1
 rw [List.length_append, Array.length_toList] at this
 exact this
theorem Split.ptAt (h : Split s.data.toList l R) {k : Nat} (hk : k < l.length) : pt (l.getD k 0) = true := by
 apply h.2.2
 rw [List.getD_eq_getElem?_getD, List.getElem?_eq_getElem hk]
 exact List.getElem_mem hk
theorem Split.dec (h : Split s.data.toList l R) {k : Nat} (hk : k < l.length) :
 Utf8.decode s (off l k) = ((l.getD k 0).toNat, (Lib.encodeRune (l.getD k 0)).length) ∧ ok (s.data.toList.drop (off l k)) = true := by
 rw [decode_eq, h.1, drop_at l R k hk]
 exact ok_of_enc _ _ (h.ptAt hk)
theorem Split.bad (h : Split s.data.toList l R) (hR : R ≠ []) : (Utf8.decode s (flat l).length).1 = 65533 ∧ fffd (s.data.toList.drop (flat l).length) = false := by
 rw [decode_eq, h.1, drop_all]
 have h2 := h.2.1
 cases R with
 | nil => exact absurd rfl hR
 | cons a T =>
  simp [ok] at h2
  exact h2
theorem Split.step (h : Split s.data.toList l R) {k : Nat} (hk : k < l.length) :
 (Utf8.decode s (off l k)).1 = (l.getD k 0).toNat ∧ off l k + (Utf8.decode s (off l k)).2 = off l (k + 1) ∧ off l k < s.size ∧ off l k < off l (k + 1) ∧ off l (k + 1) ≤ s.size ∧
  (l.getD k 0).toNat ≤ 1114111 ∧ ((((l.getD k 0).toNat : Nat) : Int) = l.getD k 0) ∧ ((l.getD k 0).toNat = 65533 → fffd (s.data.toList.drop (off l k)) = true) := by
 have hd := h.dec hk
 have hoff := off_succ l k hk
 have hle := off_le l (k + 1)
 have hlt := off_lt l k hk
 have hsz := h.size
 have hp := (pt_iff _).1 (h.ptAt hk)
 refine ⟨by rw [hd.1], by rw [hd.1, hoff], by omega, hlt, by omega, by omega, by omega, ?_⟩
 intro e
 have h2 := hd.2
 have h1 := congrArg Prod.fst hd.1
 rw [decode_eq] at h1
 simp only [ok, h1, e] at h2
 simp at h2
 exact h2.2
end
end Go.Proofs.YtgblenoaeanogaaGreatDoor.Pl
namespace Go.Proofs.YtgblenoaeanogaaGreatDoor.Tk
open Pl
structure Tok where
 kind : Int
 text : ByteArray
 num : Int
 at_ : Nat
 fin : Nat
inductive Ans where
 | tok (t : Tok)
 | err (p : Nat) (e : Int)
def nix : ByteArray := ⟨#[]⟩
def isMark (c : Nat) : Bool := c == 123 || c == 125 || c == 91 || c == 93 || c == 58 || c == 44
def one (c : Nat) : ByteArray := ⟨#[c.toUInt8]⟩
def wordE (s : ByteArray) : List Nat → Nat → Nat
 | [], i => i
 | c :: r, i => if bt s i = c then wordE s r (i + 1) else i
theorem wordE_size {s : ByteArray} : ∀ l i, (∀ c ∈ l, c ≠ 0) → i ≤ s.size → wordE s l i ≤ s.size := by
 intro l
 induction l with
 | nil => intro i _ h; exact h
 | cons c r ih =>
  intro i hc h
  unfold wordE
  split
  ·
   rename_i hb
   have h1 := lt_of_bt (s := s) (i := i) (by rw [hb]; exact hc c List.mem_cons_self)
   exact ih (i + 1) (fun c hm => hc c (List.mem_cons_of_mem _ hm)) h1
  · exact h
def wordOf (c : Nat) : List Nat := if c = 116 then [116, 114, 117, 101] else if c = 102 then [102, 97, 108, 115, 101] else [110, 117, 108, 108]
def kindOf (c : Nat) : Int := if c = 116 then 4 else if c = 102 then 5 else 6
def wordAns (s : ByteArray) (a : Nat) : Ans :=
 if wordE s (wordOf (bt s a)) a = a + (wordOf (bt s a)).length then .tok ⟨kindOf (bt s a), nix, 0, a, a + (wordOf (bt s a)).length⟩ else .err (wordE s (wordOf (bt s a)) a) 1
def signE (s : ByteArray) (a : Nat) : Nat := if bt s a = 45 then a + 1 else a
def intE (s : ByteArray) (a : Nat) : Nat := if bt s (signE s a) = 48 then signE s a + 1 else span isDg s (signE s a)
def intB (s : ByteArray) (a : Nat) : Bool := isDg (bt s (signE s a))
def fracE (s : ByteArray) (b : Nat) : Nat := if bt s b = 46 then span isDg s (b + 1) else b
def fracB (s : ByteArray) (b : Nat) : Bool := !(bt s b == 46) || isDg (bt s (b + 1))
def isE (c : Nat) : Bool := c == 101 || c == 69
def isSg (c : Nat) : Bool := c == 43 || c == 45
def expS (s : ByteArray) (f : Nat) : Nat := if isSg (bt s (f + 1)) = true then f + 2 else f + 1
def expE (s : ByteArray) (f : Nat) : Nat := if isE (bt s f) = true then span isDg s (expS s f) else f
def expB (s : ByteArray) (f : Nat) : Bool := !isE (bt s f) || isDg (bt s (expS s f))
def sub (s : ByteArray) (a b : Nat) : ByteArray := s.extract a b
def In64 (z : Int) : Prop := -9223372036854775808 ≤ z ∧ z ≤ 9223372036854775807
instance (z : Int) : Decidable (In64 z) := by unfold In64; infer_instance
def numAns (s : ByteArray) (a : Nat) : Ans :=
 if intB s a = false then .err (intE s a) 1
 else if fracB s (intE s a) = false then .err (fracE s (intE s a)) 1
 else if expB s (fracE s (intE s a)) = false then .err (expE s (fracE s (intE s a))) 1
 else if intE s a < expE s (fracE s (intE s a)) then .err a 4
 else if In64 (De.numL (sub s a (intE s a)).data.toList) then .tok ⟨3, nix, De.numL (sub s a (intE s a)).data.toList, a, intE s a⟩
 else .err a 4
inductive Ch where
 | pt (n : Int) (e : Nat)
 | bad (p : Nat) (c : Int)
def shortOf (c : Nat) : Option Int :=
 if c = 34 then some 34 else if c = 92 then some 92 else if c = 47 then some 47 else if c = 98 then some 8 else if c = 102 then some 12 else if c = 110 then some 10 else if c = 114 then some 13 else if c = 116 then some 9 else none
def isHigh (n : Int) : Bool := decide (55296 ≤ n ∧ n < 56320)
def isLow (n : Int) : Bool := decide (56320 ≤ n ∧ n < 57344)
def uniCh (s : ByteArray) (p : Nat) : Ch :=
 if (four s (p + 2)).1 < 0 then .bad (four s (p + 2)).2 1
 else if pt (four s (p + 2)).1 = true then .pt (four s (p + 2)).1 (four s (p + 2)).2
 else if isHigh (four s (p + 2)).1 = true ∧ bt s (p + 6) = 92 ∧ bt s (p + 7) = 117 ∧ isLow (four s (p + 8)).1 = true then
  .pt (65536 + ((four s (p + 2)).1 - 55296) * 1024 + ((four s (p + 8)).1 - 56320)) (p + 12)
 else .bad p 3
def escCh (s : ByteArray) (p : Nat) : Ch :=
 match shortOf (bt s (p + 1)) with
 | some n => .pt n (p + 2)
 | none => if bt s (p + 1) = 117 then uniCh s p else .bad (p + 1) 1
def rawCh (s : ByteArray) (p : Nat) : Ch :=
 if ok (s.data.toList.drop p) = true then .pt ((decL (s.data.toList.drop p)).1 : Nat) (p + (decL (s.data.toList.drop p)).2) else .bad p 2
def chAt (s : ByteArray) (p : Nat) : Ch :=
 if s.size ≤ p ∨ bt s p < 32 then .bad p 1 else if bt s p = 92 then escCh s p else rawCh s p
theorem shortOf_pt {c : Nat} {n : Int} (h : shortOf c = some n) : pt n = true ∧ c ≠ 0 := by
 unfold shortOf at h
 repeat' split at h
 all_goals first
  | (injection h with h; subst h; subst_vars; decide)
  | cases h
theorem uniCh_pt {s : ByteArray} {p : Nat} {n : Int} {e : Nat} (h : uniCh s p = .pt n e) : pt n = true ∧ p < e ∧ e ≤ s.size := by
 unfold uniCh at h
 split at h
 · cases h
 ·
  rename_i h0
  have h1 := four_range s (p + 2)
  split at h
  ·
   rename_i h2
   injection h with h3 h4
   subst h3 h4
   exact ⟨h2, by omega, by omega⟩
  ·
   split at h
   ·
    rename_i h2 h3
    injection h with h4 h5
    subst h4 h5
    obtain ⟨a, b, c, d⟩ := h3
    have h6 := four_range s (p + 8)
    simp only [isHigh, isLow, decide_eq_true_eq] at a d
    refine ⟨?_, by omega, by omega⟩
    rw [pt_iff]; right; omega
   · cases h
theorem chAt_pt {s : ByteArray} {p : Nat} {n : Int} {e : Nat} (h : chAt s p = .pt n e) : pt n = true ∧ p < e ∧ e ≤ s.size := by
 unfold chAt at h
 split at h
 · cases h
 ·
  rename_i h0
  split at h
  ·
   unfold escCh at h
   split at h
   ·
    rename_i m hm
    injection h with h1 h2
    subst h1 h2
    obtain ⟨a, b⟩ := shortOf_pt hm
    exact ⟨a, by omega, by have := lt_of_bt b; omega⟩
   ·
    split at h
    · exact uniCh_pt h
    · cases h
  ·
   unfold rawCh at h
   split at h
   ·
    rename_i h1
    injection h with h2 h3
    subst h2 h3
    obtain ⟨a, b, c⟩ := enc_of_ok _ h1
    have h4 := enc_len ((decL (s.data.toList.drop p)).1 : Int)
    have h5 := congrArg List.length b
    rw [List.length_append, c, List.length_drop, size_toList] at h5
    exact ⟨a, by omega, by omega⟩
   · cases h
inductive St where
 | pts (l : List Int) (e : Nat)
 | bad (p : Nat) (c : Int)
def strF (s : ByteArray) : Nat → Nat → List Int → St
 | 0, p, _ => .bad p 1
 | n + 1, p, acc => if bt s p = 34 then .pts acc (p + 1) else
  match chAt s p with
  | .pt m e => strF s n e (acc ++ [m])
  | .bad q c => .bad q c
def str (s : ByteArray) (p : Nat) (acc : List Int) : St := strF s (s.size + 1 - p) p acc
theorem strF_more (s : ByteArray) : ∀ n p acc, s.size + 1 - p ≤ n → p ≤ s.size → strF s n p acc = str s p acc := by
 have key : ∀ n m p acc, s.size + 1 - p ≤ n → s.size + 1 - p ≤ m → p ≤ s.size → strF s n p acc = strF s m p acc := by
  intro n
  induction n with
  | zero => intro m p acc h1 h2 h3; omega
  | succ n ih =>
   intro m p acc h1 h2 h3
   obtain ⟨m, rfl⟩ : ∃ k, m = k + 1 := ⟨m - 1, by omega⟩
   unfold strF
   split
   · rfl
   ·
    split
    ·
     rename_i k e hk
     obtain ⟨_, h4, h5⟩ := chAt_pt hk
     exact ih m e _ (by omega) (by omega) h5
    · rfl
 intro n p acc h1 h2
 exact key _ _ _ _ h1 (Nat.le_refl _) h2
theorem str_end {s : ByteArray} {p : Nat} {acc : List Int} (hp : p ≤ s.size) (h : bt s p = 34) : str s p acc = .pts acc (p + 1) := by
 unfold str
 obtain ⟨n, hn⟩ : ∃ n, s.size + 1 - p = n + 1 := ⟨s.size - p, by omega⟩
 rw [hn]; simp [strF, h]
theorem str_pt {s : ByteArray} {p : Nat} {acc : List Int} {m : Int} {e : Nat} (hp : p ≤ s.size) (h : bt s p ≠ 34) (hc : chAt s p = .pt m e) : str s p acc = str s e (acc ++ [m]) := by
 obtain ⟨_, h4, h5⟩ := chAt_pt hc
 have e1 : str s p acc = strF s (s.size + 1 - p) p acc := rfl
 obtain ⟨n, hn⟩ : ∃ n, s.size + 1 - p = n + 1 := ⟨s.size - p, by omega⟩
 rw [e1, hn]
 unfold strF
 rw [if_neg h, hc]
 exact strF_more s n e _ (by omega) h5
theorem str_bad {s : ByteArray} {p : Nat} {acc : List Int} {q : Nat} {c : Int} (hp : p ≤ s.size) (h : bt s p ≠ 34) (hc : chAt s p = .bad q c) : str s p acc = .bad q c := by
 unfold str
 obtain ⟨n, hn⟩ : ∃ n, s.size + 1 - p = n + 1 := ⟨s.size - p, by omega⟩
 rw [hn]; simp [strF, h, hc]
def textOf (l : List Int) : ByteArray := ⟨(flat l).toArray⟩
def strAns (s : ByteArray) (a : Nat) : Ans :=
 match str s (a + 1) [] with
 | .pts l e => .tok ⟨2, textOf l, 0, a, e⟩
 | .bad q c => .err q c
def ansAt (s : ByteArray) (a : Nat) : Ans :=
 if s.size ≤ a then .tok ⟨0, nix, 0, a, a⟩
 else if isMark (bt s a) = true then .tok ⟨1, one (bt s a), 0, a, a + 1⟩
 else if bt s a = 34 then strAns s a
 else if bt s a = 45 ∨ isDg (bt s a) = true then numAns s a
 else if bt s a = 116 ∨ bt s a = 102 ∨ bt s a = 110 then wordAns s a
 else .err a 1
def next (s : ByteArray) (i : Nat) : Ans := ansAt s (span isBl s i)
end Go.Proofs.YtgblenoaeanogaaGreatDoor.Tk
namespace Go.Proofs.YtgblenoaeanogaaGreatDoor.Tk
open Pl
theorem sub_list (s : ByteArray) (a b : Nat) : (sub s a b).data.toList = (s.data.toList.drop a).take (b - a) := by
 unfold sub
 rw [ByteArray.data_extract, Array.toList_extract, List.extract_eq_take_drop]
theorem drop_cons {s : ByteArray} {i : Nat} (h : i < s.size) : s.data.toList.drop i = s[i] :: s.data.toList.drop (i + 1) := by
 have h2 : i < s.data.toList.length := h
 rw [List.drop_eq_getElem_cons h2]; rfl
theorem isDig_bt {s : ByteArray} {i : Nat} (h : i < s.size) : De.isDig s[i] = isDg (bt s i) := by
 rw [Bool.eq_iff_iff, De.dig_iff, isDg_iff, bt_at s i h]
theorem bt_eq {s : ByteArray} {i : Nat} (h : i < s.size) {c : Nat} (hc : c < 256) : bt s i = c ↔ s[i] = UInt8.ofNat c := by
 rw [← bt_at s i h]
 constructor
 · intro e; apply UInt8.toNat_inj.1; rw [e, UInt8.toNat_ofNat']; omega
 · intro e; rw [e, UInt8.toNat_ofNat']; omega
theorem digs_all {s : ByteArray} : ∀ (n i : Nat), i + n ≤ s.size → (∀ k, i ≤ k → k < i + n → isDg (bt s k) = true) → ((s.data.toList.drop i).take n).all De.isDig = true := by
 intro n
 induction n with
 | zero => intro i _ _; simp
 | succ n ih =>
  intro i h hd
  have hi : i < s.size := by omega
  rw [drop_cons hi, List.take_succ_cons, List.all_cons, isDig_bt hi, hd i (Nat.le_refl _) (by omega), ih (i + 1) (by omega) (fun k h1 h2 => hd k (by omega) (by omega))]
  rfl
theorem num_form {s : ByteArray} {a : Nat} (h : intB s a = true) : De.form (sub s a (intE s a)).data.toList = true ∧ intE s a ≤ s.size ∧ a < intE s a := by
 have hf : signE s a < s.size := lt_of_bt (fun e => by unfold intB at h; rw [e] at h; cases h)
 have hfa : signE s a = a ∨ signE s a = a + 1 ∧ bt s a = 45 := by
  unfold signE; split
  · rename_i h1; exact .inr ⟨rfl, h1⟩
  · exact .inl rfl
 have hsl : bt s a = 45 → signE s a = a + 1 := fun e => by unfold signE; rw [if_pos e]
 unfold intB at h
 generalize hq : signE s a = f at *
 have hb : f < intE s a ∧ intE s a ≤ s.size ∧ (∀ k, f ≤ k → k < intE s a → isDg (bt s k) = true) ∧ (bt s f = 48 → intE s a = f + 1) := by
  unfold intE
  rw [hq]
  split
  ·
   rename_i h1
   exact ⟨by omega, by omega, fun k h2 h3 => by
    obtain rfl : f = k := by omega
    exact h, fun _ => rfl⟩
  ·
   rename_i h1
   exact ⟨span_pos hf h, span_le _ (Nat.le_of_lt hf), fun k h2 h3 => span_in h2 h3, fun e => absurd e h1⟩
 generalize intE s a = e at *
 obtain ⟨h1, h2, h3, h4⟩ := hb
 refine ⟨?_, h2, by omega⟩
 have hD : De.formD ((s.data.toList.drop f).take (e - f)) = true := by
  unfold De.formD
  obtain ⟨n, hn⟩ : ∃ n, e - f = n + 1 := ⟨e - f - 1, by omega⟩
  rw [hn, digs_all (n + 1) f (by omega) (fun k h5 h6 => h3 k h5 (by omega)), drop_cons hf, List.take_succ_cons]
  simp only [List.isEmpty_cons, Bool.not_false, Bool.true_and, List.head?_cons, Bool.or_eq_true, decide_eq_true_eq, Bool.not_eq_true']
  by_cases h5 : bt s f = 48
  ·
   left
   have := h4 h5
   obtain rfl : n = 0 := by omega
   simp
  ·
   right
   rw [beq_eq_false_iff_ne]
   intro h6
   injection h6 with h6
   exact h5 ((bt_eq hf (by decide)).2 h6)
 unfold De.form
 have : De.digs (sub s a e).data.toList = (s.data.toList.drop f).take (e - f) := by
  unfold De.digs
  rw [sub_list]
  rcases hfa with rfl | ⟨rfl, h45⟩
  ·
   have hne : bt s f ≠ 45 := fun h45 => by have := hsl h45; omega
   rw [if_neg]
   obtain ⟨n, hn⟩ : ∃ n, e - f = n + 1 := ⟨e - f - 1, by omega⟩
   rw [hn, drop_cons hf, List.take_succ_cons, List.head?_cons]
   intro h6
   injection h6 with h6
   exact hne ((bt_eq hf (by decide)).2 h6)
  ·
   have ha : a < s.size := by omega
   obtain ⟨n, hn⟩ : ∃ n, e - a = n + 1 := ⟨e - a - 1, by omega⟩
   rw [hn, drop_cons ha, List.take_succ_cons, List.head?_cons, if_pos (by rw [(bt_eq ha (by decide)).1 h45]; rfl), List.tail_cons, show e - (a + 1) = n by omega]
 rw [this]
 exact hD
theorem dgs_pos (s : ByteArray) (i : Nat) : decide (i < span isDg s i) = isDg (bt s i) := by
 rw [Bool.eq_iff_iff, decide_eq_true_iff]
 constructor
 · intro h; exact span_in (Nat.le_refl _) h
 · intro h; exact span_pos (lt_of_bt fun e => by rw [e] at h; cases h) h
end Go.Proofs.YtgblenoaeanogaaGreatDoor.Tk
namespace Go.Proofs.YtgblenoaeanogaaGreatDoor.Tk
open Pl
theorem strF_pts {s : ByteArray} : ∀ n p acc l e, p ≤ s.size → strF s n p acc = .pts l e → p < e ∧ e ≤ s.size ∧ ((∀ x ∈ acc, pt x = true) → ∀ x ∈ l, pt x = true) := by
 intro n
 induction n with
 | zero => intro p acc l e _ h; unfold strF at h; cases h
 | succ n ih =>
  intro p acc l e hp h
  unfold strF at h
  split at h
  ·
   rename_i h34
   injection h with h1 h2
   subst h1 h2
   have := lt_of_bt (s := s) (i := p) (by omega)
   exact ⟨by omega, by omega, fun h => h⟩
  ·
   split at h
   ·
    rename_i m e' hc
    obtain ⟨h1, h2, h3⟩ := chAt_pt hc
    obtain ⟨a, b, c⟩ := ih _ _ _ _ h3 h
    refine ⟨by omega, b, fun hq => c fun x hx => ?_⟩
    rcases List.mem_append.1 hx with hx | hx
    · exact hq x hx
    · obtain rfl := List.mem_singleton.1 hx; exact h1
   · cases h
theorem ansAt_tok {s : ByteArray} {a : Nat} {t : Tok} (ha : a ≤ s.size) (h : ansAt s a = .tok t) : t.at_ = a ∧ a ≤ t.fin ∧ t.fin ≤ s.size ∧ (t.kind = 0 → a = s.size ∧ t.fin = s.size ∧ t.text = nix ∧ t.num = 0) ∧ (t.kind ≠ 0 → a < t.fin) := by
 unfold ansAt at h
 split at h
 ·
  injection h with h; subst h
  exact ⟨rfl, Nat.le_refl _, ha, fun _ => ⟨by omega, by show a = s.size; omega, rfl, rfl⟩, fun h => absurd rfl h⟩
 ·
  rename_i hl
  split at h
  ·
   injection h with h; subst h
   exact ⟨rfl, Nat.le_succ _, by show a + 1 ≤ s.size; omega, (fun h => absurd (show (1 : Int) = 0 from h) (by decide)), fun _ => Nat.lt_succ_self a⟩
  ·
   split at h
   ·
    unfold strAns at h
    split at h
    ·
     rename_i l e hs
     injection h with h; subst h
     obtain ⟨h1, h2, _⟩ := strF_pts _ _ _ _ _ (by omega) hs
     exact ⟨rfl, by show a ≤ e; omega, h2, (fun h => absurd (show (2 : Int) = 0 from h) (by decide)), fun _ => by show a < e; omega⟩
    · cases h
   ·
    split at h
    ·
     unfold numAns at h
     split at h
     · cases h
     ·
      rename_i hb
      obtain ⟨_, h2, h3⟩ := num_form (s := s) (a := a) (by simpa using hb)
      split at h
      · cases h
      ·
       split at h
       · cases h
       ·
        split at h
        · cases h
        ·
         split at h
         ·
          injection h with h; subst h
          exact ⟨rfl, Nat.le_of_lt h3, h2, (fun h => absurd (show (3 : Int) = 0 from h) (by decide)), fun _ => h3⟩
         · cases h
    ·
     split at h
     ·
      rename_i hw
      unfold wordAns at h
      split at h
      ·
       rename_i he
       injection h with h; subst h
       have h5 : a + (wordOf (bt s a)).length ≤ s.size := by
        rw [← he]
        refine wordE_size _ _ ?_ ha
        intro c hc
        rcases hw with hw | hw | hw <;> rw [hw] at hc <;> simp [wordOf] at hc <;> omega
       have h6 : 0 < (wordOf (bt s a)).length := by rcases hw with hw | hw | hw <;> rw [hw] <;> decide
       refine ⟨rfl, Nat.le_add_right _ _, h5, (fun h => ?_), (fun _ => by show a < a + _; omega)⟩
       have : kindOf (bt s a) = 0 := h
       rcases hw with hw | hw | hw <;> rw [hw] at this <;> cases this
      · cases h
     · cases h
theorem next_tok {s : ByteArray} {i : Nat} {t : Tok} (hi : i ≤ s.size) (h : next s i = .tok t) : t.at_ = span isBl s i ∧ i ≤ t.at_ ∧ t.at_ ≤ t.fin ∧ t.fin ≤ s.size ∧ (t.kind = 0 → t.at_ = s.size ∧ t.fin = s.size ∧ t.text = nix ∧ t.num = 0) ∧ (t.kind ≠ 0 → i < t.fin) := by
 have h1 := span_le isBl hi
 have h2 := span_ge isBl s i
 obtain ⟨a, b, c, d, e⟩ := ansAt_tok h1 h
 refine ⟨a, by omega, by omega, c, fun hk => ⟨by have := (d hk).1; omega, (d hk).2⟩, fun hk => by have := e hk; omega⟩
inductive Al where
 | toks (l : List Tok)
 | bad (p : Nat) (c : Int)
def allF (s : ByteArray) : Nat → Nat → List Tok → Al
 | 0, _, _ => .bad 0 1
 | n + 1, i, acc => match next s i with
  | .tok t => if t.kind = 0 then .toks (acc ++ [t]) else allF s n t.fin (acc ++ [t])
  | .err p c => .bad p c
def all (s : ByteArray) (i : Nat) (acc : List Tok) : Al := allF s (s.size + 1 - i) i acc
end Go.Proofs.YtgblenoaeanogaaGreatDoor.Tk
namespace Go.Proofs.YtgblenoaeanogaaGreatDoor
inductive T where
 | mk (kind : Int) (tr : Bool) (num : Int) (str : ByteArray) (items : List T) (keys : List ByteArray)
namespace T
def kind : T → Int | .mk k _ _ _ _ _ => k
def tr : T → Bool | .mk _ b _ _ _ _ => b
def num : T → Int | .mk _ _ n _ _ _ => n
def str : T → ByteArray | .mk _ _ _ s _ _ => s
def items : T → List T | .mk _ _ _ _ l _ => l
def keys : T → List ByteArray | .mk _ _ _ _ _ l => l
theorem ext {a b : T} (h1 : a.kind = b.kind) (h2 : a.tr = b.tr) (h3 : a.num = b.num) (h4 : a.str = b.str) (h5 : a.items = b.items) (h6 : a.keys = b.keys) : a = b := by
 cases a; cases b; simp only [kind, tr, num, str, items, keys] at *; subst h1 h2 h3 h4 h5 h6; rfl
mutual
def size : T → Nat
 | .mk _ _ _ _ l _ => 1 + sizes l
def sizes : List T → Nat
 | [] => 0
 | x :: r => x.size + sizes r
end
theorem size_eq (t : T) : t.size = 1 + sizes t.items := by cases t; rfl
theorem size_pos (t : T) : 1 ≤ t.size := by rw [size_eq]; omega
theorem sizes_append (a b : List T) : sizes (a ++ b) = sizes a + sizes b := by
 induction a with
 | nil => simp [sizes]
 | cons x r ih => simp only [List.cons_append, sizes, ih]; omega
theorem take_snoc {α : Type} {l : List α} {k : Nat} {x : α} (h : l[k]? = some x) : l.take (k + 1) = l.take k ++ [x] := by
 rw [List.take_add_one, h]; rfl
theorem sizes_snoc {l : List T} {k : Nat} {x : T} (h : l[k]? = some x) : sizes (l.take (k + 1)) = sizes (l.take k) + x.size := by
 rw [take_snoc h, sizes_append]; simp [sizes]
theorem sizes_take (l : List T) (k : Nat) : sizes (l.take k) ≤ sizes l := by
 have := sizes_append (l.take k) (l.drop k)
 rw [List.take_append_drop] at this; omega
theorem mem_size {l : List T} {x : T} (h : x ∈ l) : x.size ≤ sizes l := by
 induction l with
 | nil => cases h
 | cons y r ih =>
  rcases List.mem_cons.1 h with rfl | h
  · simp only [sizes]; omega
  · have := ih h; simp only [sizes]; omega
theorem len_sizes (l : List T) : l.length ≤ sizes l := by
 induction l with
 | nil => simp [sizes]
 | cons x r ih => have := x.size_pos; simp only [sizes, List.length_cons]; omega
theorem len_size (t : T) : t.items.length < t.size := by have := len_sizes t.items; rw [size_eq]; omega
theorem ind {P : T → Prop} (h : ∀ t : T, (∀ x ∈ t.items, P x) → P t) : ∀ t, P t := by
 have : ∀ n (t : T), t.size ≤ n → P t := by
  intro n
  induction n with
  | zero => intro t ht; have := t.size_pos; omega
  | succ n ih => exact fun t ht => h t fun x hx => ih x (by have := mem_size hx; rw [size_eq] at ht; omega)
 exact fun t => this _ t (Nat.le_refl _)
mutual
def depth : T → Nat
 | .mk k _ _ _ l _ => if k = 4 ∨ k = 5 then 1 + depths l else 0
def depths : List T → Nat
 | [] => 0
 | x :: r => max x.depth (depths r)
end
theorem depth_eq (t : T) : t.depth = if t.kind = 4 ∨ t.kind = 5 then 1 + depths t.items else 0 := by cases t; rfl
inductive All (P : T → Prop) : T → Prop
 | mk (t : T) (h : P t) (hs : ∀ x ∈ t.items, All P x) : All P t
theorem All.here {P : T → Prop} {t : T} (h : All P t) : P t := by cases h; assumption
theorem All.mem {P : T → Prop} {t x : T} (h : All P t) (hx : x ∈ t.items) : All P x := by cases h with | mk _ _ hs => exact hs x hx
theorem All.at_ {P : T → Prop} {t x : T} (h : All P t) {k : Nat} (hx : t.items[k]? = some x) : All P x := h.mem (List.mem_of_getElem? hx)
theorem All.imp {P Q : T → Prop} {t : T} (h : All P t) (hi : ∀ t, P t → Q t) : All Q t := by
 induction h with
 | mk t h _ ih => exact .mk t (hi t h) ih
def Small : T → Prop := All fun t => t.keys.length ≤ 100000
end T
end Go.Proofs.YtgblenoaeanogaaGreatDoor
namespace Go.Proofs.YtgblenoaeanogaaGreatDoor.Rd
open Tk
inductive Res where
 | val (v : T) (fin : Nat)
 | err (p : Nat) (c : Int)
 | out
def isM (t : Tok) (c : Nat) : Prop := t.kind = 1 ∧ t.text = one c
instance (t : Tok) (c : Nat) : Decidable (isM t c) := by unfold isM; exact inferInstance
def nulT : T := .mk 0 false 0 nix [] []
def truT (b : Bool) : T := .mk 1 b 0 nix [] []
def numT (n : Int) : T := .mk 2 false n nix [] []
def strT (s : ByteArray) : T := .mk 3 false 0 s [] []
def arrT (l : List T) : T := .mk 4 false 0 nix l []
def hasK (m : List (ByteArray × T)) (k : ByteArray) : Bool := m.any fun x => decide (x.1 = k)
mutual
def fromF (O : List (ByteArray × T) → T) (s : ByteArray) : Nat → Nat → Tok → Res
 | 0, _, _ => .out
 | n + 1, room, t =>
  if t.kind = 6 then .val nulT t.fin
  else if t.kind = 4 ∨ t.kind = 5 then .val (truT (t.kind == 4)) t.fin
  else if t.kind = 3 then .val (numT t.num) t.fin
  else if t.kind = 2 then .val (strT t.text) t.fin
  else if ¬ isM t 91 ∧ ¬ isM t 123 then .err t.at_ 1
  else if room = 0 then .err t.at_ 6
  else match next s t.fin with
   | .err p c => .err p c
   | .tok u =>
    if isM t 91 then (if isM u 93 then .val (arrT []) u.fin else itemsF O s n (room - 1) u [])
    else (if isM u 125 then .val (O []) u.fin else membsF O s n (room - 1) u [])
def itemsF (O : List (ByteArray × T) → T) (s : ByteArray) : Nat → Nat → Tok → List T → Res
 | 0, _, _, _ => .out
 | n + 1, room, t, acc => match fromF O s n room t with
  | .out => .out
  | .err p c => .err p c
  | .val v e => match next s e with
   | .err p c => .err p c
   | .tok u =>
    if isM u 93 then .val (arrT (acc ++ [v])) u.fin
    else if ¬ isM u 44 then .err u.at_ 1
    else match next s u.fin with
     | .err p c => .err p c
     | .tok x => itemsF O s n room x (acc ++ [v])
def membsF (
 O : List (ByteArray × T) → T) (s : ByteArray) : Nat → Nat → Tok → List (ByteArray × T) → Res
 | 0, _, _, _ => .out
 | n + 1, room, t, acc =>
  if t.kind ≠ 2 then .err t.at_ 1
  else if hasK acc t.text = true then .err t.at_ 5
  else match next s t.fin with
   | .err p c => .err p c
   | .tok u =>
    if ¬ isM u 58 then .err u.at_ 1
    else match next s u.fin with
     | .err p c => .err p c
     | .tok x => match fromF O s n room x with
      | .out => .out
      | .err p c => .err p c
      | .val v e => match next s e with
       | .err p c => .err p c
       | .tok y =>
        if isM y 125 then .val (O (acc ++ [(t.text, v)])) y.fin
        else if ¬ isM y 44 then .err y.at_ 1
        else match next s y.fin with
         | .err p c => .err p c
         | .tok z => membsF O s n room z (acc ++ [(t.text, v)])
end
def Ok (s : ByteArray) (t : Tok) : Prop := t.at_ ≤ t.fin ∧ t.fin ≤ s.size ∧ (t.kind ≠ 0 → t.at_ < t.fin)
theorem ok_next {s : ByteArray} {i : Nat} {t : Tok} (hi : i ≤ s.size) (h : next s i = .tok t) : Ok s t ∧ i ≤ t.at_ := by
 obtain ⟨h1, h2, h3, h4, _, _⟩ := next_tok hi h
 have h' : ansAt s (span isBl s i) = .tok t := h
 obtain ⟨a, _, _, _, e⟩ := ansAt_tok (span_le isBl hi) h'
 exact ⟨⟨h3, h4, fun hk => by have := e hk; omega⟩, h2⟩
def Fine (s : ByteArray) (t : Tok) (r : Res) : Prop := r ≠ .out ∧ ∀ v e, r = .val v e → t.at_ < e ∧ e ≤ s.size
theorem fine_err (s : ByteArray) (t : Tok) (p : Nat) (c : Int) : Fine s t (.err p c) := ⟨(by intro h; cases h), fun v e h => by cases h⟩
theorem fine_val {s : ByteArray} {t : Tok} {v : T} {e : Nat} (h1 : t.at_ < e) (h2 : e ≤ s.size) : Fine s t (.val v e) := ⟨(by intro h; cases h), fun v' e' h => by injection h with _ h; subst h; exact ⟨h1, h2⟩⟩
theorem Fine.later {s : ByteArray} {t u : Tok} {r : Res} (h : Fine s u r) (hu : t.at_ ≤ u.at_) : Fine s t r := ⟨h.1, fun v e he => by have := h.2 v e he; omega⟩
theorem mark_ne {t : Tok} {c : Nat} (h : isM t c) : t.kind ≠ 0 := by rw [h.1]; decide
theorem enough (
 O : List (ByteArray × T) → T) (s : ByteArray) : ∀ n, (∀ room t, Ok s t → 2 * (s.size - t.at_) + 1 ≤ n → Fine s t (fromF O s n room t)) ∧ (∀ room t acc, Ok s t → 2 * (s.size - t.at_) + 2 ≤ n → Fine s t (itemsF O s n room t acc)) ∧ (∀ room t acc, Ok s t → 2 * (s.size - t.at_) + 2 ≤ n → Fine s t (membsF O s n room t acc)) := by
 intro n
 induction n with
 | zero => exact ⟨fun _ _ _ h => by omega, fun _ _ _ _ h => by omega, fun _ _ _ _ h => by omega⟩
 | succ n ih =>
  obtain ⟨ih1, ih2, ih3⟩ := ih
  refine ⟨fun room t ht hn => ?_, fun room t acc ht hn => ?_, fun room t acc ht hn => ?_⟩
  ·
   obtain ⟨h1, h2, h3⟩ := ht
   unfold fromF
   split
   · rename_i hk; have := h3 (by rw [hk]; decide); exact fine_val this h2
   ·
    split
    · rename_i hk; have := h3 (by rcases hk with hk | hk <;> rw [hk] <;> decide); exact fine_val this h2
    ·
     split
     · rename_i hk; have := h3 (by rw [hk]; decide); exact fine_val this h2
     ·
      split
      · rename_i hk; have := h3 (by rw [hk]; decide); exact fine_val this h2
      ·
       split
       · exact fine_err _ _ _ _
       ·
        rename_i hm
        have hk : t.kind ≠ 0 := by
         by_cases h91 : isM t 91
         · exact mark_ne h91
         ·
          by_cases h123 : isM t 123
          · exact mark_ne h123
          · exact absurd ⟨h91, h123⟩ hm
        have h4 := h3 hk
        split
        · exact fine_err _ _ _ _
        ·
         split
         · exact fine_err _ _ _ _
         ·
          rename_i u hu
          obtain ⟨ho, hle⟩ := ok_next h2 hu
          have ho' := ho
          obtain ⟨h5, h6, h7⟩ := ho'
          split
          ·
           split
           · exact fine_val (by omega) h6
           · exact (ih2 _ u _ ho (by omega)).later (by omega)
          ·
           split
           · exact fine_val (by omega) h6
           · exact (ih3 _ u _ ho (by omega)).later (by omega)
  ·
   unfold itemsF
   have hf := ih1 room t ht (by omega)
   split
   · rename_i ho; exact absurd ho hf.1
   · exact fine_err _ _ _ _
   ·
    rename_i v e he
    obtain ⟨h1, h2⟩ := hf.2 v e he
    split
    · exact fine_err _ _ _ _
    ·
     rename_i u hu
     obtain ⟨⟨h5, h6, h7⟩, hle⟩ := ok_next h2 hu
     split
     · exact fine_val (by omega) h6
     ·
      split
      · exact fine_err _ _ _ _
      ·
       split
       · exact fine_err _ _ _ _
       ·
        rename_i x hx
        obtain ⟨ho, hle2⟩ := ok_next h6 hx
        exact (ih2 _ x _ ho (by obtain ⟨_, _, _⟩ := ho; omega)).later (by omega)
  ·
   unfold membsF
   obtain ⟨h1, h2, h3⟩ := ht
   split
   · exact fine_err _ _ _ _
   ·
    rename_i hk
    have h4 := h3 (by intro h0; exact hk (by rw [h0]; decide))
    split
    · exact fine_err _ _ _ _
    ·
     split
     · exact fine_err _ _ _ _
     ·
      rename_i u hu
      obtain ⟨⟨h5, h6, h7⟩, hle⟩ := ok_next h2 hu
      split
      · exact fine_err _ _ _ _
      ·
       split
       · exact fine_err _ _ _ _
       ·
        rename_i x hx
        obtain ⟨hox, hlex⟩ := ok_next h6 hx
        have hf := ih1 room x hox (by have := hox.1; have := hox.2.1; omega)
        split
        · rename_i ho; exact absurd ho hf.1
        · exact fine_err _ _ _ _
        ·
         rename_i v e he
         obtain ⟨h8, h9⟩ := hf.2 v e he
         split
         · exact fine_err _ _ _ _
         ·
          rename_i y hy
          obtain ⟨⟨h10, h11, h12⟩, hley⟩ := ok_next h9 hy
          split
          · exact fine_val (by omega) h11
          ·
           split
           · exact fine_err _ _ _ _
           ·
            split
            · exact fine_err _ _ _ _
            ·
             rename_i z hz
             obtain ⟨ho, hle2⟩ := ok_next h11 hz
             exact (ih3 _ z _ ho (by obtain ⟨_, _, _⟩ := ho; omega)).later (by omega)
def many (s : ByteArray) : Nat := 2 * s.size + 2
def whole (O : List (ByteArray × T) → T) (s : ByteArray) (room : Nat) : Res := match next s 0 with
 | .err p c => .err p c
 | .tok t => match fromF O s (many s) room t with
  | .out => .out
  | .err p c => .err p c
  | .val v e => match next s e with
   | .err p c => .err p c
   | .tok u => if u.kind = 0 then .val v 0 else .err u.at_ 1
theorem whole_out (O : List (ByteArray × T) → T) (s : ByteArray) (room : Nat) : whole O s room ≠ .out := by
 unfold whole
 split
 · intro h; cases h
 ·
  rename_i t ht
  obtain ⟨ho, _⟩ := ok_next (Nat.zero_le _) ht
  have := (enough O s (many s)).1 room t ho (by unfold many; omega)
  split
  · rename_i h; exact absurd h this.1
  · intro h; cases h
  ·
   split
   · intro h; cases h
   ·
    split
    · intro h; cases h
    · intro h; cases h
end Go.Proofs.YtgblenoaeanogaaGreatDoor.Rd
namespace Go.Proofs.YtgblenoaeanogaaGreatDoor.Rd
open Tk
structure Say where
 kind : Int
 text : ByteArray
 num : Int
def sayM (c : Nat) : Say := ⟨1, one c, 0⟩
def says (t : Tok) (k : Say) : Prop := t.kind = k.kind ∧ t.text = k.text ∧ t.num = k.num
def Spells (s : ByteArray) : Nat → List Say → Nat → Prop
 | p, [], e => p = e
 | p, k :: l, e => ∃ u, next s p = .tok u ∧ says u k ∧ Spells s u.fin l e
theorem spells_append {s : ByteArray} : ∀ {a b : List Say} {p e : Nat}, Spells s p (a ++ b) e → ∃ m, Spells s p a m ∧ Spells s m b e
 | [], b, p, e, h => ⟨p, rfl, h⟩
 | k :: a, b, p, e, h => by
  obtain ⟨u, h1, h2, h3⟩ := h
  obtain ⟨m, h4, h5⟩ := spells_append (a := a) h3
  exact ⟨m, ⟨u, h1, h2, h4⟩, h5⟩
theorem Spells.app {s : ByteArray} : ∀ {a b : List Say} {p m e : Nat}, Spells s p a m → Spells s m b e → Spells s p (a ++ b) e
 | [], b, p, m, e, h, k => by obtain rfl : p = m := h; exact k
 | x :: a, b, p, m, e, h, k => by
  obtain ⟨u, h1, h2, h3⟩ := h
  exact ⟨u, h1, h2, h3.app k⟩
theorem Spells.tok {s : ByteArray} {p : Nat} {u : Tok} {k : Say} {l : List Say} {e : Nat} (h : Spells s p (k :: l) e) (hu : next s p = .tok u) : says u k ∧ Spells s u.fin l e := by
 obtain ⟨v, h1, h2, h3⟩ := h
 rw [hu] at h1
 injection h1 with h1
 subst h1
 exact ⟨h2, h3⟩
theorem Spells.le {s : ByteArray} : ∀ {l : List Say} {p e : Nat}, Spells s p l e → p ≤ s.size → e ≤ s.size
 | [], p, e, h, hp => by obtain rfl : p = e := h; exact hp
 | k :: l, p, e, h, hp => by
  obtain ⟨u, h1, _, h3⟩ := h
  obtain ⟨⟨_, h4, _⟩, _⟩ := ok_next hp h1
  exact h3.le h4
mutual
def said : T → List Say
 | .mk k tr n s l ks => if k = 1 then [⟨if tr then 4 else 5, nix, 0⟩] else if k = 2 then [⟨3, nix, n⟩] else if k = 3 then [⟨2, s, 0⟩] else if k = 4 then sayM 91 :: headA l else if k = 5 then sayM 123 :: headO ks l else [⟨6, nix, 0⟩]
def headA : List T → List Say
 | [] => [sayM 93]
 | x :: r => said x ++ tailA r
def tailA : List T → List Say
 | [] => [sayM 93]
 | x :: r => sayM 44 :: (said x ++ tailA r)
def headO : List ByteArray → List T → List Say
 | _, [] => [sayM 125]
 | [], _ => [sayM 125]
 | q :: ks, x :: r => ⟨2, q, 0⟩ :: sayM 58 :: (said x ++ tailO ks r)
def tailO : List ByteArray → List T → List Say
 | _, [] => [sayM 125]
 | [], _ => [sayM 125]
 | q :: ks, x :: r => sayM 44 :: ⟨2, q, 0⟩ :: sayM 58 :: (said x ++ tailO ks r)
end
mutual
def norm (O : List (ByteArray × T) → T) : T → T
 | .mk k tr n s l ks => if k = 1 then truT tr else if k = 2 then numT n else if k = 3 then strT s else if k = 4 then arrT (norms O l) else if k = 5 then O (ks.zip (norms O l)) else nulT
def norms (O : List (ByteArray × T) → T) : List T → List T
 | [] => []
 | x :: r => norm O x :: norms O r
end
theorem said_eq (t : T) : said t = if t.kind = 1 then [⟨if t.tr then 4 else 5, nix, 0⟩] else if t.kind = 2 then [⟨3, nix, t.num⟩] else if t.kind = 3 then [⟨2, t.str, 0⟩] else if t.kind = 4 then sayM 91 :: headA t.items else if t.kind = 5 then sayM 123 :: headO t.keys t.items else [⟨6, nix, 0⟩] := by cases t; rfl
theorem norm_eq (O : List (ByteArray × T) → T) (t : T) : norm O t = if t.kind = 1 then truT t.tr else if t.kind = 2 then numT t.num else if t.kind = 3 then strT t.str else if t.kind = 4 then arrT (norms O t.items) else if t.kind = 5 then O (t.keys.zip (norms O t.items)) else nulT := by cases t; rfl
def Shape (t : T) : Prop := t.kind = 5 → t.keys.length = t.items.length ∧ t.keys.Nodup
def Got (s : ByteArray) (d room : Nat) (r : Res) (v : T) (e : Nat) : Prop := (d ≤ room → r = .val v e) ∧ (room < d → ∃ p, r = .err p 6 ∧ p < s.size ∧ (bt s p = 91 ∨ bt s p = 123))
theorem got_leaf {s : ByteArray} {room : Nat} {r : Res} {v : T} {e : Nat} (h : r = .val v e) : Got s 0 room r v e := ⟨fun _ => h, fun h => absurd h (Nat.not_lt_zero _)⟩
theorem one_ne {a b : Nat} (h : a.toUInt8 ≠ b.toUInt8) : one a ≠ one b := fun e => by
 unfold one at e
 injection e with e
 injection e with e
 injection e with e
 exact h e
theorem says_is {u : Tok} {c : Nat} (h : says u (sayM c)) : isM u c := ⟨h.1, h.2.1⟩
theorem says_not {u : Tok} {a : Nat} (b : Nat) (h : says u (sayM a)) (hab : a.toUInt8 ≠ b.toUInt8) : ¬ isM u b := fun k => one_ne hab (h.2.1.symm.trans k.2)
theorem kind_not {u : Tok} {k : Say} (c : Nat) (h : says u k) (hk : k.kind ≠ 1) : ¬ isM u c := fun m => hk (h.1 ▸ m.1)
theorem first_not (t : T) {s : ByteArray} {p : Nat} {u : Tok} {l : List Say} {e : Nat} (hu : next s p = .tok u) (h : Spells s p (said t ++ l) e) : ¬ isM u 93 ∧ ¬ isM u 125 := by
 rw [said_eq] at h
 split at h
 ·
  have := (h.tok hu).1
  exact ⟨kind_not _ this (by show (if t.tr then (4 : Int) else 5) ≠ 1; split <;> decide), kind_not _ this (by show (if t.tr then (4 : Int) else 5) ≠ 1; split <;> decide)⟩
 split at h
 · have := (h.tok hu).1; exact ⟨kind_not _ this (show (3 : Int) ≠ 1 by decide), kind_not _ this (show (3 : Int) ≠ 1 by decide)⟩
 split at h
 · have := (h.tok hu).1; exact ⟨kind_not _ this (show (2 : Int) ≠ 1 by decide), kind_not _ this (show (2 : Int) ≠ 1 by decide)⟩
 split at h
 · have := (h.tok hu).1; exact ⟨says_not _ this (by decide), says_not _ this (by decide)⟩
 split at h
 · have := (h.tok hu).1; exact ⟨says_not _ this (by decide), says_not _ this (by decide)⟩
 · have := (h.tok hu).1; exact ⟨kind_not _ this (by decide), kind_not _ this (by decide)⟩
theorem mark_bt {s : ByteArray} {i : Nat} {u : Tok} {c : Nat} (hc : c < 256) (hi : i ≤ s.size) (h : next s i = .tok u) (hm : isM u c) : bt s u.at_ = c := by
 have h' : ansAt s (span isBl s i) = .tok u := h
 generalize span isBl s i = a at h'
 have hk := hm.1
 unfold ansAt at h'
 split at h'
 · injection h' with h'; subst h'; exact absurd hk (show ¬ (0 : Int) = 1 by decide)
 split at h'
 ·
  injection h' with h'; subst h'
  have h2 : one (bt s a) = one c := hm.2
  have h3 : (bt s a).toUInt8 = c.toUInt8 := by
   by_cases hh : (bt s a).toUInt8 = c.toUInt8
   · exact hh
   · exact absurd h2 (one_ne hh)
  have h4 := congrArg UInt8.toNat h3
  have h5 := bt_lt s a
  simp only [Nat.toUInt8_eq, UInt8.toNat_ofNat'] at h4
  show bt s a = c
  omega
 split at h'
 ·
  unfold strAns at h'
  split at h'
  · injection h' with h'; subst h'; exact absurd hk (show ¬ (2 : Int) = 1 by decide)
  · cases h'
 split at h'
 ·
  unfold numAns at h'
  repeat' split at h'
  all_goals first
   | (injection h' with h'; subst h'; exact absurd hk (show ¬ (3 : Int) = 1 by decide))
   | cases h'
 split at h'
 ·
  unfold wordAns at h'
  split at h'
  ·
   injection h' with h'; subst h'
   have hk2 : kindOf (bt s a) = 1 := hk
   unfold kindOf at hk2
   split at hk2
   · omega
   split at hk2 <;> omega
  · cases h'
 · cases h'
theorem hasK_no {acc : List (ByteArray × T)} {k : ByteArray} (h : k ∉ acc.map Prod.fst) : hasK acc k = false := by
 unfold hasK
 rw [Bool.eq_false_iff]
 intro hh
 obtain ⟨x, hx, he⟩ := List.any_eq_true.1 hh
 exact h (List.mem_map.2 ⟨x, hx, by simpa using he⟩)
theorem said_first (y : T) {s : ByteArray} {p : Nat} {l : List Say} {e : Nat} (a4 : Spells s p (said y ++ l) e) : ∃ w, next s p = .tok w ∧ w.kind ≠ 0 := by
 rw [said_eq] at a4
 split at a4
 · obtain ⟨w, c1, c2, _⟩ := a4; exact ⟨w, c1, by rw [c2.1]; show (if y.tr then (4 : Int) else 5) ≠ 0; split <;> decide⟩
 split at a4
 · obtain ⟨w, c1, c2, _⟩ := a4; exact ⟨w, c1, by rw [c2.1]; show (3 : Int) ≠ 0; decide⟩
 split at a4
 · obtain ⟨w, c1, c2, _⟩ := a4; exact ⟨w, c1, by rw [c2.1]; show (2 : Int) ≠ 0; decide⟩
 split at a4
 · obtain ⟨w, c1, c2, _⟩ := a4; exact ⟨w, c1, by rw [c2.1]; show (1 : Int) ≠ 0; decide⟩
 split at a4
 · obtain ⟨w, c1, c2, _⟩ := a4; exact ⟨w, c1, by rw [c2.1]; show (1 : Int) ≠ 0; decide⟩
 · obtain ⟨w, c1, c2, _⟩ := a4; exact ⟨w, c1, by rw [c2.1]; show (6 : Int) ≠ 0; decide⟩
def Reads1 (O : List (ByteArray × T) → T) (s : ByteArray) (x : T) : Prop := ∀ n room p u e, p ≤ s.size → next s p = .tok u → Spells s p (said x) e → 2 * (s.size - u.at_) + 1 ≤ n → Got s x.depth room (fromF O s n room u) (norm O x) e
theorem read_items (O : List (ByteArray × T) → T) (s : ByteArray) : ∀ (r : List T) (x : T), (∀ y ∈ x :: r, Reads1 O s y) → ∀ n room p u e acc, p ≤ s.size → next s p = .tok u → u.kind ≠ 0 → Spells s p (said x ++ tailA r) e → 2 * (s.size - u.at_) + 2 ≤ n → Got s (T.depths (x :: r)) room (itemsF O s n room u acc) (arrT (acc ++ norms O (x :: r))) e := by
 intro r
 induction r with
 | nil =>
  intro x hx n room p u e acc hp hu hk h hn
  obtain ⟨n, rfl⟩ : ∃ m, n = m + 1 := ⟨n - 1, by omega⟩
  obtain ⟨m, h1, h2⟩ := spells_append h
  have g := hx x List.mem_cons_self n room p u m hp hu h1 (by omega)
  unfold itemsF
  have hd : T.depths [x] = x.depth := by simp [T.depths]
  rw [hd]
  refine ⟨fun hr => ?_, fun hr => ?_⟩
  ·
   rw [g.1 hr]
   obtain ⟨v, a1, a2, a3⟩ := h2
   obtain rfl : v.fin = e := a3
   simp only [a1]
   rw [if_pos (says_is a2)]
   rfl
  ·
   obtain ⟨q, a1, a2⟩ := g.2 hr
   rw [a1]
   exact ⟨q, rfl, a2⟩
 | cons y r ih =>
  intro x hx n room p u e acc hp hu hk h hn
  obtain ⟨n, rfl⟩ : ∃ m, n = m + 1 := ⟨n - 1, by omega⟩
  obtain ⟨m, h1, h2⟩ := spells_append h
  have hm := h1.le hp
  have g := hx x List.mem_cons_self n room p u m hp hu h1 (by omega)
  unfold itemsF
  have hd : T.depths (x :: y :: r) = max x.depth (T.depths (y :: r)) := by rw [T.depths]
  rw [hd]
  rcases Nat.lt_or_ge room x.depth with hr | hr
  ·
   refine ⟨fun h => absurd h (by omega), fun _ => ?_⟩
   obtain ⟨q, a1, a2⟩ := g.2 hr
   rw [a1]
   exact ⟨q, rfl, a2⟩
  ·
   rw [g.1 hr]
   obtain ⟨v, a1, a2, a3⟩ := h2
   simp only [a1]
   rw [if_neg (says_not _ a2 (by decide)), if_neg (fun hh => hh (says_is a2))]
   obtain ⟨⟨b1, b2, b3⟩, b4⟩ := ok_next hm a1
   have b5 := b3 (mark_ne (says_is a2))
   have hw := said_first y a3
   obtain ⟨w, c1, c2⟩ := hw
   simp only [c1]
   obtain ⟨_, c4⟩ := ok_next b2 c1
   have f := (enough O s n).1 room u
   have hm2 : u.at_ < m := by
    obtain ⟨o1, _⟩ := ok_next hp hu
    exact ((f o1 (by omega)).2 _ _ (g.1 hr)).1
   have g2 := ih y (fun z hz => hx z (List.mem_cons_of_mem _ hz)) n room v.fin w e (acc ++ [norm O x]) b2 c1 c2 a3 (by omega)
   have e1 : (acc ++ [norm O x]) ++ norms O (y :: r) = acc ++ norms O (x :: y :: r) := by rw [List.append_assoc]; rfl
   rw [e1] at g2
   exact ⟨fun h => g2.1 (by omega), fun h => g2.2 (by omega)⟩
theorem read_membs (O : List (ByteArray × T) → T) (s : ByteArray) : ∀ (r : List T) (ks : List ByteArray) (q : ByteArray) (x : T), (∀ y ∈ x :: r, Reads1 O s y) → ks.length = r.length → ∀ n room p u e acc, (acc.map Prod.fst ++ q :: ks).Nodup → p ≤ s.size → next s p = .tok u → Spells s p (⟨2, q, 0⟩ :: sayM 58 :: (said x ++ tailO ks r)) e → 2 * (s.size - u.at_) + 2 ≤ n → Got s (T.depths (x :: r)) room (membsF O s n room u acc) (O (acc ++ (q :: ks).zip (norms O (x :: r)))) e := by
 intro r
 induction r with
 | nil =>
  intro ks q x hx hl n room p u e acc hnd hp hu h hn
  obtain rfl : ks = [] := List.eq_nil_of_length_eq_zero hl
  obtain ⟨n, rfl⟩ : ∃ m, n = m + 1 := ⟨n - 1, by omega⟩
  obtain ⟨hq, h⟩ := h.tok hu
  obtain ⟨c, d1, d2, h⟩ := h
  obtain ⟨⟨o1, o2, o3⟩, o4⟩ := ok_next hp hu
  have o5 := o3 (by rw [hq.1]; show (2 : Int) ≠ 0; decide)
  obtain ⟨⟨b1, b2, b3⟩, b4⟩ := ok_next o2 d1
  obtain ⟨m, h1, h2⟩ := spells_append h
  obtain ⟨w, c1, c2⟩ := said_first x (l := []) (by rw [List.append_nil]; exact h1)
  obtain ⟨_, c4⟩ := ok_next b2 c1
  have g := hx x List.mem_cons_self n room c.fin w m b2 c1 h1 (by omega)
  have hk : hasK acc u.text = false := by
   rw [hq.2.1]
   refine hasK_no fun hm => ?_
   exact (List.nodup_append.1 hnd).2.2 _ hm _ List.mem_cons_self rfl
  unfold membsF
  rw [if_neg (fun hh => hh hq.1), if_neg (by rw [hk]; decide)]
  simp only [d1]
  rw [if_neg (fun hh => hh (says_is d2))]
  simp only [c1]
  have hd : T.depths [x] = x.depth := by simp [T.depths]
  rw [hd]
  refine ⟨fun hr => ?_, fun hr => ?_⟩
  ·
   rw [g.1 hr]
   obtain ⟨v, a1, a2, a3⟩ := h2
   obtain rfl : v.fin = e := a3
   simp only [a1]
   rw [if_pos (says_is a2), hq.2.1]
   rfl
  ·
   obtain ⟨z, a1, a2⟩ := g.2 hr
   rw [a1]
   exact ⟨z, rfl, a2⟩
 | cons y r ih =>
  intro ks q x hx hl n room p u e acc hnd hp hu h hn
  obtain ⟨q2, ks, rfl⟩ : ∃ a b, ks = a :: b := by
   cases ks with
   | nil => cases hl
   | cons a b => exact ⟨a, b, rfl⟩
  obtain ⟨n, rfl⟩ : ∃ m, n = m + 1 := ⟨n - 1, by omega⟩
  obtain ⟨hq, h⟩ := h.tok hu
  obtain ⟨c, d1, d2, h⟩ := h
  obtain ⟨⟨o1, o2, o3⟩, o4⟩ := ok_next hp hu
  have o5 := o3 (by rw [hq.1]; show (2 : Int) ≠ 0; decide)
  obtain ⟨⟨b1, b2, b3⟩, b4⟩ := ok_next o2 d1
  obtain ⟨m, h1, h2⟩ := spells_append h
  have hm := h1.le b2
  obtain ⟨w, c1, c2⟩ := said_first x (l := []) (by rw [List.append_nil]; exact h1)
  obtain ⟨c3, c4⟩ := ok_next b2 c1
  have g := hx x List.mem_cons_self n room c.fin w m b2 c1 h1 (by omega)
  have hk : hasK acc u.text = false := by
   rw [hq.2.1]
   refine hasK_no fun hm => ?_
   exact (List.nodup_append.1 hnd).2.2 _ hm _ List.mem_cons_self rfl
  unfold membsF
  rw [if_neg (fun hh => hh hq.1), if_neg (by rw [hk]; decide)]
  simp only [d1]
  rw [if_neg (fun hh => hh (says_is d2))]
  simp only [c1]
  have hd : T.depths (x :: y :: r) = max x.depth (T.depths (y :: r)) := by rw [T.depths]
  rw [hd]
  rcases Nat.lt_or_ge room x.depth with hr | hr
  ·
   refine ⟨fun h => absurd h (by omega), fun _ => ?_⟩
   obtain ⟨z, a1, a2⟩ := g.2 hr
   rw [a1]
   exact ⟨z, rfl, a2⟩
  ·
   have hm2 : w.at_ < m := (((enough O s n).1 room w c3 (by omega)).2 _ _ (g.1 hr)).1
   rw [g.1 hr]
   obtain ⟨v, a1, a2, a3⟩ := h2
   simp only [a1]
   rw [if_neg (says_not _ a2 (by decide)), if_neg (fun hh => hh (says_is a2))]
   obtain ⟨⟨f1, f2, f3⟩, f4⟩ := ok_next hm a1
   have f5 := f3 (mark_ne (says_is a2))
   have a4 := a3
   obtain ⟨k, e1, e2, _⟩ := a4
   simp only [e1]
   obtain ⟨_, e4⟩ := ok_next f2 e1
   have hnd2 : ((acc ++ [(q, norm O x)]).map Prod.fst ++ q2 :: ks).Nodup := by
    rw [List.map_append, List.append_assoc]; exact hnd
   have g2 := ih ks q2 y (fun z hz => hx z (List.mem_cons_of_mem _ hz)) (by simpa using hl) n room v.fin k e (acc ++ [(q, norm O x)]) hnd2 f2 e1 a3 (by omega)
   have e5 : (acc ++ [(q, norm O x)]) ++ (q2 :: ks).zip (norms O (y :: r)) = acc ++ (q :: q2 :: ks).zip (norms O (x :: y :: r)) := by rw [List.append_assoc]; rfl
   rw [e5] at g2
   rw [hq.2.1]
   exact ⟨fun h => g2.1 (by omega), fun h => g2.2 (by omega)⟩
theorem read_said (O : List (ByteArray × T) → T) (s : ByteArray) : ∀ t : T, T.All Shape t → Reads1 O s t := by
 refine T.ind ?_
 intro t ih hs n room p u e hp hu h hn
 obtain ⟨n, rfl⟩ : ∃ m, n = m + 1 := ⟨n - 1, by omega⟩
 have IH : ∀ y ∈ t.items, Reads1 O s y := fun y hy => ih y hy (hs.mem hy)
 have hsh := hs.here
 obtain ⟨⟨o1, o2, o3⟩, o4⟩ := ok_next hp hu
 rw [said_eq] at h
 rw [norm_eq, T.depth_eq]
 unfold fromF
 by_cases k1 : t.kind = 1
 ·
  rw [if_pos k1] at h ⊢
  obtain ⟨⟨x1, x2, x3⟩, x4⟩ := h.tok hu
  obtain rfl : u.fin = e := x4
  rw [if_neg (by omega)]
  refine got_leaf ?_
  change u.kind = if t.tr then (4 : Int) else 5 at x1
  cases hb : t.tr
  ·
   rw [hb, if_neg (by decide)] at x1
   rw [if_neg (by omega), if_pos (.inr x1), x1]; rfl
  ·
   rw [hb, if_pos rfl] at x1
   rw [if_neg (by omega), if_pos (.inl x1), x1]; rfl
 rw [if_neg k1] at h ⊢
 by_cases k2 : t.kind = 2
 ·
  rw [if_pos k2] at h ⊢
  obtain ⟨⟨x1, x2, x3⟩, x4⟩ := h.tok hu
  obtain rfl : u.fin = e := x4
  change u.kind = 3 at x1
  change u.num = t.num at x3
  rw [if_neg (by omega)]
  refine got_leaf ?_
  rw [if_neg (by omega), if_neg (by omega), if_pos x1, x3]
 rw [if_neg k2] at h ⊢
 by_cases k3 : t.kind = 3
 ·
  rw [if_pos k3] at h ⊢
  obtain ⟨⟨x1, x2, x3⟩, x4⟩ := h.tok hu
  obtain rfl : u.fin = e := x4
  change u.kind = 2 at x1
  change u.text = t.str at x2
  rw [if_neg (by omega)]
  refine got_leaf ?_
  rw [if_neg (by omega), if_neg (by omega), if_neg (by omega), if_pos x1, x2]
 rw [if_neg k3] at h ⊢
 by_cases k4 : t.kind = 4
 ·
  rw [if_pos k4] at h ⊢
  rw [if_pos (.inl k4)]
  obtain ⟨hu1, h⟩ := h.tok hu
  have hm := says_is hu1
  have x1 := hm.1
  have hne := o3 (mark_ne hm)
  rw [if_neg (by omega), if_neg (by omega), if_neg (by omega), if_neg (by omega), if_neg (fun hh => hh.1 hm)]
  have hbt := mark_bt (by decide) hp hu hm
  rcases Nat.eq_zero_or_pos room with hr | hr
  ·
   rw [if_pos hr]
   exact ⟨fun hh => absurd hh (by omega), fun _ => ⟨_, rfl, by omega, .inl hbt⟩⟩
  rw [if_neg (by omega)]
  generalize t.items = l at *
  cases l with
  | nil =>
   obtain ⟨v, a1, a2, a3⟩ := h
   obtain rfl : v.fin = e := a3
   simp only [a1]
   rw [if_pos hm, if_pos (says_is a2)]
   exact ⟨fun _ => rfl, fun hh => absurd hh (by simp [T.depths]; omega)⟩
  | cons x r =>
   change Spells s u.fin (said x ++ tailA r) e at h
   obtain ⟨w, c1, c2⟩ := said_first x h
   obtain ⟨_, c4⟩ := ok_next o2 c1
   simp only [c1]
   rw [if_pos hm, if_neg (first_not x c1 h).1]
   have g := read_items O s r x IH n (room - 1) u.fin w e [] o2 c1 c2 h (by omega)
   exact ⟨fun hh => g.1 (by omega), fun hh => g.2 (by omega)⟩
 rw [if_neg k4] at h ⊢
 by_cases k5 : t.kind = 5
 ·
  rw [if_pos k5] at h ⊢
  rw [if_pos (.inr k5)]
  obtain ⟨hl, hnd⟩ := hsh k5
  obtain ⟨hu1, h⟩ := h.tok hu
  have hm := says_is hu1
  have hm9 := says_not 91 hu1 (by decide)
  have x1 := hm.1
  have hne := o3 (mark_ne hm)
  rw [if_neg (by omega), if_neg (by omega), if_neg (by omega), if_neg (by omega), if_neg (fun hh => hh.2 hm)]
  have hbt := mark_bt (by decide) hp hu hm
  rcases Nat.eq_zero_or_pos room with hr | hr
  ·
   rw [if_pos hr]
   exact ⟨fun hh => absurd hh (by omega), fun _ => ⟨_, rfl, by omega, .inr hbt⟩⟩
  rw [if_neg (by omega)]
  generalize t.items = l at *
  generalize t.keys = ks at *
  cases l with
  | nil =>
   have hk0 : ks = [] := List.eq_nil_of_length_eq_zero hl
   subst hk0
   obtain ⟨v, a1, a2, a3⟩ := h
   obtain rfl : v.fin = e := a3
   simp only [a1]
   rw [if_neg hm9, if_pos (says_is a2)]
   exact ⟨fun _ => rfl, fun hh => absurd hh (by simp [T.depths]; omega)⟩
  | cons x r =>
   obtain ⟨q, ks, rfl⟩ : ∃ a b, ks = a :: b := by
    cases ks with
    | nil => cases hl
    | cons a b => exact ⟨a, b, rfl⟩
   change Spells s u.fin (⟨2, q, 0⟩ :: sayM 58 :: (said x ++ tailO ks r)) e at h
   obtain ⟨w, c1, c2, _⟩ := id h
   obtain ⟨_, c4⟩ := ok_next o2 c1
   simp only [c1]
   rw [if_neg hm9, if_neg (kind_not _ c2 (show (2 : Int) ≠ 1 by decide))]
   have g := read_membs O s r ks q x IH (by simpa using hl) n (room - 1) u.fin w e [] hnd o2 c1 h (by omega)
   exact ⟨fun hh => g.1 (by omega), fun hh => g.2 (by omega)⟩
 rw [if_neg k5] at h ⊢
 obtain ⟨⟨x1, x2, x3⟩, x4⟩ := h.tok hu
 obtain rfl : u.fin = e := x4
 change u.kind = 6 at x1
 rw [if_neg (by omega)]
 refine got_leaf ?_
 rw [if_pos x1]
theorem whole_said (O : List (ByteArray × T) → T) (s : ByteArray) (room : Nat) (t : T) (ht : T.All Shape t) {e : Nat} (h : Spells s 0 (said t ++ [⟨0, nix, 0⟩]) e) : (t.depth ≤ room → whole O s room = .val (norm O t) 0) ∧ (room < t.depth → ∃ p, whole O s room = .err p 6 ∧ p < s.size ∧ (bt s p = 91 ∨ bt s p = 123)) := by
 obtain ⟨m, h1, h2⟩ := spells_append h
 obtain ⟨u, c1, c2⟩ := said_first t h
 obtain ⟨⟨o1, o2, o3⟩, o4⟩ := ok_next (Nat.zero_le _) c1
 have g := read_said O s t ht (many s) room 0 u m (Nat.zero_le _) c1 h1 (by unfold many; omega)
 unfold whole
 simp only [c1]
 refine ⟨fun hr => ?_, fun hr => ?_⟩
 ·
  rw [g.1 hr]
  obtain ⟨v, a1, a2, a3⟩ := h2
  simp only [a1]
  rw [if_pos a2.1]
 ·
  obtain ⟨p, a1, a2⟩ := g.2 hr
  rw [a1]
  exact ⟨p, rfl, a2⟩
end Go.Proofs.YtgblenoaeanogaaGreatDoor.Rd
namespace Go.Proofs.YtgblenoaeanogaaGreatDoor.Rd
open Tk
inductive Gp (α : Type) where
 | ok (a : α) (fin : Nat)
 | err (p : Nat) (c : Int)
 | out
def loopF {α : Type} (part : Nat → Tok → α → Gp α) (s : ByteArray) (c : Nat) : Nat → Tok → α → Gp α
 | 0, _, _ => .out
 | n + 1, t, a => match part n t a with
  | .out => .out
  | .err p e => .err p e
  | .ok a' e => match next s e with
   | .err p e => .err p e
   | .tok u =>
    if isM u c then .ok a' u.fin
    else if ¬ isM u 44 then .err u.at_ 1
    else match next s u.fin with
     | .err p e => .err p e
     | .tok x => loopF part s c n x a'
def Gp.res {α : Type} (f : α → T) : Gp α → Res
 | .ok a e => .val (f a) e
 | .err p c => .err p c
 | .out => .out
def itemP (O : List (ByteArray × T) → T) (s : ByteArray) (room n : Nat) (t : Tok) (l : List T) : Gp (List T) := match fromF O s n room t with
 | .out => .out
 | .err p c => .err p c
 | .val v e => .ok (l ++ [v]) e
def membP (O : List (ByteArray × T) → T) (s : ByteArray) (room n : Nat) (t : Tok) (m : List (ByteArray × T)) : Gp (List (ByteArray × T)) :=
 if t.kind ≠ 2 then .err t.at_ 1
 else if hasK m t.text = true then .err t.at_ 5
 else match next s t.fin with
  | .err p c => .err p c
  | .tok u =>
   if ¬ isM u 58 then .err u.at_ 1
   else match next s u.fin with
    | .err p c => .err p c
    | .tok x => match fromF O s n room x with
     | .out => .out
     | .err p c => .err p c
     | .val v e => .ok (m ++ [(t.text, v)]) e
theorem items_loop (O : List (ByteArray × T) → T) (s : ByteArray) (room : Nat) : ∀ n t acc, itemsF O s n room t acc = (loopF (itemP O s room) s 93 n t acc).res arrT := by
 intro n
 induction n with
 | zero => intro t acc; unfold itemsF loopF; rfl
 | succ n ih =>
  intro t acc
  unfold itemsF loopF itemP
  cases fromF O s n room t with
  | out => rfl
  | err p c => rfl
  | val v e =>
   dsimp only
   cases next s e with
   | err p c => rfl
   | tok u =>
    dsimp only
    by_cases h1 : isM u 93
    · rw [if_pos h1, if_pos h1]; rfl
    ·
     rw [if_neg h1, if_neg h1]
     by_cases h2 : isM u 44
     ·
      rw [if_neg (fun k => k h2), if_neg (fun k => k h2)]
      cases next s u.fin with
      | err p c => rfl
      | tok x => exact ih x (acc ++ [v])
     · rw [if_pos h2, if_pos h2]; rfl
theorem membs_loop (O : List (ByteArray × T) → T) (s : ByteArray) (room : Nat) : ∀ n t acc, membsF O s n room t acc = (loopF (membP O s room) s 125 n t acc).res O := by
 intro n
 induction n with
 | zero => intro t acc; unfold membsF loopF; rfl
 | succ n ih =>
  intro t acc
  unfold membsF loopF membP
  by_cases h1 : t.kind ≠ 2
  · rw [if_pos h1, if_pos h1]; rfl
  rw [if_neg h1, if_neg h1]
  by_cases h2 : hasK acc t.text = true
  · rw [if_pos h2, if_pos h2]; rfl
  rw [if_neg h2, if_neg h2]
  cases next s t.fin with
  | err p c => rfl
  | tok u =>
   dsimp only
   by_cases h3 : isM u 58
   ·
    rw [if_neg (fun k => k h3), if_neg (fun k => k h3)]
    cases next s u.fin with
    | err p c => rfl
    | tok x =>
     dsimp only
     cases fromF O s n room x with
     | out => rfl
     | err p c => rfl
     | val v e =>
      dsimp only
      cases next s e with
      | err p c => rfl
      | tok y =>
       dsimp only
       by_cases h4 : isM y 125
       · rw [if_pos h4, if_pos h4]; rfl
       ·
        rw [if_neg h4, if_neg h4]
        by_cases h5 : isM y 44
        ·
         rw [if_neg (fun k => k h5), if_neg (fun k => k h5)]
         cases next s y.fin with
         | err p c => rfl
         | tok z => exact ih z (acc ++ [(t.text, v)])
        · rw [if_pos h5, if_pos h5]; rfl
   · rw [if_pos h3, if_pos h3]; rfl
def Good {α : Type} (part : Nat → Tok → α → Gp α) (m : α → Nat) (s : ByteArray) : Prop := ∀ n t a, Ok s t → 2 * (s.size - t.at_) + 1 ≤ n → part n t a ≠ .out ∧ ∀ a' e, part n t a = .ok a' e → t.at_ < e ∧ e ≤ s.size ∧ m a' = m a + 1
theorem item_good (O : List (ByteArray × T) → T) (s : ByteArray) (room : Nat) : Good (itemP O s room) List.length s := by
 intro n t a ht hn
 have hf := (enough O s n).1 room t ht hn
 unfold itemP
 cases h : fromF O s n room t with
 | out => exact absurd h hf.1
 | err p c => exact ⟨(by intro k; cases k), fun _ _ k => by cases k⟩
 | val v e =>
  refine ⟨(by intro k; cases k), fun a' e' k => ?_⟩
  injection k with k1 k2
  subst k1 k2
  exact ⟨(hf.2 v e h).1, (hf.2 v e h).2, by simp⟩
theorem memb_good (O : List (ByteArray × T) → T) (s : ByteArray) (room : Nat) : Good (membP O s room) List.length s := by
 intro n t a ht hn
 obtain ⟨h1, h2, h3⟩ := ht
 unfold membP
 split
 · exact ⟨(by intro k; cases k), fun _ _ k => by cases k⟩
 rename_i hk
 have h4 := h3 (by intro h0; exact hk (by rw [h0]; decide))
 split
 · exact ⟨(by intro k; cases k), fun _ _ k => by cases k⟩
 split
 · exact ⟨(by intro k; cases k), fun _ _ k => by cases k⟩
 rename_i u hu
 obtain ⟨⟨h5, h6, h7⟩, hle⟩ := ok_next h2 hu
 split
 · exact ⟨(by intro k; cases k), fun _ _ k => by cases k⟩
 split
 · exact ⟨(by intro k; cases k), fun _ _ k => by cases k⟩
 rename_i x hx
 obtain ⟨hox, hlex⟩ := ok_next h6 hx
 have hf := (enough O s n).1 room x hox (by have := hox.1; have := hox.2.1; omega)
 split
 · rename_i ho; exact absurd ho hf.1
 · exact ⟨(by intro k; cases k), fun _ _ k => by cases k⟩
 ·
  rename_i v e he
  refine ⟨(by intro k; cases k), fun a' e' k => ?_⟩
  injection k with k1 k2
  subst k1 k2
  obtain ⟨h8, h9⟩ := hf.2 v e he
  exact ⟨by omega, h9, by simp⟩
end Go.Proofs.YtgblenoaeanogaaGreatDoor.Rd
