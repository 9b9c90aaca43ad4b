/- Plain mathematics of UTF-8, no program: what a range over a string decodes at a place, against the bytes of points. -/
import Derived.Lib.RuneBytes
import Derived.Laws.RangeAny
import Derived.Laws.Runes
namespace Go.Proofs.YtgiapdmoiaiofaaDoor.Pl

def pt (n : Int) : Bool := decide ((0 ≤ n ∧ n < 55296) ∨ (57343 < n ∧ n ≤ 1114111))
theorem pt_iff (n : Int) : pt n = true ↔ ((0 ≤ n ∧ n < 55296) ∨ (57343 < n ∧ n ≤ 1114111)) := by simp [pt]

/-- The decoder over the bytes from a place on. -/
def decL (L : List UInt8) : Nat × Nat :=
  let b (k : Nat) : Nat := (L.getD k 0).toNat
  let cont (k : Nat) : Bool := decide (k < L.length) && b k / 64 == 2
  if b 0 < 128 then (b 0, 1)
  else if b 0 / 32 == 6 && cont 1 then
    (if (b 0 % 32) * 64 + b 1 % 64 ≥ 128 then ((b 0 % 32) * 64 + b 1 % 64, 2) else (65533, 1))
  else if b 0 / 16 == 14 && cont 1 && cont 2 then
    (if (b 0 % 16) * 4096 + (b 1 % 64) * 64 + b 2 % 64 ≥ 2048 && Utf8.valid (((b 0 % 16) * 4096 + (b 1 % 64) * 64 + b 2 % 64 : Nat) : Int) then ((b 0 % 16) * 4096 + (b 1 % 64) * 64 + b 2 % 64, 3) else (65533, 1))
  else if b 0 / 8 == 30 && cont 1 && cont 2 && cont 3 then
    (if (b 0 % 8) * 262144 + (b 1 % 64) * 4096 + (b 2 % 64) * 64 + b 3 % 64 ≥ 65536 && Utf8.valid (((b 0 % 8) * 262144 + (b 1 % 64) * 4096 + (b 2 % 64) * 64 + b 3 % 64 : Nat) : Int) then ((b 0 % 8) * 262144 + (b 1 % 64) * 4096 + (b 2 % 64) * 64 + b 3 % 64, 4) else (65533, 1))
  else (65533, 1)

theorem get_drop (s : ByteArray) (i k : Nat) : s.get! (i + k) = (s.data.toList.drop i).getD k 0 := by
  rw [List.getD_eq_getElem?_getD, List.getElem?_drop, Array.getElem?_toList]
  rcases s with ⟨d⟩
  show d[i + k]! = _
  by_cases h : i + k < d.size
  · simp [h]
  · simp [h]; rfl

theorem decode_eq (s : ByteArray) (i : Nat) : Utf8.decode s i = decL (s.data.toList.drop i) := by
  have hl : (s.data.toList.drop i).length = s.size - i := by
    rw [List.length_drop, Array.length_toList]; rfl
  have hc : ∀ k, decide (k < (s.data.toList.drop i).length) = decide (i + k < s.size) := by
    intro k; rw [hl]; apply decide_eq_decide.2; omega
  simp only [decL, Utf8.decode, hc, get_drop, Utf8.runeError]

/-- U+FFFD's own bytes. -/
def fffd (L : List UInt8) : Bool := L.take 3 == [239, 191, 189]

/-- A point begins here: what is decoded is no stand-in for bad bytes. -/
def ok (L : List UInt8) : Bool := !L.isEmpty && !((decL L).1 == 65533 && !fffd L)

theorem b8 (x : Int) (_h0 : 0 ≤ x) (h1 : x < 256) : (x.toNat.toUInt8).toNat = x.toNat := by
  simp [Nat.toUInt8]; omega
theorem u8_eq (a : UInt8) (x : Int) (h : (a.toNat : Int) = x) : a = x.toNat.toUInt8 := by
  apply UInt8.toNat_inj.1
  have := a.toNat_lt
  rw [b8 x (by omega) (by omega)]; omega

theorem ok_of_enc (r : Int) (rest : List UInt8) (h : pt r = true) :
    decL (Lib.encodeRune r ++ rest) = (r.toNat, (Lib.encodeRune r).length) ∧ ok (Lib.encodeRune r ++ rest) = true := by
  have hp := (pt_iff r).1 h
  have hv : Utf8.valid r = true := by rw [validRune_eq]; simpa [validRune] using hp
  have key : decL (Lib.encodeRune r ++ rest) = (r.toNat, (Lib.encodeRune r).length) := by
    by_cases h1 : r ≤ 127
    · simp [Lib.encodeRune, Lib.encodeRuneZ_one (by omega) h1, decL, b8 r (by omega) (by omega)]
      omega
    · by_cases h2 : r ≤ 2047
      · have e0 := b8 (192 + r / 64) (by omega) (by omega)
        have e1 := b8 (128 + r % 64) (by omega) (by omega)
        simp only [Lib.encodeRune, Lib.encodeRuneZ_two (by omega) h2, decL, List.map_cons, List.map_nil, List.cons_append, List.nil_append, List.getD_cons_zero, List.getD_cons_succ, e0, e1, List.length_cons, List.length_nil]
        have c0 : ¬ (192 + r / 64).toNat < 128 := by omega
        have c1 : ((192 + r / 64).toNat / 32 == 6) = true := by simp; omega
        have c2 : ((128 + r % 64).toNat / 64 == 2) = true := by simp; omega
        have c3 : decide (1 < rest.length + 1 + 1) = true := by simp
        have c4 : (192 + r / 64).toNat % 32 * 64 + (128 + r % 64).toNat % 64 = r.toNat := by omega
        rw [if_neg c0, c1, c2, c3, c4]
        simp; omega
      · by_cases h3 : r ≤ 65535
        · have e0 := b8 (224 + r / 4096) (by omega) (by omega)
          have e1 := b8 (128 + r / 64 % 64) (by omega) (by omega)
          have e2 := b8 (128 + r % 64) (by omega) (by omega)
          simp only [Lib.encodeRune, Lib.encodeRuneZ_three (show (2048 ≤ r ∧ r < 55296) ∨ (57343 < r ∧ r ≤ 65535) by omega), decL, List.map_cons, List.map_nil, List.cons_append, List.nil_append, List.getD_cons_zero, List.getD_cons_succ, e0, e1, e2, List.length_cons, List.length_nil]
          have c0 : ¬ (224 + r / 4096).toNat < 128 := by omega
          have c1 : ((224 + r / 4096).toNat / 32 == 6) = false := by simp; omega
          have c1' : ((224 + r / 4096).toNat / 16 == 14) = true := by simp; omega
          have c2 : ((128 + r / 64 % 64).toNat / 64 == 2) = true := by simp; omega
          have c2' : ((128 + r % 64).toNat / 64 == 2) = true := by simp; omega
          have c3 : decide (1 < rest.length + 1 + 1 + 1) = true := by simp
          have c3' : decide (2 < rest.length + 1 + 1 + 1) = true := by simp
          have c4 : (224 + r / 4096).toNat % 16 * 4096 + (128 + r / 64 % 64).toNat % 64 * 64 + (128 + r % 64).toNat % 64 = r.toNat := by omega
          rw [if_neg c0, c1, c1', c2, c2', c3, c3', c4, show ((r.toNat : Nat) : Int) = r by omega, hv]
          simp; omega
        · have e0 := b8 (240 + r / 262144) (by omega) (by omega)
          have e1 := b8 (128 + r / 4096 % 64) (by omega) (by omega)
          have e2 := b8 (128 + r / 64 % 64) (by omega) (by omega)
          have e3 := b8 (128 + r % 64) (by omega) (by omega)
          simp only [Lib.encodeRune, Lib.encodeRuneZ_four (show 65536 ≤ r by omega) (show r ≤ 1114111 by omega), decL, List.map_cons, List.map_nil, List.cons_append, List.nil_append, List.getD_cons_zero, List.getD_cons_succ, e0, e1, e2, e3, List.length_cons, List.length_nil]
          have c0 : ¬ (240 + r / 262144).toNat < 128 := by omega
          have c1 : ((240 + r / 262144).toNat / 32 == 6) = false := by simp; omega
          have c1' : ((240 + r / 262144).toNat / 16 == 14) = false := by simp; omega
          have c1'' : ((240 + r / 262144).toNat / 8 == 30) = true := by simp; omega
          have c2 : ((128 + r / 4096 % 64).toNat / 64 == 2) = true := by simp; omega
          have c2' : ((128 + r / 64 % 64).toNat / 64 == 2) = true := by simp; omega
          have c2'' : ((128 + r % 64).toNat / 64 == 2) = true := by simp; omega
          have c3 : decide (1 < rest.length + 1 + 1 + 1 + 1) = true := by simp
          have c3' : decide (2 < rest.length + 1 + 1 + 1 + 1) = true := by simp
          have c3'' : decide (3 < rest.length + 1 + 1 + 1 + 1) = true := by simp
          have c4 : (240 + r / 262144).toNat % 8 * 262144 + (128 + r / 4096 % 64).toNat % 64 * 4096 + (128 + r / 64 % 64).toNat % 64 * 64 + (128 + r % 64).toNat % 64 = r.toNat := by omega
          rw [if_neg c0, c1, c1', c1'', c2, c2', c2'', c3, c3', c3'', c4, show ((r.toNat : Nat) : Int) = r by omega, hv]
          simp; omega
  refine ⟨key, ?_⟩
  unfold ok
  rw [key]
  have hne : (Lib.encodeRune r ++ rest).isEmpty = false := by
    have := (Lib.encodeRuneZ_length r).1
    cases he : Lib.encodeRune r with
    | nil => simp [Lib.encodeRune] at he; rw [he] at this; simp at this
    | cons a l => rfl
  rw [hne]
  by_cases h5 : r = 65533
  · subst h5
    have e : Lib.encodeRune 65533 = [239, 191, 189] := by decide
    simp [fffd, e]
  · have : (r.toNat == 65533) = false := by simp; omega
    rw [this]; rfl


theorem enc_of_ok (L : List UInt8) (h : ok L = true) : pt ((decL L).1 : Int) = true ∧ L = Lib.encodeRune ((decL L).1 : Int) ++ L.drop (decL L).2 ∧ (Lib.encodeRune ((decL L).1 : Int)).length = (decL L).2 := by
  obtain ⟨a, T, rfl⟩ : ∃ a T, L = a :: T := by
    cases L with
    | nil => simp [ok] at h
    | cons a T => exact ⟨a, T, rfl⟩
  have ha := a.toNat_lt
  by_cases f : fffd (a :: T) = true
  · -- its bytes are U+FFFD's own
    obtain ⟨rest, he⟩ : ∃ rest, a :: T = Lib.encodeRune 65533 ++ rest := by
      have e : Lib.encodeRune 65533 = [239, 191, 189] := by decide
      refine ⟨(a :: T).drop 3, ?_⟩
      have := List.take_append_drop 3 (a :: T)
      rw [← this]
      simp only [fffd, beq_iff_eq] at f
      rw [f, e]
      simp
    have := (ok_of_enc 65533 rest (by decide)).1
    rw [he, this]
    refine ⟨by decide, ?_, by simp⟩
    simp
  · have hne : (decL (a :: T)).1 ≠ 65533 := by
      intro e
      simp [ok, e, f] at h
    clear h f
    revert hne
    simp only [decL, List.getD_cons_zero]
    split
    · rename_i h1
      intro _
      refine ⟨(pt_iff _).2 (by omega), ?_, ?_⟩
      · rw [Lib.encodeRune, Lib.encodeRuneZ_one (by omega) (by omega)]
        simp
      · rw [Lib.encodeRune, Lib.encodeRuneZ_one (by omega) (by omega)]; rfl
    · rename_i h1
      split
      · rename_i h2
        simp only [Bool.and_eq_true, beq_iff_eq, decide_eq_true_eq] at h2
        obtain ⟨h2, h3, h4⟩ := h2
        obtain ⟨b, T, rfl⟩ : ∃ b T', T = b :: T' := by
          cases T with
          | nil => simp at h3
          | cons b T => exact ⟨b, T, rfl⟩
        have hb := b.toNat_lt
        simp only [List.getD_cons_succ, List.getD_cons_zero] at h4 ⊢
        split
        · rename_i h5
          intro _
          simp only []
          have e := Lib.encodeRuneZ_two (r := ((a.toNat % 32 * 64 + b.toNat % 64 : Nat) : Int)) (by omega) (by omega)
          refine ⟨(pt_iff _).2 (by omega), ?_, ?_⟩
          · rw [Lib.encodeRune, e]
            simp only [List.map_cons, List.map_nil, List.cons_append, List.nil_append, List.drop_succ_cons, List.drop_zero]
            rw [← u8_eq a _ (by omega), ← u8_eq b _ (by omega)]
          · rw [Lib.encodeRune, e]; rfl
        · intro hn; exact absurd rfl hn
      · split
        · rename_i h0 h2
          simp only [Bool.and_eq_true, beq_iff_eq, decide_eq_true_eq] at h2
          obtain ⟨⟨h2, h3, h4⟩, h3', h4'⟩ := h2
          obtain ⟨b, c, T, rfl⟩ : ∃ b c T', T = b :: c :: T' := by
            cases T with
            | nil => simp at h3
            | cons b T =>
              cases T with
              | nil => simp at h3'
              | cons c T => exact ⟨b, c, T, rfl⟩
          have hb := b.toNat_lt
          have hc := c.toNat_lt
          simp only [List.getD_cons_succ, List.getD_cons_zero] at h4 h4' ⊢
          split
          · rename_i h5
            intro _
            simp only [Bool.and_eq_true, decide_eq_true_eq] at h5
            obtain ⟨h5, h6⟩ := h5
            rw [validRune_eq] at h6
            simp only [validRune, decide_eq_true_eq] at h6
            simp only []
            have e := Lib.encodeRuneZ_three (r := ((a.toNat % 16 * 4096 + b.toNat % 64 * 64 + c.toNat % 64 : Nat) : Int)) (by omega)
            refine ⟨(pt_iff _).2 (by omega), ?_, ?_⟩
            · rw [Lib.encodeRune, e]
              simp only [List.map_cons, List.map_nil, List.cons_append, List.nil_append, List.drop_succ_cons, List.drop_zero]
              rw [← u8_eq a _ (by omega), ← u8_eq b _ (by omega), ← u8_eq c _ (by omega)]
            · rw [Lib.encodeRune, e]; rfl
          · intro hn; exact absurd rfl hn
        · split
          · rename_i h0 h00 h2
            simp only [Bool.and_eq_true, beq_iff_eq, decide_eq_true_eq] at h2
            obtain ⟨⟨⟨h2, h3, h4⟩, h3', h4'⟩, h3'', h4''⟩ := h2
            obtain ⟨b, c, d, T, rfl⟩ : ∃ b c d T', T = b :: c :: d :: T' := by
              cases T with
              | nil => simp at h3
              | cons b T =>
                cases T with
                | nil => simp at h3'
                | cons c T =>
                  cases T with
                  | nil => simp at h3''
                  | cons d T => exact ⟨b, c, d, T, rfl⟩
            have hb := b.toNat_lt
            have hc := c.toNat_lt
            have hd := d.toNat_lt
            simp only [List.getD_cons_succ, List.getD_cons_zero] at h4 h4' h4'' ⊢
            split
            · rename_i h5
              intro _
              simp only [Bool.and_eq_true, decide_eq_true_eq] at h5
              obtain ⟨h5, h6⟩ := h5
              rw [validRune_eq] at h6
              simp only [validRune, decide_eq_true_eq] at h6
              simp only []
              have e := Lib.encodeRuneZ_four (r := ((a.toNat % 8 * 262144 + b.toNat % 64 * 4096 + c.toNat % 64 * 64 + d.toNat % 64 : Nat) : Int)) (by omega) (by omega)
              refine ⟨(pt_iff _).2 (by omega), ?_, ?_⟩
              · rw [Lib.encodeRune, e]
                simp only [List.map_cons, List.map_nil, List.cons_append, List.nil_append, List.drop_succ_cons, List.drop_zero]
                rw [← u8_eq a _ (by omega), ← u8_eq b _ (by omega), ← u8_eq c _ (by omega), ← u8_eq d _ (by omega)]
              · rw [Lib.encodeRune, e]; rfl
            · intro hn; exact absurd rfl hn
          · intro hn; exact absurd rfl hn

end Go.Proofs.YtgiapdmoiaiofaaDoor.Pl
