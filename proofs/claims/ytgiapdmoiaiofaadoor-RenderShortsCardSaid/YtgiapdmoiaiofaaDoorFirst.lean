/- Plain mathematics: the reference's search for the point that bytes begin with, by trying one to four bytes. -/
import Derived.Test.YtgiapdmoiaiofaaDoorSplit
namespace Go.Proofs.YtgiapdmoiaiofaaDoor.Pl

/-- what the first byte of a point of so many bytes has more than its bits -/
def hd : Nat → Int
  | 2 => 192
  | 3 => 224
  | 4 => 240
  | _ => 0
def byteAt (L : List UInt8) (i : Nat) : Int := ((L.getD i 0).toNat : Nat)
theorem byteAt_lt (L : List UInt8) (i : Nat) : 0 ≤ byteAt L i ∧ byteAt L i < 256 := by
  unfold byteAt; have := (L.getD i 0).toNat_lt; omega

/-- the number that the first i + 1 of k bytes come to -/
def num (L : List UInt8) (k : Nat) : Nat → Int
  | 0 => byteAt L 0 - hd k
  | i + 1 => num L k i * 64 + byteAt L (i + 1) - 128
theorem num_succ (L : List UInt8) (k i : Nat) : num L k (i + 1) = num L k i * 64 + byteAt L (i + 1) - 128 := rfl

theorem hd_b (k : Nat) : 0 ≤ hd k ∧ hd k ≤ 240 := by
  unfold hd; split <;> omega
theorem num_le (L : List UInt8) (k i : Nat) (h : i ≤ 4) : -100000000000 ≤ num L k i ∧ num L k i ≤ 100000000000 := by
  have h0 := byteAt_lt L 0
  have h1 := byteAt_lt L 1
  have h2 := byteAt_lt L 2
  have h3 := byteAt_lt L 3
  have h4 := byteAt_lt L 4
  have hh := hd_b k
  rcases (by omega : i = 0 ∨ i = 1 ∨ i = 2 ∨ i = 3 ∨ i = 4) with rfl | rfl | rfl | rfl | rfl <;> simp only [num, Nat.zero_add, Nat.reduceAdd] <;> omega

/-- so many bytes are a point's -/
def Hit (L : List UInt8) (k : Nat) : Prop :=
  1 ≤ k ∧ k ≤ 4 ∧ k ≤ L.length ∧ pt (num L k (k - 1)) = true ∧ (Lib.encodeRuneZ (num L k (k - 1))).length = k ∧ ∀ i, i < k → (Lib.encodeRuneZ (num L k (k - 1))).getD i 0 = byteAt L i

theorem enc_prefix (L : List UInt8) (r : Int) (h0 : (Lib.encodeRuneZ r).length ≤ L.length) (h : ∀ i, i < (Lib.encodeRuneZ r).length → (Lib.encodeRuneZ r).getD i 0 = byteAt L i) :
    L = Lib.encodeRune r ++ L.drop (Lib.encodeRuneZ r).length := by
  have e : Lib.encodeRune r = L.take (Lib.encodeRuneZ r).length := by
    apply List.ext_getElem
    · simp [Lib.encodeRune]; omega
    · intro i h1 h2
      have hi : i < (Lib.encodeRuneZ r).length := by simpa [Lib.encodeRune] using h1
      have := h i hi
      rw [List.getD_eq_getElem?_getD, List.getElem?_eq_getElem hi] at this
      simp only [Option.getD_some] at this
      have hb := L[i].toNat_lt
      simp only [Lib.encodeRune, List.getElem_map, List.getElem_take]
      rw [this]
      unfold byteAt
      rw [List.getD_eq_getElem?_getD, List.getElem?_eq_getElem (by omega)]
      exact (u8_eq _ _ (by simp)).symm
  rw [e, List.take_append_drop]

theorem hit_dec {L : List UInt8} {k : Nat} (h : Hit L k) : ok L = true ∧ ((decL L).1 : Int) = num L k (k - 1) ∧ (decL L).2 = k := by
  obtain ⟨h1, h2, h3, h4, h5, h6⟩ := h
  have e := enc_prefix L (num L k (k - 1)) (by omega) (by rw [h5]; exact h6)
  have := ok_of_enc (num L k (k - 1)) (L.drop (Lib.encodeRuneZ (num L k (k - 1))).length) h4
  rw [← e] at this
  refine ⟨this.2, ?_, ?_⟩
  · rw [this.1]
    have := (pt_iff _).1 h4
    simp only []
    omega
  · rw [this.1]; simp [Lib.encodeRune, h5]

theorem dec_hit {L : List UInt8} (h : ok L = true) : Hit L (decL L).2 := by
  obtain ⟨h1, h2, h3⟩ := enc_of_ok L h
  have hl := enc_len ((decL L).1 : Int)
  have hz := (Lib.encodeRuneZ_length ((decL L).1 : Int))
  have he : (Lib.encodeRuneZ ((decL L).1 : Int)).length = (decL L).2 := by rw [← h3]; simp [Lib.encodeRune]
  have hle : (decL L).2 ≤ L.length := by
    have := congrArg List.length h2
    rw [List.length_append, h3] at this
    omega
  have hby : ∀ i, i < (decL L).2 → (Lib.encodeRuneZ ((decL L).1 : Int)).getD i 0 = byteAt L i := by
    intro i hi
    have hb := Lib.encodeRuneZ_byte ((decL L).1 : Int)
    have hil : i < (Lib.encodeRuneZ ((decL L).1 : Int)).length := by omega
    have hm := hb _ (List.getElem_mem hil)
    have hg : L[i]? = (Lib.encodeRune ((decL L).1 : Int))[i]? := by
      conv => lhs; rw [h2]
      rw [List.getElem?_append_left (by rw [h3]; exact hi)]
    have hg2 : (Lib.encodeRune ((decL L).1 : Int))[i]? = some ((Lib.encodeRuneZ ((decL L).1 : Int))[i]'hil).toNat.toUInt8 := by
      simp [Lib.encodeRune, List.getElem?_eq_getElem hil]
    unfold byteAt
    rw [List.getD_eq_getElem?_getD, List.getD_eq_getElem?_getD, hg, hg2, List.getElem?_eq_getElem hil]
    simp only [Option.getD_some]
    rw [b8 _ hm.1 hm.2]
    omega
  have hn : num L (decL L).2 ((decL L).2 - 1) = ((decL L).1 : Int) := by
    have hp := (pt_iff _).1 h1
    generalize (decL L).2 = m at *
    generalize ((decL L).1 : Int) = r at *
    clear h2 h3 hl
    by_cases c1 : r ≤ 127
    · have e := Lib.encodeRuneZ_one (r := r) (by omega) c1
      rw [e] at he hby
      obtain rfl : m = 1 := he.symm
      have b0 := hby 0 (by omega)
      simp [num, hd] at b0 ⊢
      omega
    · by_cases c2 : r ≤ 2047
      · have e := Lib.encodeRuneZ_two (r := r) (by omega) c2
        rw [e] at he hby
        obtain rfl : m = 2 := he.symm
        have b0 := hby 0 (by omega)
        have b1 := hby 1 (by omega)
        simp [num, hd] at b0 b1 ⊢
        omega
      · by_cases c3 : r ≤ 65535
        · have e := Lib.encodeRuneZ_three (r := r) (by omega)
          rw [e] at he hby
          obtain rfl : m = 3 := he.symm
          have b0 := hby 0 (by omega)
          have b1 := hby 1 (by omega)
          have b2 := hby 2 (by omega)
          simp [num, hd] at b0 b1 b2 ⊢
          omega
        · have e := Lib.encodeRuneZ_four (r := r) (by omega) (by omega)
          rw [e] at he hby
          obtain rfl : m = 4 := he.symm
          have b0 := hby 0 (by omega)
          have b1 := hby 1 (by omega)
          have b2 := hby 2 (by omega)
          have b3 := hby 3 (by omega)
          simp [num, hd] at b0 b1 b2 b3 ⊢
          omega
  refine ⟨by omega, by omega, hle, ?_, ?_, ?_⟩
  · rw [hn]; exact h1
  · rw [hn]; exact he
  · rw [hn]; exact hby

/-- no hit at one to four bytes: no point begins here -/
theorem no_hit {L : List UInt8} (h : ∀ k, 1 ≤ k → k ≤ 4 → ¬ Hit L k) : ok L = false := by
  cases ho : ok L with
  | false => rfl
  | true =>
    have hh := dec_hit ho
    exact absurd hh (h _ hh.1 hh.2.1)
theorem no_hit_short {L : List UInt8} {m : Nat} (h : ∀ k, 1 ≤ k → k < m → ¬ Hit L k) (hm : L.length < m) : ok L = false :=
  no_hit fun k h1 _ hh => by
    by_cases hk : k < m
    · exact h k h1 hk hh
    · have := hh.2.2.1; omega
end Go.Proofs.YtgiapdmoiaiofaaDoor.Pl
