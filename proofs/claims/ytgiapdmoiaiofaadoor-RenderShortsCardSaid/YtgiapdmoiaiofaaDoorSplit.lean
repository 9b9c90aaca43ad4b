/- Plain mathematics: any bytes are the bytes of some points, and a rest at which no point begins. -/
import Derived.Test.YtgiapdmoiaiofaaDoorPlain
namespace Go.Proofs.YtgiapdmoiaiofaaDoor.Pl

def flat (l : List Int) : List UInt8 := l.flatMap Lib.encodeRune
theorem flat_nil : flat [] = [] := rfl
theorem flat_cons (x : Int) (l : List Int) : flat (x :: l) = Lib.encodeRune x ++ flat l := by simp [flat]
theorem flat_append (l m : List Int) : flat (l ++ m) = flat l ++ flat m := by simp [flat]

theorem enc_len (r : Int) : 1 ≤ (Lib.encodeRune r).length ∧ (Lib.encodeRune r).length ≤ 4 := by
  have := Lib.encodeRuneZ_length r
  simpa [Lib.encodeRune] using this

/-- The bytes S are those of the points l, and behind them R, at which no point begins. -/
def Split (S : List UInt8) (l : List Int) (R : List UInt8) : Prop := S = flat l ++ R ∧ ok R = false ∧ ∀ x ∈ l, pt x = true

theorem split_ex : ∀ (n : Nat) (S : List UInt8), S.length ≤ n → ∃ l R, Split S l R := by
  intro n
  induction n with
  | zero =>
    intro S h
    obtain rfl : S = [] := List.eq_nil_of_length_eq_zero (by omega)
    exact ⟨[], [], rfl, rfl, by simp⟩
  | succ n ih =>
    intro S h
    cases ho : ok S with
    | false => exact ⟨[], S, rfl, ho, by simp⟩
    | true =>
      obtain ⟨h1, h2, h3⟩ := enc_of_ok S ho
      have hl := (enc_len ((decL S).1 : Int)).1
      obtain ⟨l, R, e1, e2, e3⟩ := ih (S.drop (decL S).2) (by rw [List.length_drop]; omega)
      refine ⟨((decL S).1 : Int) :: l, R, ?_, e2, ?_⟩
      · rw [flat_cons, List.append_assoc, ← e1]; exact h2
      · intro x hx
        rcases List.mem_cons.1 hx with rfl | hx
        · exact h1
        · exact e3 x hx

/-- where the k-th point begins -/
def off (l : List Int) (k : Nat) : Nat := (flat (l.take k)).length
theorem off_zero (l : List Int) : off l 0 = 0 := rfl
theorem off_all (l : List Int) : off l l.length = (flat l).length := by simp [off]
theorem off_succ (l : List Int) (k : Nat) (h : k < l.length) : off l (k + 1) = off l k + (Lib.encodeRune (l.getD k 0)).length := by
  unfold off
  rw [List.take_succ_eq_append_getElem h, flat_append, List.length_append]
  simp [flat, List.getElem?_eq_getElem h]
theorem off_lt (l : List Int) (k : Nat) (h : k < l.length) : off l k < off l (k + 1) := by
  rw [off_succ l k h]; have := (enc_len (l.getD k 0)).1; omega
theorem off_le (l : List Int) (k : Nat) : off l k ≤ (flat l).length := by
  have : flat l = flat (l.take k) ++ flat (l.drop k) := by rw [← flat_append, List.take_append_drop]
  rw [this, List.length_append]; unfold off; omega
theorem len_le (l : List Int) : l.length ≤ (flat l).length := by
  induction l with
  | nil => simp
  | cons x l ih => rw [flat_cons, List.length_append, List.length_cons]; have := (enc_len x).1; omega
theorem le_off (l : List Int) (k : Nat) (h : k ≤ l.length) : k ≤ off l k := by
  have := len_le (l.take k)
  rw [List.length_take] at this
  unfold off; omega

theorem drop_off (l : List Int) (R : List UInt8) (k : Nat) : (flat l ++ R).drop (off l k) = flat (l.drop k) ++ R := by
  have : flat l = flat (l.take k) ++ flat (l.drop k) := by rw [← flat_append, List.take_append_drop]
  rw [this, List.append_assoc, off, List.drop_left]
theorem drop_all (l : List Int) (R : List UInt8) : (flat l ++ R).drop (flat l).length = R := List.drop_left
theorem drop_at (l : List Int) (R : List UInt8) (k : Nat) (h : k < l.length) :
    (flat l ++ R).drop (off l k) = Lib.encodeRune (l.getD k 0) ++ (flat (l.drop (k + 1)) ++ R) := by
  rw [drop_off, List.drop_eq_getElem_cons h, flat_cons, List.append_assoc]
  simp [List.getElem?_eq_getElem h]

section
variable {s : ByteArray} {l : List Int} {R : List UInt8}
theorem Split.size (h : Split s.data.toList l R) : s.size = (flat l).length + R.length := by
  have := congrArg List.length h.1
  rw [List.length_append, Array.length_toList] at this
  exact this
theorem Split.ptAt (h : Split s.data.toList l R) {k : Nat} (hk : k < l.length) : pt (l.getD k 0) = true := by
  apply h.2.2
  rw [List.getD_eq_getElem?_getD, List.getElem?_eq_getElem hk]
  exact List.getElem_mem hk
theorem Split.dec (h : Split s.data.toList l R) {k : Nat} (hk : k < l.length) :
    Utf8.decode s (off l k) = ((l.getD k 0).toNat, (Lib.encodeRune (l.getD k 0)).length) ∧ ok (s.data.toList.drop (off l k)) = true := by
  rw [decode_eq, h.1, drop_at l R k hk]
  exact ok_of_enc _ _ (h.ptAt hk)
theorem Split.bad (h : Split s.data.toList l R) (hR : R ≠ []) : (Utf8.decode s (flat l).length).1 = 65533 ∧ fffd (s.data.toList.drop (flat l).length) = false := by
  rw [decode_eq, h.1, drop_all]
  have h2 := h.2.1
  cases R with
  | nil => exact absurd rfl hR
  | cons a T =>
    simp [ok] at h2
    exact h2

/-- What a range over the bytes finds where the k-th point begins. -/
theorem Split.step (h : Split s.data.toList l R) {k : Nat} (hk : k < l.length) :
    (Utf8.decode s (off l k)).1 = (l.getD k 0).toNat ∧ off l k + (Utf8.decode s (off l k)).2 = off l (k + 1) ∧ off l k < s.size ∧ off l k < off l (k + 1) ∧ off l (k + 1) ≤ s.size ∧
      (l.getD k 0).toNat ≤ 1114111 ∧ ((((l.getD k 0).toNat : Nat) : Int) = l.getD k 0) ∧ ((l.getD k 0).toNat = 65533 → fffd (s.data.toList.drop (off l k)) = true) := by
  have hd := h.dec hk
  have hoff := off_succ l k hk
  have hle := off_le l (k + 1)
  have hlt := off_lt l k hk
  have hsz := h.size
  have hp := (pt_iff _).1 (h.ptAt hk)
  refine ⟨by rw [hd.1], by rw [hd.1, hoff], by omega, hlt, by omega, by omega, by omega, ?_⟩
  intro e
  have h2 := hd.2
  have h1 := congrArg Prod.fst hd.1
  rw [decode_eq] at h1
  simp only [ok, h1, e] at h2
  simp at h2
  exact h2.2
end
end Go.Proofs.YtgiapdmoiaiofaaDoor.Pl
