/- Plain mathematics: texts stand in the order of their bytes just as their points do. -/
import Derived.Test.YteelelbkbhlilaaSplit
namespace Go.Proofs.Yteelelbkbhlilaa.Pl
open Go.Op (bytesLess)

theorem bl_cons (x y : Int) (hx : 0 ≤ x ∧ x < 256) (hy : 0 ≤ y ∧ y < 256) (p q : List UInt8) :
    bytesLess (x.toNat.toUInt8 :: p) (y.toNat.toUInt8 :: q) = true ↔ x < y ∨ (x = y ∧ bytesLess p q = true) := by
  have e1 := b8 x hx.1 hx.2
  have e2 := b8 y hy.1 hy.2
  have lt : (x.toNat.toUInt8 < y.toNat.toUInt8) ↔ x < y := by rw [UInt8.lt_iff_toNat_lt, e1, e2]; omega
  have eq : (x.toNat.toUInt8 = y.toNat.toUInt8) ↔ x = y := by rw [← UInt8.toNat_inj, e1, e2]; omega
  simp only [bytesLess, Bool.or_eq_true, Bool.and_eq_true, decide_eq_true_eq, beq_iff_eq, lt, eq]

theorem bl_append (P u v : List UInt8) : bytesLess (P ++ u) (P ++ v) = bytesLess u v := by
  induction P with
  | nil => rfl
  | cons a P ih =>
    have : ¬ a < a := by rw [UInt8.lt_iff_toNat_lt]; omega
    simp [bytesLess, this, ih]

theorem bl_enc (x y : Int) (hx : pt x = true) (hy : pt y = true) (h : x < y) (u v : List UInt8) :
    bytesLess (Lib.encodeRune x ++ u) (Lib.encodeRune y ++ v) = true ∧ ¬ bytesLess (Lib.encodeRune y ++ v) (Lib.encodeRune x ++ u) = true := by
  have px := (pt_iff x).1 hx
  have py := (pt_iff y).1 hy
  unfold Lib.encodeRune
  by_cases a1 : x ≤ 127
  · rw [Lib.encodeRuneZ_one (r := x) (by omega) a1]
    by_cases b1 : y ≤ 127
    · rw [Lib.encodeRuneZ_one (r := y) (by omega) b1]
      simp only [List.map_cons, List.map_nil, List.cons_append, List.nil_append]
      repeat rw [bl_cons _ _ (by omega) (by omega)]
      omega
    · by_cases b2 : y ≤ 2047
      · rw [Lib.encodeRuneZ_two (r := y) (by omega) b2]
        simp only [List.map_cons, List.map_nil, List.cons_append, List.nil_append]
        repeat rw [bl_cons _ _ (by omega) (by omega)]
        omega
      · by_cases b3 : y ≤ 65535
        · rw [Lib.encodeRuneZ_three (r := y) (by omega)]
          simp only [List.map_cons, List.map_nil, List.cons_append, List.nil_append]
          repeat rw [bl_cons _ _ (by omega) (by omega)]
          omega
        · rw [Lib.encodeRuneZ_four (r := y) (by omega) (by omega)]
          simp only [List.map_cons, List.map_nil, List.cons_append, List.nil_append]
          repeat rw [bl_cons _ _ (by omega) (by omega)]
          omega
  · by_cases a2 : x ≤ 2047
    · rw [Lib.encodeRuneZ_two (r := x) (by omega) a2]
      by_cases b2 : y ≤ 2047
      · rw [Lib.encodeRuneZ_two (r := y) (by omega) b2]
        simp only [List.map_cons, List.map_nil, List.cons_append, List.nil_append]
        repeat rw [bl_cons _ _ (by omega) (by omega)]
        omega
      · by_cases b3 : y ≤ 65535
        · rw [Lib.encodeRuneZ_three (r := y) (by omega)]
          simp only [List.map_cons, List.map_nil, List.cons_append, List.nil_append]
          repeat rw [bl_cons _ _ (by omega) (by omega)]
          omega
        · rw [Lib.encodeRuneZ_four (r := y) (by omega) (by omega)]
          simp only [List.map_cons, List.map_nil, List.cons_append, List.nil_append]
          repeat rw [bl_cons _ _ (by omega) (by omega)]
          omega
    · by_cases a3 : x ≤ 65535
      · rw [Lib.encodeRuneZ_three (r := x) (by omega)]
        by_cases b3 : y ≤ 65535
        · rw [Lib.encodeRuneZ_three (r := y) (by omega)]
          simp only [List.map_cons, List.map_nil, List.cons_append, List.nil_append]
          repeat rw [bl_cons _ _ (by omega) (by omega)]
          omega
        · rw [Lib.encodeRuneZ_four (r := y) (by omega) (by omega)]
          simp only [List.map_cons, List.map_nil, List.cons_append, List.nil_append]
          repeat rw [bl_cons _ _ (by omega) (by omega)]
          omega
      · rw [Lib.encodeRuneZ_four (r := x) (by omega) (by omega), Lib.encodeRuneZ_four (r := y) (by omega) (by omega)]
        simp only [List.map_cons, List.map_nil, List.cons_append, List.nil_append]
        repeat rw [bl_cons _ _ (by omega) (by omega)]
        omega

/-- Behind k points that are the same in both: what comes next decides. -/
theorem bl_at (l m : List Int) (k : Nat) (hk : k ≤ l.length) (hk' : k ≤ m.length) (he : ∀ j, j < k → l.getD j 0 = m.getD j 0) :
    bytesLess (flat l) (flat m) = bytesLess (flat (l.drop k)) (flat (m.drop k)) := by
  have ht : l.take k = m.take k := by
    apply List.ext_getElem
    · simp; omega
    · intro i h1 h2
      have hi : i < k := by simp at h1; omega
      have := he i hi
      rw [List.getD_eq_getElem?_getD, List.getD_eq_getElem?_getD, List.getElem?_eq_getElem (by omega), List.getElem?_eq_getElem (by omega)] at this
      simpa using this
  have h1 : flat l = flat (l.take k) ++ flat (l.drop k) := by rw [← flat_append, List.take_append_drop]
  have h2 : flat m = flat (l.take k) ++ flat (m.drop k) := by rw [ht, ← flat_append, List.take_append_drop]
  rw [h1, h2, bl_append]
theorem bl_end (l m : List Int) (k : Nat) (hk : k ≤ l.length) (hk' : m.length = k) (he : ∀ j, j < k → l.getD j 0 = m.getD j 0) : bytesLess (flat l) (flat m) = false := by
  rw [bl_at l m k hk (by omega) he, List.drop_eq_nil_of_le (as := m) (by omega), flat_nil]
  cases flat (l.drop k) <;> rfl
theorem bl_short (l m : List Int) (k : Nat) (hk : l.length = k) (hk' : k < m.length) (he : ∀ j, j < k → l.getD j 0 = m.getD j 0) : bytesLess (flat l) (flat m) = true := by
  rw [bl_at l m k (by omega) (by omega) he, List.drop_eq_nil_of_le (as := l) (by omega), flat_nil, List.drop_eq_getElem_cons hk', flat_cons]
  have := (enc_len m[k]).1
  cases hE : Lib.encodeRune m[k] with
  | nil => rw [hE] at this; simp at this
  | cons a p => rfl
theorem bl_less (l m : List Int) (k : Nat) (hk : k < l.length) (hk' : k < m.length) (he : ∀ j, j < k → l.getD j 0 = m.getD j 0) (hl : ∀ x ∈ l, pt x = true) (hm : ∀ x ∈ m, pt x = true) :
    (l.getD k 0 < m.getD k 0 → bytesLess (flat l) (flat m) = true) ∧ (m.getD k 0 < l.getD k 0 → bytesLess (flat l) (flat m) = false) := by
  rw [bl_at l m k (by omega) (by omega) he, List.drop_eq_getElem_cons hk, List.drop_eq_getElem_cons hk', flat_cons, flat_cons]
  rw [List.getD_eq_getElem?_getD, List.getD_eq_getElem?_getD, List.getElem?_eq_getElem hk, List.getElem?_eq_getElem hk']
  simp only [Option.getD_some]
  have p1 := hl _ (List.getElem_mem hk)
  have p2 := hm _ (List.getElem_mem hk')
  exact ⟨fun h => (bl_enc _ _ p1 p2 h _ _).1, fun h => by
    have := (bl_enc _ _ p2 p1 h (flat (m.drop (k + 1))) (flat (l.drop (k + 1)))).2
    simpa using this⟩
end Go.Proofs.Yteelelbkbhlilaa.Pl
