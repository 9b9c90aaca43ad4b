/- An integer's text within a text: plain mathematics. -/
import Derived.Test.YtnenipgpncomeaaDoorTokRaw
import Derived.Test.YtnenipgpncomeaaDoorItoa
namespace Go.Proofs.YtnenipgpncomeaaDoor.Tk
open Pl

theorem bt_get {S : ByteArray} {p k : Nat} {T R : List UInt8} (h : S.data.toList.drop p = T ++ R) (hk : k < T.length) : bt S (p + k) = T[k].toNat := by
  have h1 : S.data.toList[p + k]? = some T[k] := by
    have := congrArg (fun l => l[k]?) h
    simpa [List.getElem?_drop, List.getElem?_append_left hk, List.getElem?_eq_getElem hk] using this
  unfold bt
  rw [List.getD_eq_getElem?_getD, h1]; rfl
theorem bt_next {S : ByteArray} {p : Nat} {T : List UInt8} {c : UInt8} {r : List UInt8} (h : S.data.toList.drop p = T ++ c :: r) : bt S (p + T.length) = c.toNat := bt_of (drop_next h)
theorem size_of {S : ByteArray} {p : Nat} {T : List UInt8} (h : S.data.toList.drop p = T) (hT : T ≠ []) : S.size = p + T.length := by
  have := congrArg List.length h
  rw [List.length_drop, size_toList] at this
  have hl := List.length_pos_iff.2 hT
  omega
/-- a run that ends where it ends -/
theorem span_is {p : Nat → Bool} {S : ByteArray} : ∀ (n i : Nat), i + n ≤ S.size → (∀ k, k < n → p (bt S (i + k)) = true) → p (bt S (i + n)) = false → span p S i = i + n := by
  intro n
  induction n with
  | zero => intro i _ _ h; exact span_no h
  | succ n ih =>
    intro i h1 h2 h3
    rw [span_yes (by omega) (by have := h2 0 (by omega); exact this), ih (i + 1) (by omega) (fun k hk => by have := h2 (k + 1) (by omega); rwa [show i + (k + 1) = i + 1 + k by omega] at this) (by rwa [show i + (n + 1) = i + 1 + n by omega] at h3)]
    omega
theorem dig_of {S : ByteArray} {p k : Nat} {T R : List UInt8} (h : S.data.toList.drop p = T ++ R) (hk : k < T.length) : isDg (bt S (p + k)) = De.isDig T[k] := by
  rw [bt_get h hk, Bool.eq_iff_iff, De.dig_iff, isDg_iff]
/-- where a number's text stands, its integer's part is it -/
theorem int_of {S : ByteArray} {a : Nat} {T R : List UInt8} (hs : S.data.toList.drop a = T ++ R) (hf : De.form T = true) (hR : isDg (bt S (a + T.length)) = false) : intB S a = true ∧ intE S a = a + T.length := by
  have hsz : a + T.length ≤ S.size := by
    have := congrArg List.length hs
    rw [List.length_drop, size_toList, List.length_append] at this
    obtain ⟨h1, _⟩ := De.form_digs hf
    have : T ≠ [] := by rintro rfl; exact h1 rfl
    have := List.length_pos_iff.2 this
    omega
  -- the digits behind a sign
  have key : ∀ (f : Nat) (D : List UInt8), S.data.toList.drop f = D ++ R → De.formD D = true → isDg (bt S (f + D.length)) = false → signE S a = f → f + D.length ≤ S.size → intB S a = true ∧ intE S a = f + D.length := by
    intro f D hd hD hr hsg hle
    unfold De.formD at hD
    simp only [Bool.and_eq_true, Bool.not_eq_true', Bool.or_eq_true, decide_eq_true_eq] at hD
    obtain ⟨⟨h1, h2⟩, h3⟩ := hD
    have hl : 0 < D.length := by
      cases D with
      | nil => cases h1
      | cons c D => exact Nat.succ_pos _
    have hall : ∀ k, k < D.length → isDg (bt S (f + k)) = true := fun k hk => by
      rw [dig_of hd hk]
      exact List.all_eq_true.1 h2 _ (List.getElem_mem hk)
    refine ⟨by unfold intB; rw [hsg]; exact hall 0 hl, ?_⟩
    by_cases h48 : bt S f = 48
    · rw [intE_zero (by rw [hsg]; exact h48), hsg]
      rcases h3 with h3 | h3
      · rw [h3]
      · exfalso
        have e0 := bt_get hd hl
        rw [Nat.add_zero, h48] at e0
        cases D with
        | nil => simp at hl
        | cons c D =>
          simp only [List.head?_cons] at h3
          have : c = 48 := UInt8.toNat_inj.1 (by simpa using e0.symm)
          rw [this] at h3
          simp at h3
    · rw [intE_sign (by rw [hsg]; exact h48), hsg]
      exact span_is D.length f hle hall hr
  by_cases h45 : T.head? = some 45
  · obtain ⟨D, rfl⟩ : ∃ D, T = 45 :: D := by
      cases T with
      | nil => cases h45
      | cons c D => simp at h45; exact ⟨D, by rw [h45]⟩
    have hb : bt S a = 45 := bt_of hs
    have hsg : signE S a = a + 1 := by unfold signE; rw [if_pos hb]
    have hd : S.data.toList.drop (a + 1) = D ++ R := drop_next (a := [45]) hs
    have hfd : De.formD D = true := hf
    have hlen : (45 :: D : List UInt8).length = D.length + 1 := rfl
    obtain ⟨x, y⟩ := key (a + 1) D hd hfd (by rw [hlen] at hR; rwa [show a + 1 + D.length = a + (D.length + 1) by omega]) hsg (by rw [hlen] at hsz; omega)
    exact ⟨x, by rw [y, hlen]; omega⟩
  · have hfd : De.formD T = true := by
      have : De.digs T = T := by unfold De.digs; rw [if_neg h45]
      unfold De.form at hf
      rwa [this] at hf
    have hsg : signE S a = a := by
      unfold signE
      rw [if_neg]
      intro h
      cases T with
      | nil => cases hfd
      | cons c D =>
        apply h45
        have := bt_of (r := D ++ R) hs
        rw [h] at this
        have : c = 45 := UInt8.toNat_inj.1 (by simpa using this.symm)
        rw [this]; rfl
    exact key a T hs hfd hR hsg hsz
theorem sub_of {S : ByteArray} {a : Nat} {T R : List UInt8} (hs : S.data.toList.drop a = T ++ R) : (sub S a (a + T.length)).data.toList = T := by
  rw [sub_list, hs, Nat.add_sub_cancel_left, List.take_left]
theorem head_num {T : List UInt8} (hf : De.form T = true) : ∃ c D, T = c :: D ∧ (c.toNat = 45 ∨ isDg c.toNat = true) := by
  cases T with
  | nil => cases hf
  | cons c D =>
    refine ⟨c, D, rfl, ?_⟩
    by_cases h : c = 45
    · left; rw [h]; rfl
    · right
      have hd : De.digs (c :: D) = c :: D := by unfold De.digs; rw [if_neg (by simp [h])]
      obtain ⟨_, h2⟩ := De.form_digs hf
      rw [hd] at h2
      have := (De.dig_iff c).1 (h2 c List.mem_cons_self)
      exact isDg_iff.2 this
/-- the token at a number's text -/
theorem next_num {S : ByteArray} {i a : Nat} {T R : List UInt8} (ha : span isBl S i = a) (hs : S.data.toList.drop a = T ++ R) (hf : De.form T = true) : next S i = numAns S a := by
  obtain ⟨c, D, rfl, hc⟩ := head_num hf
  have hb : bt S a = c.toNat := bt_of hs
  have hl : a < S.size := lt_of_bt (by rcases hc with hc | hc; omega; have := isDg_iff.1 hc; omega)
  unfold next
  rw [ha]
  unfold ansAt
  rw [hb]
  have hx : c.toNat = 45 ∨ (48 ≤ c.toNat ∧ c.toNat ≤ 57) := hc.imp id isDg_iff.1
  rw [if_neg (by omega), if_neg (by unfold isMark; simp; omega), if_neg (by omega), if_pos hc]
/-- blanks, an integer's text, blanks -/
theorem all_num {S : ByteArray} {m j : Nat} {c : UInt8} {T : List UInt8} {n : Int} (hc : isBl c.toNat = true) (hS : S.data.toList = List.replicate m c ++ (T ++ List.replicate j c)) (hf : De.form T = true) (hn : De.numL T = n) (h64 : In64 n) :
    all S 0 [] = .toks [⟨3, nix, n, m, m + T.length⟩, ⟨0, nix, 0, S.size, S.size⟩] := by
  have hsz : S.size = m + (T.length + j) := by
    have := congrArg List.length hS
    rw [size_toList] at this
    simpa using this
  have hd : S.data.toList.drop m = T ++ List.replicate j c := by
    have := drop_next (S := S) (p := 0) (a := List.replicate m c) hS
    simpa using this
  obtain ⟨h0, T', rfl, hh⟩ := head_num hf
  have hbm : bt S m = h0.toNat := bt_of hd
  have hnb : isBl (bt S m) = false := by
    rw [hbm, ← Bool.not_eq_true, isBl_iff]
    rcases hh with hh | hh
    · omega
    · have := isDg_iff.1 hh; omega
  have hs0 : span isBl S 0 = m := by
    have := span_is (p := isBl) (S := S) m 0 (by omega) (fun k hk => by
      rw [bt_get (p := 0) (T := List.replicate m c) (k := k) hS (by simpa using hk)]
      simpa using hc) (by rw [Nat.zero_add]; exact hnb)
    rw [this]; omega
  generalize hTT : h0 :: T' = T at *
  -- what stands behind the number
  have hbe : bt S (m + T.length) = 0 ∨ isBl (bt S (m + T.length)) = true := by
    rcases Nat.eq_zero_or_pos j with hj | hj
    · left; exact bt_end (by omega)
    · right
      obtain ⟨j, rfl⟩ : ∃ i, j = i + 1 := ⟨j - 1, by omega⟩
      rw [bt_next (r := List.replicate j c) (by rw [hd, List.replicate_succ])]
      exact hc
  have hE : isDg (bt S (m + T.length)) = false ∧ bt S (m + T.length) ≠ 46 ∧ isE (bt S (m + T.length)) = false := by
    rcases hbe with h | h
    · rw [h]; decide
    · have := isBl_iff.1 h
      refine ⟨isDg_no.2 (.inl (by omega)), by omega, ?_⟩
      rcases this with h | h | h | h <;> rw [h] <;> rfl
  obtain ⟨i1, i2⟩ := int_of hd hf hE.1
  have f2 : fracE S (m + T.length) = m + T.length := by unfold fracE; rw [if_neg hE.2.1]
  have f1 : fracB S (m + T.length) = true := by unfold fracB; rw [beq_eq_false_iff_ne.2 hE.2.1]; rfl
  have x2 : expE S (m + T.length) = m + T.length := by unfold expE; rw [hE.2.2]; rfl
  have x1 : expB S (m + T.length) = true := by unfold expB; rw [hE.2.2]; rfl
  have hnum : numAns S m = .tok ⟨3, nix, n, m, m + T.length⟩ := by
    unfold numAns
    rw [i1, i2, f1, f2, x1, x2, sub_of hd, hn]
    rw [if_neg (by decide), if_neg (by decide), if_neg (by decide), if_neg (by omega), if_pos h64]
  have hn1 := (next_num hs0 hd hf).trans hnum
  rw [all_more (Nat.zero_le _) hn1 (show (3 : Int) ≠ 0 by decide)]
  have hend : span isBl S (m + T.length) = S.size := by
    rw [hsz, span_is (p := isBl) (S := S) j (m + T.length) (by omega) (fun k hk => ?_) (by rw [bt_end (by omega)]; rfl)]
    · omega
    · have h9 := drop_next hd
      rw [bt_get (R := []) (p := m + T.length) (T := List.replicate j c) (k := k) (by rw [h9, List.append_nil]) (by simpa using hk)]
      simpa using hc
  have hn2 : next S (m + T.length) = .tok ⟨0, nix, 0, S.size, S.size⟩ := by
    unfold next
    rw [hend]
    unfold ansAt
    rw [if_pos (Nat.le_refl _)]
  exact all_end (by show m + T.length ≤ S.size; omega) hn2 rfl
/-- blanks, an integer's text, noughts of a fraction or of an exponent -/
theorem all_frac {S : ByteArray} {m : Nat} {c : UInt8} {T : List UInt8} (b : Bool) (hc : isBl c.toNat = true) (hS : S.data.toList = List.replicate m c ++ (T ++ (if b then [46, 48] else [69, 43, 48, 48]))) (hf : De.form T = true) :
    all S 0 [] = .bad m 4 := by
  have hd : S.data.toList.drop m = T ++ (if b then [46, 48] else [69, 43, 48, 48]) := by
    have := drop_next (S := S) (p := 0) (a := List.replicate m c) hS
    simpa using this
  obtain ⟨h0, T', rfl, hh⟩ := head_num hf
  have hbm : bt S m = h0.toNat := bt_of hd
  have hnb : isBl (bt S m) = false := by
    rw [hbm, ← Bool.not_eq_true, isBl_iff]
    rcases hh with hh | hh
    · omega
    · have := isDg_iff.1 hh; omega
  have hml : m < S.size := lt_of_bt (by rw [hbm]; rcases hh with hh | hh; omega; have := isDg_iff.1 hh; omega)
  have hs0 : span isBl S 0 = m := by
    have := span_is (p := isBl) (S := S) m 0 (by omega) (fun k hk => by
      rw [bt_get (p := 0) (T := List.replicate m c) (k := k) hS (by simpa using hk)]
      simpa using hc) (by rw [Nat.zero_add]; exact hnb)
    rw [this]; omega
  generalize hTT : h0 :: T' = T at *
  have hnum : numAns S m = .err m 4 := by
    have h9 := drop_next hd
    cases b with
    | true =>
      have e0 : bt S (m + T.length) = 46 := bt_of h9
      have e1 : bt S (m + T.length + 1) = 48 := bt_get (p := m + T.length) (T := [46, 48]) (R := []) (k := 1) (by rw [h9]; rfl) (by decide)
      have hz : S.size = m + T.length + 2 := size_of h9 (by decide)
      obtain ⟨i1, i2⟩ := int_of hd hf (by rw [e0]; rfl)
      have e2 : bt S (m + T.length + 1 + 1) = 0 := bt_end (by omega)
      have f2 : fracE S (m + T.length) = m + T.length + 2 := by
        unfold fracE
        rw [if_pos e0, span_is (p := isDg) 1 (m + T.length + 1) (by omega) (fun k hk => by rw [show k = 0 by omega, Nat.add_zero, e1]; rfl) (by rw [e2]; rfl)]
      have f1 : fracB S (m + T.length) = true := by unfold fracB; rw [e0, e1]; rfl
      have e3 : bt S (m + T.length + 2) = 0 := bt_end (by omega)
      have x2 : expE S (m + T.length + 2) = m + T.length + 2 := by unfold expE; rw [e3]; rfl
      have x1 : expB S (m + T.length + 2) = true := by unfold expB; rw [e3]; rfl
      unfold numAns
      rw [i1, i2, f1, f2, x1, x2, if_neg (by decide), if_neg (by decide), if_neg (by decide), if_pos (by omega)]
    | false =>
      have e0 : bt S (m + T.length) = 69 := bt_of h9
      have g : ∀ k (hk : k < 4), bt S (m + T.length + k) = ([69, 43, 48, 48] : List UInt8)[k].toNat := fun k hk => bt_get (p := m + T.length) (T := [69, 43, 48, 48]) (R := []) (k := k) (by rw [h9]; rfl) hk
      have e1 : bt S (m + T.length + 1) = 43 := g 1 (by decide)
      have e2 : bt S (m + T.length + 2) = 48 := g 2 (by decide)
      have e3 : bt S (m + T.length + 3) = 48 := g 3 (by decide)
      have hz : S.size = m + T.length + 4 := size_of h9 (by decide)
      obtain ⟨i1, i2⟩ := int_of hd hf (by rw [e0]; rfl)
      have f2 : fracE S (m + T.length) = m + T.length := by unfold fracE; rw [if_neg (by omega)]
      have f1 : fracB S (m + T.length) = true := by unfold fracB; rw [e0]; rfl
      have xs : expS S (m + T.length) = m + T.length + 2 := by unfold expS; rw [e1]; rfl
      have x1 : expB S (m + T.length) = true := by unfold expB; rw [e0, xs, e2]; rfl
      have x2 : expE S (m + T.length) = m + T.length + 4 := by
        unfold expE
        rw [e0, xs]
        rw [if_pos (by rfl), span_is (p := isDg) 2 (m + T.length + 2) (by omega) (fun k hk => by
          rcases (by omega : k = 0 ∨ k = 1) with rfl | rfl
          · rw [Nat.add_zero, e2]; rfl
          · rw [show m + T.length + 2 + 1 = m + T.length + 3 by omega, e3]; rfl) (by rw [bt_end (by omega)]; rfl)]
      unfold numAns
      rw [i1, i2, f1, f2, x1, x2, if_neg (by decide), if_neg (by decide), if_neg (by decide), if_pos (by omega)]
  exact all_bad (Nat.zero_le _) ((next_num hs0 hd hf).trans hnum)
end Go.Proofs.YtnenipgpncomeaaDoor.Tk
