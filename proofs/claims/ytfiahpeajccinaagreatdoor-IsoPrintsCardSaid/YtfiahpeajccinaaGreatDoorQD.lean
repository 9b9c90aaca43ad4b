/- Just a name is a var by itself: plain mathematics. Signs and words as the reference asks for them: plain mathematics. The reference's letters, words and signs: contracts. The reference's words and signs: contracts. The reference's signs: contract of Mark. -/
import Derived.Test.YtfiahpeajccinaaGreatDoorPA
import Derived.Test.YtfiahpeajccinaaGreatDoorQB
namespace Go.Proofs.YtfiahpeajccinaaGreatDoor.Ex
open Tk
set_option linter.unusedVariables false

/-- is a text a name? -/
def isName (s : ByteArray) : Bool := !eqb s nix && decide (wE s 0 = s.size) && !isWord s && decide (argsN s = 0)
theorem size_pos_of {s : ByteArray} (h : s ≠ nix) : 0 < s.size := by
  rcases Nat.eq_zero_or_pos s.size with h0 | h0
  · exfalso; apply h
    obtain ⟨⟨l⟩⟩ := s
    have : l.length = 0 := h0
    rw [List.eq_nil_of_length_eq_zero this]; rfl
  · exact h0
theorem name_iff {s : ByteArray} (h : isName s = true) : 0 < s.size ∧ isLt (bt s 0) = true ∧ wE s 0 = s.size ∧ isWord s = false ∧ argsN s = 0 := by
  unfold isName at h
  simp only [Bool.and_eq_true, Bool.not_eq_true', decide_eq_true_eq] at h
  obtain ⟨⟨⟨h1, h2⟩, h3⟩, h4⟩ := h
  have h0 : 0 < s.size := size_pos_of fun e => by rw [e, eqb_self] at h1; cases h1
  refine ⟨h0, ?_, h2, h3, h4⟩
  cases hl : isLt (bt s 0) with
  | true => rfl
  | false => rw [wE_no hl] at h2; omega
theorem bl_here {s : ByteArray} {i : Nat} (h : isBl (bt s i) = false) : bl s i = i := span_no h
theorem lt_facts {c : Nat} (h : isLt c = true) : isBl c = false ∧ isDg c = false ∧ c ≠ 34 ∧ c ≠ 0 := by
  have h1 := isLt_iff.1 h
  refine ⟨?_, ?_, by omega, by omega⟩
  · cases hb : isBl c with
    | false => rfl
    | true => have := isBl_iff.1 hb; omega
  · rw [isDg_no]; omega
theorem bl_end {s : ByteArray} {i : Nat} (h : s.size ≤ i) : bl s i = i := span_end h
theorem sub_all (s : ByteArray) : sub s 0 s.size = s := by
  have : (sub s 0 s.size).data.toList = s.data.toList := by
    rw [sub_list, List.drop_zero, Nat.sub_zero, List.take_of_length_le (by rw [size_toList]; exact Nat.le_refl _)]
  obtain ⟨⟨x⟩⟩ := s
  generalize sub _ _ _ = u at this
  obtain ⟨⟨y⟩⟩ := u
  simp at this
  rw [this]
theorem has_end {s : ByteArray} {i : Nat} {t : ByteArray} (h : s.size ≤ i) (ht : 1 ≤ t.size) : has s i t = false := by
  cases hh : has s i t with
  | false => rfl
  | true => have := has_le hh; omega
theorem stands_end {s : ByteArray} {i : Nat} {t : ByteArray} (h : s.size ≤ i) (ht : 1 ≤ t.size) : stands s i t = false := by
  unfold stands
  rw [bl_end h, bt_end h, if_neg (by decide), has_end h ht]
theorem btw_end {s : ByteArray} {n i : Nat} (h : s.size ≤ i) : btw s n i = none := by
  unfold btw
  rw [List.find?_eq_none]
  intro t ht
  rw [stands_end h (sg_size ht)]; decide
/-- where a letter stands no sign does -/
theorem stands_lt {s : ByteArray} {i : Nat} {t : ByteArray} (h : isLt (bt s (bl s i)) = true) : stands s i t = eqb (wd s i) t := by unfold stands; rw [if_pos h]
theorem word_first {s : ByteArray} {i : Nat} (hi : i ≤ s.size) (h : isLt (bt s (bl s i)) = true) : ∃ c r, (wd s i).data.toList = c :: r ∧ isLt c.toNat = true := by
  have h1 := lt_lt h
  have h2 := wE_pos h
  have h3 := wE_le (bl_le hi)
  unfold wd
  rw [sub_list, drop_cons h1]
  obtain ⟨n, hn⟩ : ∃ n, wE s (bl s i) - bl s i = n + 1 := ⟨wE s (bl s i) - bl s i - 1, by omega⟩
  rw [hn, List.take_succ_cons]
  exact ⟨_, _, rfl, by rw [bt_at s _ h1]; exact h⟩
theorem stands_sign {s : ByteArray} {i : Nat} {t : ByteArray} (hi : i ≤ s.size) (h : isLt (bt s (bl s i)) = true) (ht : ∀ c ∈ t.data.toList, isLt c.toNat = false) : stands s i t = false := by
  rw [stands_lt h]
  apply eqb_no
  intro e
  obtain ⟨c, r, h1, h2⟩ := word_first hi h
  rw [e] at h1
  rw [ht c (by rw [h1]; exact List.mem_cons_self)] at h2
  cases h2
theorem lev_tail {s : ByteArray} (f : Nat) (e : E) {i : Nat} (h : s.size ≤ i) : prt s (f + 1) e i = .ok e i ∧ ∀ n, chn s (f + 1) n e i = .ok e i := by
  refine ⟨?_, fun n => ?_⟩
  · unfold prt
    rw [if_neg (by rw [stands_end h (by decide)]; decide), if_neg (by rw [stands_end h (by decide)]; decide)]
  · unfold chn
    rw [btw_end h]
/-- what one at the end of the text leads to -/
theorem lev_end {s : ByteArray} {i : Nat} {e : E} {p : Nat} (hi : i ≤ s.size) (hn : stands s i notB = false) (hm : stands s i minusB = false) (h8 : ∀ f, lev s (f + 1) 8 i = .ok e p) (hp : s.size ≤ p) : ∀ f, lev s (f + 9) 0 i = .ok e p := by
  intro f
  have t := fun k e' => lev_tail (s := s) k e' hp
  have h7 : lev s (f + 2) 7 i = .ok e p := by
    unfold lev
    rw [if_neg (by decide), if_neg (by decide), if_pos rfl, h8 f]
    exact (t f e).1
  have h6 : lev s (f + 3) 6 i = .ok e p := by
    unfold lev
    rw [if_neg (by decide), if_pos rfl, if_neg (by rw [hm]; decide)]; exact h7
  have h5 : lev s (f + 4) 5 i = .ok e p := by
    unfold lev
    rw [if_neg (by decide), if_neg (by decide), if_neg (by decide), if_neg (by decide), h6]; exact (t _ e).2 5
  have h4 : lev s (f + 5) 4 i = .ok e p := by
    unfold lev
    rw [if_neg (by decide), if_neg (by decide), if_neg (by decide), if_neg (by decide), h5]; exact (t _ e).2 4
  have h3 : lev s (f + 6) 3 i = .ok e p := by
    unfold lev
    rw [if_neg (by decide), if_neg (by decide), if_neg (by decide), if_neg (by decide), h4]; exact (t _ e).2 3
  have h2 : lev s (f + 7) 2 i = .ok e p := by
    unfold lev
    rw [if_pos rfl, if_neg (by rw [hn]; decide)]; exact h3
  have h1 : lev s (f + 8) 1 i = .ok e p := by
    unfold lev
    rw [if_neg (by decide), if_neg (by decide), if_neg (by decide), if_neg (by decide), h2]; exact (t _ e).2 1
  unfold lev
  rw [if_neg (by decide), if_neg (by decide), if_neg (by decide), if_neg (by decide), h1]; exact (t _ e).2 0
theorem word_ne {s t : ByteArray} (h : isWord s = false) (ht : t ∈ words) : s ≠ t := by
  rintro rfl
  have : isWord s = true := List.any_eq_true.2 ⟨s, ht, eqb_self s⟩
  rw [this] at h; cases h
theorem parse_name {s : ByteArray} (h : isName s = true) (hs : s.size ≤ 2048) : parse s = .ok (.mk varB s Rd.nulT []) 0 := by
  obtain ⟨h0, h1, h2, h3, h4⟩ := name_iff h
  obtain ⟨a1, a2, a3, a4⟩ := lt_facts h1
  have hb : bl s 0 = 0 := bl_here a1
  have hw : wd s 0 = s := by unfold wd; rw [hb, h2]; exact sub_all s
  have hl : isLt (bt s (bl s 0)) = true := by rw [hb]; exact h1
  have hn : stands s 0 notB = false := by
    rw [stands_lt hl, hw]; exact eqb_no (word_ne h3 (by simp [words]))
  have hm : stands s 0 minusB = false := stands_sign (Nat.zero_le _) hl (by decide)
  have h8 : ∀ f, lev s (f + 1) 8 0 = .ok (.mk varB s Rd.nulT []) s.size := by
    intro f
    unfold lev
    rw [if_neg (by decide), if_neg (by decide), if_neg (by decide), if_pos rfl, hb, if_neg (by rw [a2]; decide), if_neg a3, if_pos h1, hw, if_neg (by rw [h3]; decide), if_neg (by rw [h4]; decide), h2]
  unfold parse
  rw [if_neg (by omega)]
  unfold top
  obtain ⟨f, hf⟩ : ∃ f, many s = f + 9 := ⟨many s - 9, by unfold many; omega⟩
  rw [hf, lev_end (Nat.zero_le _) hn hm h8 (Nat.le_refl _) f]
  dsimp only
  rw [bl_end (Nat.le_refl _), if_neg (by omega), if_neg]
  show ¬ 32 < 1 + E.depths []
  decide
end Go.Proofs.YtfiahpeajccinaaGreatDoor.Ex
namespace Go.Proofs.YtfiahpeajccinaaGreatDoor.Ex
open Tk
set_option linter.unusedVariables false

/-- the word behind a place, as the reference tells it -/
def wordT (s : ByteArray) (i : Nat) : ByteArray := if isLt (bt s (bl s i)) = true then wd s i else nix
def wordP (s : ByteArray) (i : Nat) : Nat := if isLt (bt s (bl s i)) = true then wE s (bl s i) else i
/-- the place behind a sign, or -1 -/
def markP (s : ByteArray) (i : Nat) (t : ByteArray) : Int := if has s (bl s i) t = true then ((past s i t : Nat) : Int) else -1
theorem has_first {s : ByteArray} {a : Nat} {c : UInt8} {r : List UInt8} {t : ByteArray} (ht : t.data.toList = c :: r) (h : has s a t = true) : bt s a = c.toNat := by
  unfold has at h
  rw [ht] at h
  rcases Nat.lt_or_ge a s.size with h1 | h1
  · rw [drop_cons h1] at h
    simp only [List.isPrefixOf, Bool.and_eq_true, beq_iff_eq] at h
    rw [← bt_at s a h1, ← h.1]
  · rw [List.drop_eq_nil_of_le (by rw [size_toList]; exact h1)] at h
    simp [List.isPrefixOf] at h
theorem stands_has {s : ByteArray} {i : Nat} {t : ByteArray} (hi : i ≤ s.size) (h0 : t.data.toList ≠ []) (ht : ∀ c ∈ t.data.toList, isLt c.toNat = false) : stands s i t = has s (bl s i) t := by
  by_cases hl : isLt (bt s (bl s i)) = true
  · rw [stands_sign hi hl ht]
    cases hh : has s (bl s i) t with
    | false => rfl
    | true =>
      cases hq : t.data.toList with
      | nil => exact absurd hq h0
      | cons c r =>
        have := has_first hq hh
        rw [this, ht c (by rw [hq]; exact List.mem_cons_self)] at hl
        cases hl
  · unfold stands; rw [if_neg hl]
theorem mark_sign {s : ByteArray} {i : Nat} {t : ByteArray} (hi : i ≤ s.size) (h0 : t.data.toList ≠ []) (ht : ∀ c ∈ t.data.toList, isLt c.toNat = false) : markP s i t = if stands s i t = true then ((past s i t : Nat) : Int) else -1 := by
  unfold markP; rw [stands_has hi h0 ht]
theorem stands_words {s : ByteArray} {i : Nat} {t : ByteArray} {c : UInt8} {r : List UInt8} (hq : t.data.toList = c :: r) (hc : isLt c.toNat = true) : stands s i t = eqb (wordT s i) t := by
  unfold wordT
  by_cases hl : isLt (bt s (bl s i)) = true
  · rw [stands_lt hl, if_pos hl]
  · rw [if_neg hl]
    unfold stands
    rw [if_neg hl, eqb_no (by rintro rfl; cases hq)]
    cases hh : has s (bl s i) t with
    | false => rfl
    | true => rw [has_first hq hh] at hl; exact absurd hc hl
theorem wordP_past {s : ByteArray} {i : Nat} {t : ByteArray} {c : UInt8} {r : List UInt8} (hi : i ≤ s.size) (hq : t.data.toList = c :: r) (hc : isLt c.toNat = true) (h : stands s i t = true) : wordP s i = past s i t := by
  unfold wordP
  by_cases hl : isLt (bt s (bl s i)) = true
  · rw [if_pos hl, (stands_word hi hl h).2]
  · rw [stands_words hq hc] at h
    unfold wordT at h
    rw [if_neg hl, eqb_no (by rintro rfl; cases hq)] at h
    cases h
theorem wordP_le {s : ByteArray} {i : Nat} (hi : i ≤ s.size) : i ≤ wordP s i ∧ wordP s i ≤ s.size := by
  unfold wordP
  split
  · have := bl_ge s i
    have := wE_ge s (bl s i)
    exact ⟨by omega, wE_le (bl_le hi)⟩
  · exact ⟨Nat.le_refl _, hi⟩
end Go.Proofs.YtfiahpeajccinaaGreatDoor.Ex
namespace Go.Proofs.YtfiahpeajccinaaGreatDoor
open Go.RowKit
open Tk Ex
set_option linter.unusedVariables false

set_option maxRecDepth 100000 in
theorem r8letter_any (s : ByteArray) (a : Nat) (w : World) (hs : s.size ≤ 1000000) : Calls Tryz.prog 104 #[.string s, .int .i64 a] w fun e w' => e = .returned (.bool (isLt (bt s a))) ∧ w = w' := by
  by_cases hl : a < s.size
  · have u1 : decide (a < s.size) = true := decide_eq_true hl
    have u2 : decide ((a : Int) < (s.size : Int)) = true := decide_eq_true (by omega)
    have i1 : (a : Int) < (s.size : Int) := by omega
    have i2 : (0 : Int) ≤ (a : Int) := by omega
    have HX := Lib.hid (bt_at s a hl)
    generalize bt s a = z at *
    have hx := HX.out
    by_cases a1 : (97 : Int) ≤ (s[a].toNat : Int) <;> by_cases a2 : (s[a].toNat : Int) ≤ 122 <;> by_cases a3 : (65 : Int) ≤ (s[a].toNat : Int) <;> by_cases a4 : (s[a].toNat : Int) ≤ 90
    all_goals try (exfalso; omega)
    all_goals
      clear hx
      go_enter Tryz.func104, Tryz.ntmps104
      go_wp2_with fail
      go_ret
      have hx := HX.out
      first
        | exact ⟨by rw [show isLt z = true from isLt_iff.2 (by omega)] <;> rfl, rfl⟩
        | exact ⟨by rw [show isLt z = false from isLt_no.2 (by omega)] <;> rfl, rfl⟩
  · have u1 : decide (a < s.size) = false := decide_eq_false hl
    have u2 : decide ((a : Int) < (s.size : Int)) = false := decide_eq_false (by omega)
    have HX := Lib.hid (show isLt (bt s a) = false by rw [bt_end (by omega)]; rfl)
    generalize isLt (bt s a) = z at *
    go_enter Tryz.func104, Tryz.ntmps104
    go_wp2_with fail
    go_ret
    exact ⟨by rw [HX.out] <;> rfl, rfl⟩
set_option maxRecDepth 100000 in
theorem r8digit_any (s : ByteArray) (a : Nat) (w : World) (hs : s.size ≤ 1000000) : Calls Tryz.prog 128 #[.string s, .int .i64 a] w fun e w' => e = .returned (.bool (isDg (bt s a))) ∧ w = w' := by
  by_cases hl : a < s.size
  · have u1 : decide (a < s.size) = true := decide_eq_true hl
    have u2 : decide ((a : Int) < (s.size : Int)) = true := decide_eq_true (by omega)
    have i1 : (a : Int) < (s.size : Int) := by omega
    have i2 : (0 : Int) ≤ (a : Int) := by omega
    have HX := Lib.hid (bt_at s a hl)
    generalize bt s a = z at *
    have hx := HX.out
    by_cases a1 : (48 : Int) ≤ (s[a].toNat : Int) <;> by_cases a2 : (s[a].toNat : Int) ≤ 57
    all_goals try (exfalso; omega)
    all_goals
      clear hx
      go_enter Tryz.func128, Tryz.ntmps128
      go_wp2_with fail
      go_ret
      have hx := HX.out
      first
        | exact ⟨by rw [show isDg z = true from isDg_iff.2 (by omega)] <;> rfl, rfl⟩
        | exact ⟨by rw [show isDg z = false from isDg_no.2 (by omega)] <;> rfl, rfl⟩
  · have u1 : decide (a < s.size) = false := decide_eq_false hl
    have u2 : decide ((a : Int) < (s.size : Int)) = false := decide_eq_false (by omega)
    have HX := Lib.hid (show isDg (bt s a) = false by rw [bt_end (by omega)]; rfl)
    generalize isDg (bt s a) = z at *
    go_enter Tryz.func128, Tryz.ntmps128
    go_wp2_with fail
    go_ret
    exact ⟨by rw [HX.out] <;> rfl, rfl⟩
end Go.Proofs.YtfiahpeajccinaaGreatDoor
namespace Go.Proofs.YtfiahpeajccinaaGreatDoor
open Go.RowKit
open Tk Ex
set_option linter.unusedVariables false

set_option maxRecDepth 100000 in
theorem r8goes_any (s : ByteArray) (a : Nat) (w : World) (hs : s.size ≤ 1000000) : Calls Tryz.prog 105 #[.string s, .int .i64 a] w fun e w' => e = .returned (.bool (goes (bt s a))) ∧ w = w' := by
  have HL := Lib.hid (fun w1 => r8letter_any s a w1 hs)
  have HD := Lib.hid (fun w1 => r8digit_any s a w1 hs)
  have HG := Lib.hid (show goes (bt s a) = ((isLt (bt s a) || bt s a == 95) || isDg (bt s a)) from rfl)
  cases hl : isLt (bt s a) with
  | true =>
    have HR := Lib.hid (show goes (bt s a) = true by rw [HG.out, hl]; rfl)
    rw [hl] at HL
    clear hl
    generalize goes (bt s a) = z at *
    go_enter Tryz.func105, Tryz.ntmps105
    go_wp2_with fail
    refine (HL.out w).mono ?_
    rintro e w2 ⟨rfl, rfl⟩
    go_wp2_with fail
    go_ret
    exact ⟨by rw [HR.out] <;> rfl, rfl⟩
  | false =>
    rw [hl] at HL
    cases hd : isDg (bt s a) with
    | true =>
      have HR := Lib.hid (show goes (bt s a) = true by rw [HG.out, hl, hd]; simp)
      rw [hd] at HD
      clear hl hd
      generalize goes (bt s a) = z at *
      go_enter Tryz.func105, Tryz.ntmps105
      go_wp2_with fail
      refine (HL.out w).mono ?_
      rintro e w2 ⟨rfl, rfl⟩
      go_wp2_with fail
      refine (HD.out w).mono ?_
      rintro e w2 ⟨rfl, rfl⟩
      go_wp2_with fail
      go_ret
      exact ⟨by rw [HR.out] <;> rfl, rfl⟩
    | false =>
      rw [hd] at HD
      have HR1 := Lib.hid (show goes (bt s a) = (bt s a == 95) by rw [HG.out, hl, hd]; simp)
      by_cases hlt : a < s.size
      · have u1 : decide (a < s.size) = true := decide_eq_true hlt
        have u2 : decide ((a : Int) < (s.size : Int)) = true := decide_eq_true (by omega)
        have i1 : (a : Int) < (s.size : Int) := by omega
        have i2 : (0 : Int) ≤ (a : Int) := by omega
        have hb := bt_at s a hlt
        by_cases h95 : bt s a = 95
        · have HR := Lib.hid (show goes (bt s a) = true by rw [HR1.out, h95]; rfl)
          have u3 : ((bt s a : Int) == 95) = true := by rw [h95]; rfl
          have u4 : decide ((bt s a : Int) = 95) = true := by rw [h95]; rfl
          clear h95 hl hd
          generalize goes (bt s a) = z at *
          go_enter Tryz.func105, Tryz.ntmps105
          go_wp2_with fail
          refine (HL.out w).mono ?_
          rintro e w2 ⟨rfl, rfl⟩
          go_wp2_with fail
          refine (HD.out w).mono ?_
          rintro e w2 ⟨rfl, rfl⟩
          go_wp2_with fail
          go_ret
          exact ⟨by rw [HR.out] <;> rfl, rfl⟩
        · have HR := Lib.hid (show goes (bt s a) = false by rw [HR1.out]; simpa using h95)
          have u3 : ((bt s a : Int) == 95) = false := by rw [beq_eq_false_iff_ne]; omega
          have u4 : decide ((bt s a : Int) = 95) = false := decide_eq_false (by omega)
          clear h95 hl hd
          generalize goes (bt s a) = z at *
          go_enter Tryz.func105, Tryz.ntmps105
          go_wp2_with fail
          refine (HL.out w).mono ?_
          rintro e w2 ⟨rfl, rfl⟩
          go_wp2_with fail
          refine (HD.out w).mono ?_
          rintro e w2 ⟨rfl, rfl⟩
          go_wp2_with fail
          go_ret
          exact ⟨by rw [HR.out] <;> rfl, rfl⟩
      · have u1 : decide (a < s.size) = false := decide_eq_false hlt
        have u2 : decide ((a : Int) < (s.size : Int)) = false := decide_eq_false (by omega)
        have HR := Lib.hid (show goes (bt s a) = false by rw [HR1.out, bt_end (by omega)]; rfl)
        clear hl hd
        generalize goes (bt s a) = z at *
        go_enter Tryz.func105, Tryz.ntmps105
        go_wp2_with fail
        refine (HL.out w).mono ?_
        rintro e w2 ⟨rfl, rfl⟩
        go_wp2_with fail
        refine (HD.out w).mono ?_
        rintro e w2 ⟨rfl, rfl⟩
        go_wp2_with fail
        go_ret
        exact ⟨by rw [HR.out] <;> rfl, rfl⟩
set_option maxRecDepth 100000 in
set_option maxHeartbeats 2000000 in
theorem r8word_any (s : ByteArray) (a : Nat) (w : World) (hs : s.size ≤ 1000000) (ha : a ≤ s.size) : Calls Tryz.prog 63 #[.string s, .int .i64 a] w fun e w' => e = .returned (.tuple #[.string (wordT s a), .int .i64 (wordP s a : Nat)]) ∧ w = w' := by
  have HB := Lib.hid (show ∀ w1, Calls Tryz.prog 62 #[.string s, .int .i64 a] w1 (fun e w' => e = .returned (.int .i64 (bl s a : Nat)) ∧ w1 = w') from fun w1 => rblanks_any s a w1 hs (by omega))
  have hq := bl_le ha
  have HT := Lib.hid (show wordT s a = if isLt (bt s (bl s a)) = true then sub s (bl s a) (wE s (bl s a)) else nix from rfl)
  have HQ := Lib.hid (show wordP s a = if isLt (bt s (bl s a)) = true then wE s (bl s a) else a from rfl)
  generalize wordT s a = T at *
  generalize wordP s a = P at *
  generalize bl s a = q at *
  have HL := Lib.hid (fun w1 => r8letter_any s q w1 hs)
  have i0 : (0 : Int) ≤ (q : Int) := by omega
  by_cases hl : isLt (bt s q) = true
  · have hz1 := wE_pos hl
    have hz2 := wE_le (s := s) (a := q) hq
    have HT2 := Lib.hid (HT.out.trans (if_pos hl))
    have HQ2 := Lib.hid (HQ.out.trans (if_pos hl))
    have HWE := Lib.hid (show wE s q = span goes s q by unfold wE; rw [if_pos hl])
    rw [hl] at HL
    clear hl HT HQ
    go_enter Tryz.func63, Tryz.ntmps63
    go_wp2_with fail
    refine (HB.out w).mono ?_
    rintro e w2 ⟨rfl, rfl⟩
    go_wp2_with fail
    refine (HL.out w).mono ?_
    rintro e w2 ⟨rfl, rfl⟩
    go_wp2_with fail
    go_loop [7] (fun i => ∃ k : Nat, q ≤ k ∧ k ≤ span goes s q ∧ i = .int .i64 k) (fun i => span goes s q - (intOf i).toNat)
    case atStart => exact ⟨q, Nat.le_refl _, span_ge _ _ _, rfl⟩
    case round =>
      obtain ⟨k, h1, h2, rfl⟩ := hrel
      have hwe := HWE.out
      have HG := Lib.hid (fun w1 => r8goes_any s k w1 hs)
      have i1 : (0 : Int) ≤ (k : Int) := by omega
      have i2 : (k : Int) ≤ (s.size : Int) := by omega
      by_cases hlt : k < span goes s q
      · rw [span_in (p := goes) h1 hlt] at HG
        have hk := Lib.hid (show k < 1000000 by omega)
        clear hwe
        go_wp2_with fail
        refine (HG.out _).mono ?_
        rintro e w2 ⟨rfl, rfl⟩
        have := hk.out
        go_wp2_with fail
        go_round
        case rel => exact ⟨k + 1, by omega, by omega, by go_num⟩
        case measure => simp only [intOf, Int.toNat_natCast]; go_num
      · obtain rfl : k = span goes s q := by omega
        have hst : goes (bt s (span goes s q)) = false := by
          rcases Nat.lt_or_ge (span goes s q) s.size with h | h
          · exact span_out (p := goes) h
          · rw [bt_end h]; rfl
        rw [hst] at HG
        have HKE := Lib.hid hwe
        clear hwe hst
        generalize span goes s q = k at *
        have i3 : (q : Int) ≤ (k : Int) := by omega
        go_wp2_with fail
        refine (HG.out _).mono ?_
        rintro e w2 ⟨rfl, rfl⟩
        go_wp2_with fail
        refine bodyPost_ret (v := .tuple #[.string (s.extract q k), .int .i64 k]) (by simp [results, Tryz.results63, go_sem]) rfl ⟨?_, rfl⟩
        rw [HT2.out, HQ2.out, HKE.out]
        rfl
  · have HT2 := Lib.hid (HT.out.trans (if_neg hl))
    have HQ2 := Lib.hid (HQ.out.trans (if_neg hl))
    rw [Bool.eq_false_iff.2 hl] at HL
    clear hl HT HQ
    go_enter Tryz.func63, Tryz.ntmps63
    go_wp2_with fail
    refine (HB.out w).mono ?_
    rintro e w2 ⟨rfl, rfl⟩
    go_wp2_with fail
    refine (HL.out w).mono ?_
    rintro e w2 ⟨rfl, rfl⟩
    go_wp2_with fail
    refine bodyPost_ret (v := .tuple #[.string ⟨#[]⟩, .int .i64 a]) (by simp [results, Tryz.results63, go_sem]) rfl ⟨?_, rfl⟩
    rw [HT2.out, HQ2.out]
    rfl
end Go.Proofs.YtfiahpeajccinaaGreatDoor
namespace Go.Proofs.YtfiahpeajccinaaGreatDoor
open Go.RowKit
open Tk Ex
set_option linter.unusedVariables false

theorem has_take (s : ByteArray) (q : Nat) (t : ByteArray) : has s q t = true ↔ t.data.toList = (s.data.toList.drop q).take t.size := by
  unfold has
  rw [List.isPrefixOf_iff_prefix, List.prefix_iff_eq_take, size_toList]
theorem ext_list (s : ByteArray) (q n : Nat) : (s.extract q (q + n)).data.toList = (s.data.toList.drop q).take n := by
  rw [show (s.extract q (q + n)).data.toList = (s.data.toList.drop q).take (q + n - q) from sub_list s q (q + n), Nat.add_sub_cancel_left]
theorem has_eqb (s : ByteArray) (q : Nat) (t : ByteArray) : has s q t = eqb (s.extract q (q + t.size)) t := by
  cases h : has s q t with
  | true =>
    have h1 := (has_take s q t).1 h
    unfold eqb
    rw [ext_list, ← h1]; exact (beq_self_eq_true _).symm
  | false =>
    cases h2 : eqb (s.extract q (q + t.size)) t with
    | false => rfl
    | true =>
      have h3 : (s.extract q (q + t.size)).data.toList = t.data.toList := by unfold eqb at h2; exact beq_iff_eq.1 h2
      rw [ext_list] at h3
      rw [(has_take s q t).2 h3.symm] at h
      cases h
set_option maxRecDepth 100000 in
set_option maxHeartbeats 2000000 in
theorem r8mark_any (s : ByteArray) (a : Nat) (t : ByteArray) (w : World) (hs : s.size ≤ 1000000) (ha : a ≤ s.size) (ht : t.size ≤ 1000) : Calls Tryz.prog 27 #[.string s, .int .i64 a, .string t] w fun e w' => e = .returned (.int .i64 (markP s a t)) ∧ w = w' := by
  have HB := Lib.hid (show ∀ w1, Calls Tryz.prog 62 #[.string s, .int .i64 a] w1 (fun e w' => e = .returned (.int .i64 (bl s a : Nat)) ∧ w1 = w') from fun w1 => rblanks_any s a w1 hs (by omega))
  have hq := bl_le ha
  have HM := Lib.hid (show markP s a t = if has s (bl s a) t = true then ((bl s a + t.size : Nat) : Int) else -1 from rfl)
  generalize markP s a t = M at *
  generalize bl s a = q at *
  have i0 : (0 : Int) ≤ (q : Int) := by omega
  by_cases hlt : s.size < q + t.size
  · have u1 : decide (((q : Int) + (t.size : Int)) > (s.size : Int)) = true := decide_eq_true (by omega)
    have u2 : decide ((s.size : Int) < (q : Int) + (t.size : Int)) = true := decide_eq_true (by omega)
    have HM2 := Lib.hid (show M = -1 by
      rw [HM.out, if_neg]
      intro h
      have := has_le h
      omega)
    clear HM
    go_enter Tryz.func27, Tryz.ntmps27
    go_wp2_with fail
    refine (HB.out w).mono ?_
    rintro e w2 ⟨rfl, rfl⟩
    go_wp2_with fail
    go_ret
    exact ⟨by rw [HM2.out] <;> rfl, rfl⟩
  · have u1 : decide (((q : Int) + (t.size : Int)) > (s.size : Int)) = false := decide_eq_false (by omega)
    have u2 : decide ((s.size : Int) < (q : Int) + (t.size : Int)) = false := decide_eq_false (by omega)
    have i1 : (q : Int) ≤ (q : Int) + (t.size : Int) := by omega
    have i2 : (q : Int) + (t.size : Int) ≤ (s.size : Int) := by omega
    have i3 : (0 : Int) ≤ (q : Int) + (t.size : Int) := by omega
    have c1 : ((q : Int) + (t.size : Int)).toNat = q + t.size := by omega
    have HE := Lib.hid (has_eqb s q t)
    cases hh : has s q t with
    | true =>
      have HM2 := Lib.hid (show M = ((q + t.size : Nat) : Int) by rw [HM.out, if_pos hh])
      have v1 : ((s.extract q (q + t.size)).toList == t.toList) = true := by rw [tl_eqb, ← HE.out]; exact hh
      clear HM HE hh
      go_enter Tryz.func27, Tryz.ntmps27
      go_wp2_with fail
      refine (HB.out w).mono ?_
      rintro e w2 ⟨rfl, rfl⟩
      go_wp2_with fail
      go_ret
      exact ⟨by rw [HM2.out] <;> go_num, rfl⟩
    | false =>
      have HM2 := Lib.hid (show M = -1 by rw [HM.out, if_neg (by rw [hh]; decide)])
      have v1 : ((s.extract q (q + t.size)).toList == t.toList) = false := by rw [tl_eqb, ← HE.out]; exact hh
      clear HM HE hh
      go_enter Tryz.func27, Tryz.ntmps27
      go_wp2_with fail
      refine (HB.out w).mono ?_
      rintro e w2 ⟨rfl, rfl⟩
      go_wp2_with fail
      go_ret
      exact ⟨by rw [HM2.out] <;> rfl, rfl⟩
end Go.Proofs.YtfiahpeajccinaaGreatDoor
