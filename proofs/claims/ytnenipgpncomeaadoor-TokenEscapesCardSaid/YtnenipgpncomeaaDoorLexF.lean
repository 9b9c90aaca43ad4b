/- The lexer's reader of a character: its contract. -/
import Derived.Test.YtnenipgpncomeaaDoorLexE
import Derived.Test.YtnenipgpncomeaaDoorEach
namespace Go.Proofs.YtnenipgpncomeaaDoor
open Go.RowKit
open Tk
open Pl
set_option linter.unusedVariables false

theorem extract_drop (s : ByteArray) (a : Nat) : (s.extract a s.size).data.toList = s.data.toList.drop a := by
  rw [show (s.extract a s.size).data.toList = (s.data.toList.drop a).take (s.size - a) from sub_list s a s.size]
  rw [List.take_of_length_le (by rw [List.length_drop, size_toList]; exact Nat.le_refl _)]
theorem chAt_end {s : ByteArray} {a : Nat} (h : s.size ≤ a ∨ bt s a < 32) : chAt s a = .bad a 1 := by unfold chAt; rw [if_pos h]
theorem chAt_esc {s : ByteArray} {a : Nat} (h : isEsc s a = true) : chAt s a = uniCh s a := by
  unfold isEsc at h
  simp only [Bool.and_eq_true, beq_iff_eq] at h
  have hl := lt_of_bt (s := s) (i := a) (by omega)
  unfold chAt
  rw [if_neg (by omega), if_pos h.1]
  unfold escCh
  rw [h.2]
  rfl
theorem chAt_short {s : ByteArray} {a : Nat} (h : isEsc s a = false) (k : bt s a = 92) : chAt s a = shortCh s (a + 1) := by
  have hl := lt_of_bt (s := s) (i := a) (by omega)
  have h7 : bt s (a + 1) ≠ 117 := by
    intro e
    unfold isEsc at h
    rw [k, e] at h
    cases h
  unfold chAt
  rw [if_neg (by omega), if_pos k]
  unfold escCh shortCh
  rw [if_neg h7]
  rfl
theorem chAt_raw {s : ByteArray} {a : Nat} (hl : a < s.size) (h : ¬ bt s a < 32) (k : bt s a ≠ 92) : chAt s a = rawCh s a := by
  unfold chAt
  rw [if_neg (by omega), if_neg k]
theorem esc_bt {s : ByteArray} {a : Nat} (k : bt s a ≠ 92) : isEsc s a = false := by
  unfold isEsc
  rw [beq_eq_false_iff_ne.2 k]; rfl
set_option maxRecDepth 100000 in
set_option maxHeartbeats 2000000 in
theorem character_any5 (b : Nat) (s : ByteArray) (a : Nat) (w : World) (hs : s.size ≤ 1000000) (hc : w.cell? ⟨b, 0, none⟩ = some (.string s)) (ha : a ≤ s.size) : Calls Tryd.prog 36 #[.pointer (some ⟨b, 0, none⟩), .int .i64 a] w fun e w' => e = .returned (chAt s a).val ∧ Below w.heap.size w w' := by
  have i2 : (0 : Int) ≤ (a : Int) := by omega
  have i1 : (a : Int) ≤ (s.size : Int) := by omega
  by_cases hl : a < s.size
  · have u1 : decide (a < s.size) = true := decide_eq_true hl
    have j1 : (a : Int) < (s.size : Int) := by omega
    have j3 : ¬ (a : Int) = (s.size : Int) := by omega
    have u3 : ((a : Int) == (s.size : Int)) = false := beq_eq_false_iff_ne.2 j3
    have hx := bt_at s a hl
    by_cases h32 : bt s a < 32
    · have HR := Lib.hid (chAt_end (s := s) (.inr h32))
      have v1 : (s[a].toNat : Int) < 32 := by omega
      have v2 : decide ((s[a].toNat : Int) < 32) = true := decide_eq_true v1
      generalize chAt s a = v at *
      clear hx h32
      go_enter Tryd.func36, Tryd.ntmps36
      go_wp2_with fail
      go_ret3
      exact ⟨by rw [HR.out]; rfl, Below.refl _ _⟩
    · have v1 : ¬ (s[a].toNat : Int) < 32 := by omega
      have v2 : decide ((s[a].toNat : Int) < 32) = false := decide_eq_false v1
      cases he : isEsc s a with
      | true =>
        have HR := Lib.hid (chAt_esc he)
        have HE := Lib.hid he
        have HC := Lib.hid (escaped_any5 b s a w hs hc ha he)
        generalize chAt s a = v at *
        generalize uniCh s a = v2 at *
        clear hx h32 he
        go_enter Tryd.func36, Tryd.ntmps36
        go_wp2_with fail
        refine (pre_any s a ha _).mono ?_
        rintro e w2 ⟨rfl, rfl⟩
        rw [HE.out]
        go_wp2_with fail
        refine HC.out.mono ?_
        rintro e w2 ⟨rfl, rfl⟩
        cases v2 with
        | pt n e =>
          unfold Ch.val
          go_wp2_with fail
          go_ret3
          exact ⟨by rw [HR.out]; rfl, Below.refl _ _⟩
        | bad p c =>
          unfold Ch.val
          go_wp2_with fail
          go_ret3
          exact ⟨by rw [HR.out]; rfl, Below.refl _ _⟩
      | false =>
        have HE := Lib.hid he
        by_cases h92 : bt s a = 92
        · have HR := Lib.hid (chAt_short he h92)
          have HC := Lib.hid (short_any5 b s (a + 1) w hs hc hl)
          have v3 : (s[a].toNat : Int) = 92 := by omega
          have v4 : ((s[a].toNat : Int) == 92) = true := beq_iff_eq.2 v3
          generalize chAt s a = v at *
          generalize shortCh s (a + 1) = v2 at *
          clear hx h32 he h92
          go_enter Tryd.func36, Tryd.ntmps36
          go_wp2_with fail
          refine (pre_any s a ha _).mono ?_
          rintro e w2 ⟨rfl, rfl⟩
          rw [HE.out]
          go_wp2_with fail
          refine HC.out.mono ?_
          rintro e w2 ⟨rfl, rfl⟩
          cases v2 with
          | pt n e =>
            unfold Ch.val
            go_wp2_with fail
            go_ret3
            exact ⟨by rw [HR.out]; rfl, Below.refl _ _⟩
          | bad p c =>
            unfold Ch.val
            go_wp2_with fail
            go_ret3
            exact ⟨by rw [HR.out]; rfl, Below.refl _ _⟩
        · have HC := Lib.hid (decode_any (s.extract a s.size) w)
          rw [extract_drop] at HC
          have hraw := chAt_raw hl h32 h92
          have v3 : ¬ (s[a].toNat : Int) = 92 := by omega
          have v4 : ((s[a].toNat : Int) == 92) = false := beq_eq_false_iff_ne.2 v3
          cases hok : ok (s.data.toList.drop a) with
          | true =>
            have hm := (enc_of_ok _ hok)
            have hpos : 0 < (decL (s.data.toList.drop a)).2 := by
              have := enc_len ((decL (s.data.toList.drop a)).1 : Int)
              rw [hm.2.2] at this; omega
            have HR := Lib.hid (show chAt s a = .pt ((decL (s.data.toList.drop a)).1 : Nat) (a + (decL (s.data.toList.drop a)).2) by rw [hraw]; unfold rawCh; rw [if_pos hok])
            have HN := Lib.hid (show decN (s.data.toList.drop a) = ((decL (s.data.toList.drop a)).1 : Nat) by unfold decN; rw [hok]; rfl)
            have HM := Lib.hid (show decM (s.data.toList.drop a) = ((decL (s.data.toList.drop a)).2 : Nat) by unfold decM; rw [hok]; rfl)
            have hbd : a + (decL (s.data.toList.drop a)).2 ≤ s.size := by
              have h5 := congrArg List.length hm.2.1
              rw [List.length_append, hm.2.2, List.length_drop, List.length_drop, size_toList] at h5
              omega
            rw [HN.out, HM.out] at HC
            clear HN HM hm hok hraw hx h32 he h92
            generalize chAt s a = v at *
            generalize (decL (s.data.toList.drop a)).1 = dn at *
            generalize (decL (s.data.toList.drop a)).2 = dm at *
            have v5 : ¬ (dm : Int) = 0 := by omega
            have v6 : ((dm : Int) == 0) = false := beq_eq_false_iff_ne.2 v5
            go_enter Tryd.func36, Tryd.ntmps36
            go_wp2_with fail
            refine (pre_any s a ha _).mono ?_
            rintro e w2 ⟨rfl, rfl⟩
            rw [HE.out]
            go_wp2_with fail
            refine HC.out.mono ?_
            rintro e w2 ⟨rfl, hB⟩
            go_wp2_with fail
            go_ret3
            exact ⟨by rw [HR.out]; rfl, hB⟩
          | false =>
            have HR := Lib.hid (show chAt s a = .bad a 2 by rw [hraw]; unfold rawCh; rw [hok]; rfl)
            have HM := Lib.hid (show decM (s.data.toList.drop a) = 0 by unfold decM; rw [hok]; rfl)
            rw [HM.out] at HC
            clear HM hok hraw hx h32 he h92
            generalize chAt s a = v at *
            generalize decN (s.data.toList.drop a) = dn at *
            go_enter Tryd.func36, Tryd.ntmps36
            go_wp2_with fail
            refine (pre_any s a ha _).mono ?_
            rintro e w2 ⟨rfl, rfl⟩
            rw [HE.out]
            go_wp2_with fail
            refine HC.out.mono ?_
            rintro e w2 ⟨rfl, hB⟩
            go_wp2_with fail
            go_ret3
            exact ⟨by rw [HR.out]; rfl, hB⟩
  · obtain rfl : a = s.size := by omega
    have HR := Lib.hid (chAt_end (s := s) (.inl (Nat.le_refl s.size)))
    generalize chAt s s.size = v at *
    go_enter Tryd.func36, Tryd.ntmps36
    go_wp2_with fail
    go_ret3
    exact ⟨by rw [HR.out]; rfl, Below.refl _ _⟩
end Go.Proofs.YtnenipgpncomeaaDoor
