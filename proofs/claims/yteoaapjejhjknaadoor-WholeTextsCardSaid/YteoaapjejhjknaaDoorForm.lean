/- Contract of the reference's Form. -/
import Derived.Test.YteoaapjejhjknaaDoorIsnum
namespace Go.Proofs.YteoaapjejhjknaaDoor
open Go.RowKit
open De

theorem byte_at (s : ByteArray) (i : Nat) (h : i < s.size) : (s[i]'h).toNat = (s.data.toList.getD i 0).toNat := by
  rw [List.getD_eq_getElem?_getD, Array.getElem?_toList]
  rcases s with ⟨d⟩
  have hd : i < d.size := h
  simp [hd]; rfl
/-- all of the first k are digits -/
def digTo (D : List UInt8) (k : Nat) : Prop := ∀ i, i < k → isDig (D.getD i 0) = true
theorem digTo.succ {D : List UInt8} {k : Nat} (h : digTo D k) (h1 : isDig (D.getD k 0) = true) : digTo D (k + 1) := by
  intro i hi
  rcases Nat.lt_or_ge i k with h3 | h3
  · exact h i h3
  · rw [show i = k by omega]; exact h1
theorem digTo.done {D : List UInt8} (h : digTo D D.length) (hne : D ≠ []) (h0 : ¬ (D.getD 0 0 = 48 ∧ 1 < D.length)) : formD D = true :=
  okTo.all ⟨h, fun hk e => h0 ⟨e, by omega⟩⟩ hne

set_option maxRecDepth 100000 in
set_option maxHeartbeats 4000000 in
theorem form_0 (s : ByteArray) (w : World) (hs : s.size ≤ 1000) (hsg : s.data.toList.head? ≠ some 45) :
    Calls Tryd.prog 16 #[.string s] w fun e w' => e = .returned (.bool (form s.data.toList)) ∧ w = w' := by
  have hL : s.data.toList.length = s.size := Array.length_toList
  obtain ⟨D, hD⟩ : ∃ D, s.data.toList = D := ⟨_, rfl⟩
  have hg : digs s.data.toList = D := by unfold digs; rw [if_neg hsg]; exact hD
  have hDl : D.length = s.size := by rw [← hL, hD]
  have hat : ∀ i (h : i < s.size), (s[i]'h).toNat = (D.getD i 0).toNat := by intro i h; rw [byte_at, hD]
  have hsgD : D.getD 0 0 = 45 → D = [] := by
    intro h
    cases D with
    | nil => rfl
    | cons c D => rw [hD] at hsg; simp at h; subst h; exact absurd rfl hsg
  have Hf := Lib.hid (show form s.data.toList = formD D by unfold form; rw [hg])
  have Hat := Lib.hid hat
  rw [Hf.out]
  clear hsg hL hD hg hat
  by_cases hnil : D = []
  · have HN := Lib.hid (show formD D = false by rw [hnil]; rfl)
    have hsz : s.size = 0 := by rw [← hDl, hnil]; rfl
    have t0 : decide (0 < s.size) = false := decide_eq_false (by omega)
    have t1 : ((s.size : Int) == 0) = true := by rw [hsz]; rfl
    clear hnil hsz hDl hsgD
    go_enter Tryd.func16, Tryd.ntmps16
    go_wp2_with fail
    go_ret
    exact ⟨ret_bool HN.out.symm, rfl⟩
  · have hpos : 0 < D.length := List.length_pos_iff.2 hnil
    have hsp : 0 < s.size := by omega
    have t0 : decide (0 < s.size) = true := decide_eq_true hsp
    have h45 : D.getD 0 0 ≠ 45 := fun h => hnil (hsgD h)
    have e45 : ¬ (D.getD 0 0).toNat = 45 := fun h => h45 (UInt8.toNat_inj.1 (by rw [h]; rfl))
    clear hsgD h45
    have t1 : ((s.size : Int) == 0) = false := by rw [beq_eq_false_iff_ne]; omega
    have HN := Lib.hid hnil
    have e0 : ∀ h, (s[0]'h).toNat = (D.getD 0 0).toNat := Hat.out 0
    have h48 : (D.getD 0 0).toNat = 48 ↔ D.getD 0 0 = 48 := ⟨fun h => UInt8.toNat_inj.1 (by rw [h]; rfl), fun h => by rw [h]; rfl⟩
    have H48 := Lib.hid h48
    clear hnil h48
    by_cases hlead : D.getD 0 0 = 48 ∧ 1 < D.length
    · have HF := Lib.hid (form_lead hlead.2 hlead.1)
      have hc := H48.out.2 hlead.1
      have t2 : decide ((1 : Int) < (s.size : Int)) = true := decide_eq_true (by omega)
      clear hlead
      generalize (D.getD 0 0).toNat = x at *
      subst hc
      go_enter Tryd.func16, Tryd.ntmps16
      go_wp2_with fail
      go_ret
      exact ⟨ret_bool HF.out.symm, rfl⟩
    · have HL := Lib.hid hlead
      have hlead2 : ((((D.getD 0 0).toNat : Nat) : Int) == 48) = false ∨ (((((D.getD 0 0).toNat : Nat) : Int) == 48) = true ∧ decide ((1 : Int) < (s.size : Int)) = false) := by
        by_cases h : D.getD 0 0 = 48
        · right
          refine ⟨by rw [h]; rfl, decide_eq_false ?_⟩
          have : ¬ 1 < D.length := fun h2 => HL.out ⟨h, h2⟩
          omega
        · left
          have : (D.getD 0 0).toNat ≠ 48 := fun h2 => h (H48.out.1 h2)
          rw [beq_eq_false_iff_ne]; omega
      clear hlead
      generalize (D.getD 0 0).toNat = x at *
      rcases hlead2 with t2 | ⟨t2, t3⟩
      all_goals
        go_enter Tryd.func16, Tryd.ntmps16
        go_wp2_with fail
        go_loop [4] (fun i => ∃ k : Nat, k ≤ D.length ∧ i = .int .i64 (k : Nat) ∧ digTo D k) (fun i => s.size - (intOf i).toNat)
        case atStart => exact ⟨0, Nat.zero_le _, rfl, fun i hi => absurd hi (by omega)⟩
        case round =>
          clear e0
          obtain ⟨k, hk, rfl, hd⟩ := hrel
          have Hd := Lib.hid hd
          clear hd
          by_cases hlt : k < D.length
          · have hj : k < s.size := by omega
            have u1 : decide (k < s.size) = true := decide_eq_true hj
            have e1 : ∀ h, (s[k]'h).toNat = (D.getD k 0).toNat := Hat.out k
            cases hc : isDig (D.getD k 0) with
            | true =>
              have hb := (dig_iff _).1 hc
              have Hs := Lib.hid (Hd.out.succ hc)
              clear hc
              generalize (D.getD k 0).toNat = y at *
              have x1 : decide ((y : Int) < 48) = false := decide_eq_false (by omega)
              have x2 : decide ((57 : Int) < (y : Int)) = false := decide_eq_false (by omega)
              go_wp2_with fail
              go_round
              case rel => exact ⟨k + 1, by omega, by go_num, Hs.out⟩
              case measure => simp [intOf]; omega
            | false =>
              have hb : ¬ (48 ≤ (D.getD k 0).toNat ∧ (D.getD k 0).toNat ≤ 57) := by rw [← dig_iff, hc]; simp
              have HF := Lib.hid (form_stop hlt hc)
              clear hc
              generalize (D.getD k 0).toNat = y at *
              rcases (by omega : y < 48 ∨ 57 < y) with hy | hy
              · have x1 : decide ((y : Int) < 48) = true := decide_eq_true (by omega)
                go_wp2_with fail
                go_ret
                exact ⟨ret_bool HF.out.symm, rfl⟩
              · have x1 : decide ((y : Int) < 48) = false := decide_eq_false (by omega)
                have x2 : decide ((57 : Int) < (y : Int)) = true := decide_eq_true (by omega)
                go_wp2_with fail
                go_ret
                exact ⟨ret_bool HF.out.symm, rfl⟩
          · obtain rfl : D.length = k := by omega
            have u1 : decide (D.length < s.size) = false := decide_eq_false (by omega)
            have HF := Lib.hid (Hd.out.done HN.out HL.out)
            go_wp2_with fail
            go_ret
            exact ⟨ret_bool HF.out.symm, rfl⟩

set_option maxRecDepth 100000 in
set_option maxHeartbeats 4000000 in
theorem form_1 (s : ByteArray) (w : World) (hs : s.size ≤ 1000) (hsg : s.data.toList.head? = some 45) :
    Calls Tryd.prog 16 #[.string s] w fun e w' => e = .returned (.bool (form s.data.toList)) ∧ w = w' := by
  have hL : s.data.toList.length = s.size := Array.length_toList
  have hs0 : 0 < s.size := by
    rcases Nat.eq_zero_or_pos s.size with h | h
    · rw [List.eq_nil_of_length_eq_zero (hL.trans h)] at hsg; cases hsg
    · exact h
  obtain ⟨D, hD⟩ : ∃ D, s.data.toList = 45 :: D := by
    cases h : s.data.toList with
    | nil => rw [h] at hsg; cases hsg
    | cons c D => rw [h] at hsg; simp at hsg; exact ⟨D, by rw [hsg]⟩
  have hg : digs s.data.toList = D := by rw [hD]; rfl
  have hDl : D.length + 1 = s.size := by rw [← hL, hD]; rfl
  have hat : ∀ i (h : i + 1 < s.size), (s[i + 1]'h).toNat = (D.getD i 0).toNat := by intro i h; rw [byte_at, hD, List.getD_cons_succ]
  have he0 : ∀ h, (s[0]'h).toNat = 45 := by intro h; rw [byte_at, hD]; rfl
  have t0 : decide (0 < s.size) = true := decide_eq_true hs0
  have Hf := Lib.hid (show form s.data.toList = formD D by unfold form; rw [hg])
  have Hat := Lib.hid hat
  rw [Hf.out]
  clear hsg hL hD hg hat
  by_cases hnil : D = []
  · have HN := Lib.hid (show formD D = false by rw [hnil]; rfl)
    have hsz : s.size = 1 := by rw [← hDl, hnil]; rfl
    have t1 : ((s.size : Int) == 1) = true := by rw [hsz]; rfl
    clear hnil hsz hDl
    go_enter Tryd.func16, Tryd.ntmps16
    go_wp2_with fail
    go_ret
    exact ⟨ret_bool HN.out.symm, rfl⟩
  · have hpos : 0 < D.length := List.length_pos_iff.2 hnil
    have hsp : 1 < s.size := by omega
    have t1 : ((s.size : Int) == 1) = false := by rw [beq_eq_false_iff_ne]; omega
    have HN := Lib.hid hnil
    have e0 : ∀ h, (s[1]'h).toNat = (D.getD 0 0).toNat := Hat.out 0
    have h48 : (D.getD 0 0).toNat = 48 ↔ D.getD 0 0 = 48 := ⟨fun h => UInt8.toNat_inj.1 (by rw [h]; rfl), fun h => by rw [h]; rfl⟩
    have H48 := Lib.hid h48
    clear hnil h48
    by_cases hlead : D.getD 0 0 = 48 ∧ 1 < D.length
    · have HF := Lib.hid (form_lead hlead.2 hlead.1)
      have hc := H48.out.2 hlead.1
      have t2 : decide ((2 : Int) < (s.size : Int)) = true := decide_eq_true (by omega)
      clear hlead
      generalize (D.getD 0 0).toNat = x at *
      subst hc
      go_enter Tryd.func16, Tryd.ntmps16
      go_wp2_with fail
      go_ret
      exact ⟨ret_bool HF.out.symm, rfl⟩
    · have HL := Lib.hid hlead
      have hlead2 : ((((D.getD 0 0).toNat : Nat) : Int) == 48) = false ∨ (((((D.getD 0 0).toNat : Nat) : Int) == 48) = true ∧ decide ((2 : Int) < (s.size : Int)) = false) := by
        by_cases h : D.getD 0 0 = 48
        · right
          refine ⟨by rw [h]; rfl, decide_eq_false ?_⟩
          have : ¬ 1 < D.length := fun h2 => HL.out ⟨h, h2⟩
          omega
        · left
          have : (D.getD 0 0).toNat ≠ 48 := fun h2 => h (H48.out.1 h2)
          rw [beq_eq_false_iff_ne]; omega
      clear hlead
      generalize (D.getD 0 0).toNat = x at *
      rcases hlead2 with t2 | ⟨t2, t3⟩
      all_goals
        go_enter Tryd.func16, Tryd.ntmps16
        go_wp2_with fail
        go_loop [4] (fun i => ∃ k : Nat, k ≤ D.length ∧ i = .int .i64 (k + 1 : Nat) ∧ digTo D k) (fun i => s.size - (intOf i).toNat)
        case atStart => exact ⟨0, Nat.zero_le _, rfl, fun i hi => absurd hi (by omega)⟩
        case round =>
          clear e0
          obtain ⟨k, hk, rfl, hd⟩ := hrel
          have Hd := Lib.hid hd
          clear hd
          by_cases hlt : k < D.length
          · have hj : k + 1 < s.size := by omega
            have u1 : decide (k + 1 < s.size) = true := decide_eq_true hj
            have e1 : ∀ h, (s[k + 1]'h).toNat = (D.getD k 0).toNat := Hat.out k
            cases hc : isDig (D.getD k 0) with
            | true =>
              have hb := (dig_iff _).1 hc
              have Hs := Lib.hid (Hd.out.succ hc)
              clear hc
              generalize (D.getD k 0).toNat = y at *
              have x1 : decide ((y : Int) < 48) = false := decide_eq_false (by omega)
              have x2 : decide ((57 : Int) < (y : Int)) = false := decide_eq_false (by omega)
              go_wp2_with fail
              go_round
              case rel => exact ⟨k + 1, by omega, by go_num, Hs.out⟩
              case measure => simp [intOf]; omega
            | false =>
              have hb : ¬ (48 ≤ (D.getD k 0).toNat ∧ (D.getD k 0).toNat ≤ 57) := by rw [← dig_iff, hc]; simp
              have HF := Lib.hid (form_stop hlt hc)
              clear hc
              generalize (D.getD k 0).toNat = y at *
              rcases (by omega : y < 48 ∨ 57 < y) with hy | hy
              · have x1 : decide ((y : Int) < 48) = true := decide_eq_true (by omega)
                go_wp2_with fail
                go_ret
                exact ⟨ret_bool HF.out.symm, rfl⟩
              · have x1 : decide ((y : Int) < 48) = false := decide_eq_false (by omega)
                have x2 : decide ((57 : Int) < (y : Int)) = true := decide_eq_true (by omega)
                go_wp2_with fail
                go_ret
                exact ⟨ret_bool HF.out.symm, rfl⟩
          · obtain rfl : D.length = k := by omega
            have u1 : decide (D.length + 1 < s.size) = false := decide_eq_false (by omega)
            have HF := Lib.hid (Hd.out.done HN.out HL.out)
            go_wp2_with fail
            go_ret
            exact ⟨ret_bool HF.out.symm, rfl⟩

theorem form_any (s : ByteArray) (w : World) (hs : s.size ≤ 1000) :
    Calls Tryd.prog 16 #[.string s] w fun e w' => e = .returned (.bool (form s.data.toList)) ∧ w = w' := by
  by_cases h : s.data.toList.head? = some 45
  · exact form_1 s w hs h
  · exact form_0 s w hs h
end Go.Proofs.YteoaapjejhjknaaDoor
