/- A path's text: its form, a step read and written: contracts. -/
import Derived.Test.YtmcacmhjhejfeaaGreatDoorWay
import Derived.Test.YtmcacmhjhejfeaaGreatDoorSlashC
import Derived.Test.YtmcacmhjhejfeaaGreatDoorShelfP
import Derived.Outline
namespace Go.Proofs.YtmcacmhjhejfeaaGreatDoor
open Go.RowKit
open Tk
set_option linter.unusedVariables false

/-- the library's own variable holds some integer -/
def MaxLen (w : World) : Prop := ∃ m : Int, w.cell? ⟨0, 0, none⟩ = some (.int .i64 m)
theorem MaxLen.on {w w' : World} (h : MaxLen w) (hb : Below w.heap.size w w') : MaxLen w' := by
  obtain ⟨m, hm⟩ := h
  exact ⟨m, (hb.cell (p := ⟨0, 0, none⟩) (cell_lt hm)).trans hm⟩
theorem pre_at (s : ByteArray) (a : Nat) (ha : a ≤ s.size) (c : UInt8) (hc : c ≠ 0) : Lib.hasPrefix (s.extract a s.size).data.toList [c] = (bt s a == c.toNat) := by
  rw [Sl.ext_list]
  show List.isPrefixOf [c] _ = _
  rcases Nat.lt_or_ge a s.size with h1 | h1
  · rw [Sl.drop_at h1, ← bt_at s a h1]
    simp only [List.isPrefixOf, Bool.and_true]
    by_cases h : c = s[a]
    · rw [← h]; simp
    · have : s[a].toNat ≠ c.toNat := fun e => h (UInt8.toNat_inj.1 e.symm)
      rw [beq_eq_false_iff_ne.2 this, beq_eq_false_iff_ne.2 h]
  · rw [Sl.drop_out h1, bt_end h1]
    have : c.toNat ≠ 0 := fun e => hc (UInt8.toNat_inj.1 e)
    rw [beq_eq_false_iff_ne.2 (Ne.symm this)]
    rfl
theorem pre0_any (s : ByteArray) (a : Nat) (ha : a ≤ s.size) (r : Bool) (h : (bt s a == 48) = r) (w : World) :
    Calls Tryz.prog 54 #[.string (s.extract a s.size), .string ⟨#[48]⟩] w fun e w' => e = .returned (.bool r) ∧ w = w' := by
  have h2 := Tryz.strings_HasPrefix (s.extract a s.size) ⟨#[48]⟩ w
  rw [pre_at s a ha 48 (by decide), show (48 : UInt8).toNat = 48 from rfl, h] at h2
  exact h2.mono fun e w' ⟨a, b⟩ => ⟨a, b.symm⟩
theorem pre1_any (s : ByteArray) (a : Nat) (ha : a ≤ s.size) (r : Bool) (h : (bt s a == 49) = r) (w : World) :
    Calls Tryz.prog 54 #[.string (s.extract a s.size), .string ⟨#[49]⟩] w fun e w' => e = .returned (.bool r) ∧ w = w' := by
  have h2 := Tryz.strings_HasPrefix (s.extract a s.size) ⟨#[49]⟩ w
  rw [pre_at s a ha 49 (by decide), show (49 : UInt8).toNat = 49 from rfl, h] at h2
  exact h2.mono fun e w' ⟨a, b⟩ => ⟨a, b.symm⟩
theorem emp_no {s : ByteArray} (h : 0 < s.size) : s.toList.isEmpty = false := by
  rw [ByteArray.toList_eq, List.isEmpty_eq_false_iff]
  intro e
  have : s.size = 0 := by show s.data.toList.length = 0; rw [e]; rfl
  omega
theorem emp_yes {s : ByteArray} (h : s.size = 0) : s = ⟨#[]⟩ := ba_ext (List.length_eq_zero_iff.1 h)
/-- has it the form? and where it hasn't -/
def frmP (s : ByteArray) : Nat := match Sl.fb s 0 with | some p => p | none => 0
def frmB (s : ByteArray) : Bool := match Sl.fb s 0 with | some _ => false | none => true
theorem frm_some {s : ByteArray} {p : Nat} (h : Sl.fb s 0 = some p) : frmP s = p ∧ frmB s = false := by unfold frmP frmB; rw [h]; exact ⟨rfl, rfl⟩
theorem frm_none {s : ByteArray} (h : Sl.fb s 0 = none) : frmP s = 0 ∧ frmB s = true := by unfold frmP frmB; rw [h]; exact ⟨rfl, rfl⟩
theorem formed_head (s : ByteArray) (h : 0 < s.size) (hb : bt s 0 ≠ 47) (w : World) : Calls Tryz.prog 27 #[.string s] w fun e w' => e = .returned (.tuple #[.int .i64 0, .bool false]) ∧ Below w.heap.size w w' := by
  have hx := bt_at s 0 h
  have v1 : ((s[0].toNat : Int) == 47) = false := by rw [beq_eq_false_iff_ne]; omega
  have v3 : ((s[0].toNat : Int) != 47) = true := by rw [bne_iff_ne]; omega
  have hE := emp_no h
  have i1 : (0 : Int) < (s.size : Int) := by omega
  clear hx hb
  go_enter Tryz.func27, Tryz.ntmps27
  go_wp2_with fail
  go_ret2
  exact ⟨rfl, Below.refl _ _⟩
set_option maxRecDepth 100000 in
set_option maxHeartbeats 4000000 in
theorem formed_any (s : ByteArray) (hs : s.size ≤ 100000) (hb : s.size = 0 ∨ bt s 0 = 47) (w : World) : Calls Tryz.prog 27 #[.string s] w fun e w' => e = .returned (.tuple #[.int .i64 (frmP s), .bool (frmB s)]) ∧ Below w.heap.size w w' := by
  have key : ∀ (w : World), Calls Tryz.prog 27 #[.string s] w fun e w' => e = .returned (.tuple #[.int .i64 (frmP s), .bool (frmB s)]) ∧ Below w.heap.size w w' := by
    intro w
    obtain ⟨P, hP⟩ : ∃ P, P = frmP s := ⟨_, rfl⟩
    obtain ⟨B, hB⟩ : ∃ B, B = frmB s := ⟨_, rfl⟩
    obtain ⟨R, hR⟩ : ∃ R, R = Sl.fb s 0 := ⟨_, rfl⟩
    have HS := Lib.hid (fun (p : Nat) (h : R = some p) => frm_some (hR.symm.trans h))
    have HNo := Lib.hid (fun (h : R = none) => frm_none (hR.symm.trans h))
    rw [← hP, ← hB] at HS HNo ⊢
    have HR := Lib.hid hR.symm
    clear hP hB hR
    have rest : (s.size = 0 ∧ s = ⟨#[]⟩) ∨ (0 < s.size ∧ s.toList.isEmpty = false ∧ bt s 0 = 47) := by
      rcases hb with h | h
      · exact .inl ⟨h, emp_yes h⟩
      · have : 0 < s.size := lt_of_bt (by omega)
        exact .inr ⟨this, emp_no this, h⟩
    rcases rest with ⟨h0, rfl⟩ | ⟨h0, hE, h47⟩
    · obtain ⟨rfl, rfl⟩ := HNo.out (HR.out.symm.trans (Sl.fb_end (Nat.le_refl _)))
      have u0 : (⟨#[]⟩ : ByteArray).size = 0 := rfl
      go_enter Tryz.func27, Tryz.ntmps27
      go_wp2_with fail
      go_loopw [14] (fun i wr => i = .int .i64 0 ∧ wr = w) (fun _ _ => 0)
      case atStart => exact ⟨rfl, rfl⟩
      case round =>
        obtain ⟨rfl, rfl⟩ := hrel
        go_wp2_with fail
        go_ret2
        exact ⟨rfl, Below.refl _ _⟩
    · have hx := bt_at s 0 h0
      have v1 : ((s[0].toNat : Int) == 47) = true := by rw [beq_iff_eq]; omega
      have v2 : ((s[0].toNat : Int) != 47) = false := by unfold bne; rw [v1]; rfl
      have i1 : (0 : Int) < (s.size : Int) := by omega
      clear hx
      go_enter Tryz.func27, Tryz.ntmps27
      go_wp2_with fail
      clear hE v1 v2 i1
      go_loopw [14] (fun i wr => ∃ k : Nat, k ≤ s.size ∧ i = .int .i64 k ∧ Sl.fb s k = R ∧ wr = w) (fun i _ => s.size - (intOf i).toNat)
      case atStart => exact ⟨0, Nat.zero_le _, rfl, HR.out, rfl⟩
      case round =>
        obtain ⟨k, hk, rfl, hf, rfl⟩ := hrel
        have HF := Lib.hid hf
        clear hf
        by_cases hlt : k < s.size
        · have u1 : decide ((k : Int) < (s.size : Int)) = true := decide_eq_true (by omega)
          have u2 : decide (k < s.size) = true := decide_eq_true hlt
          have j1 : (k : Int) < (s.size : Int) := by omega
          have j2 : (0 : Int) ≤ (k : Int) := by omega
          have j3 : ((k : Int) + 1) ≤ (s.size : Int) := by omega
          have j4 : (0 : Int) ≤ (k : Int) + 1 := by omega
          have hx := bt_at s k hlt
          have e1 : ((k : Int) + 1).toNat = k + 1 := by omega
          by_cases h126 : bt s k = 126
          · have v1 : ((s[k].toNat : Int) == 126) = true := by rw [beq_iff_eq]; omega
            have v2 : (s[k].toNat : Int) = 126 := by omega
            by_cases g0 : bt s (k + 1) = 48
            · have HN := Lib.hid (show Sl.fb s (k + 1) = R from (Sl.fb_step hlt (Sl.not_bad0 g0)).symm.trans HF.out)
              have HQ := Lib.hid (beq_iff_eq.2 g0)
              clear h126 g0 hx HF
              go_wp2_with fail
              refine (pre0_any s (k + 1) hlt true HQ.out _).mono ?_
              rintro e w2 ⟨rfl, rfl⟩
              go_wp2_with fail
              go_roundw
              case rel => exact ⟨k + 1, hlt, by go_num, HN.out, by first | trivial | rfl⟩
              case measure => simp [intOf]; omega
            · have HQ0 := Lib.hid (beq_eq_false_iff_ne.2 g0)
              by_cases g1 : bt s (k + 1) = 49
              · have HN := Lib.hid (show Sl.fb s (k + 1) = R from (Sl.fb_step hlt (Sl.not_bad1 g1)).symm.trans HF.out)
                have HQ := Lib.hid (beq_iff_eq.2 g1)
                clear h126 g0 g1 hx HF
                go_wp2_with fail
                refine (pre0_any s (k + 1) hlt false HQ0.out _).mono ?_
                rintro e w2 ⟨rfl, rfl⟩
                go_wp2_with fail
                refine (pre1_any s (k + 1) hlt true HQ.out _).mono ?_
                rintro e w2 ⟨rfl, rfl⟩
                go_wp2_with fail
                go_roundw
                case rel => exact ⟨k + 1, hlt, by go_num, HN.out, by first | trivial | rfl⟩
                case measure => simp [intOf]; omega
              · have HQ := Lib.hid (beq_eq_false_iff_ne.2 g1)
                obtain ⟨rfl, rfl⟩ := HS.out (k + 1) (HF.out.symm.trans (Sl.fb_bad hlt (Sl.is_bad h126 g0 g1)))
                clear h126 g0 g1 hx HF
                go_wp2_with fail
                refine (pre0_any s (k + 1) hlt false HQ0.out _).mono ?_
                rintro e w2 ⟨rfl, rfl⟩
                go_wp2_with fail
                refine (pre1_any s (k + 1) hlt false HQ.out _).mono ?_
                rintro e w2 ⟨rfl, rfl⟩
                go_wp2_with fail
                go_ret2
                exact ⟨by go_num, Below.refl _ _⟩
          · have v1 : ((s[k].toNat : Int) == 126) = false := by rw [beq_eq_false_iff_ne]; omega
            have v2 : ¬ (s[k].toNat : Int) = 126 := by omega
            have HN := Lib.hid (show Sl.fb s (k + 1) = R from (Sl.fb_step hlt (Sl.not_bad h126)).symm.trans HF.out)
            clear h126 hx HF
            go_wp2_with fail
            go_roundw
            case rel => exact ⟨k + 1, hlt, by go_num, HN.out, by first | trivial | rfl⟩
            case measure => simp [intOf]; omega
        · obtain rfl : k = s.size := by omega
          have u1 : decide ((s.size : Int) < (s.size : Int)) = false := decide_eq_false (by omega)
          have u2 : decide (s.size < s.size) = false := decide_eq_false (by omega)
          obtain ⟨rfl, rfl⟩ := HNo.out (HF.out.symm.trans (Sl.fb_end (Nat.le_refl _)))
          go_wp2_with fail
          go_ret2
          exact ⟨rfl, Below.refl _ _⟩
  exact key w
theorem cnt_le (s old : ByteArray) (h1 : 1 ≤ old.size) : Lib.countB s old ≤ s.size := Lib.countB_le old h1 s.size s (Nat.le_refl _)
theorem rep_slash (s : List UInt8) : ∀ n, s.length ≤ n → (Lib.replaceAll s [126, 49] [47]).length ≤ s.length := by
  intro n
  induction n generalizing s with
  | zero =>
    intro hs
    obtain rfl : s = [] := List.length_eq_zero_iff.1 (by omega)
    rw [Sl.all_nil (by decide) (by decide)]; exact Nat.le_refl _
  | succ n ih =>
    intro hs
    cases s with
    | nil => rw [Sl.all_nil (by decide) (by decide)]; exact Nat.le_refl _
    | cons b l =>
      simp only [List.length_cons] at hs
      cases hp : ([126, 49] : List UInt8).isPrefixOf (b :: l) with
      | true =>
        rw [Sl.all_hit (by decide) (by decide) hp]
        have h1 := ih ((b :: l).drop 2) (by rw [List.length_drop, List.length_cons]; omega)
        rw [List.length_drop] at h1
        simp only [List.length_append, List.length_cons, List.length_nil, Nat.zero_add] at h1 ⊢
        have e2 : (0 : Nat) + 1 + 1 = 2 := rfl
        first | omega | (rw [show (1 : Nat) + 1 = 2 from rfl]; omega)
      | false =>
        rw [Sl.all_miss (by decide) (by decide) hp]
        have h1 := ih l (by omega)
        simp only [List.length_cons]
        omega
theorem tild_len (s : List UInt8) : (Sl.tild s).length ≤ 2 * s.length := by
  induction s with
  | nil => exact Nat.le_refl _
  | cons b l ih =>
    unfold Sl.tild
    split
    all_goals simp only [List.length_cons]
    all_goals omega
set_option maxRecDepth 100000 in
theorem read_any (s : ByteArray) (hs : s.size ≤ 100000) (w : World) (hm : MaxLen w) : Calls Tryz.prog 29 #[.string s] w fun e w' => e = .returned (.string (Sl.mk (Sl.unesc s.data.toList))) ∧ Below w.heap.size w w' := by
  have HM := Lib.hid hm
  obtain ⟨m, hm⟩ := hm
  have c1 := cnt_le s ⟨#[126, 49]⟩ (by decide)
  have HU := Lib.hid (Sl.unesc_eq s.data.toList.length s.data.toList (Nat.le_refl _))
  have hl : (Lib.replaceAll s.data.toList [126, 49] [47]).length ≤ s.size := rep_slash _ _ (Nat.le_refl _)
  have h1 := Tryz.strings_ReplaceAll s ⟨#[126, 49]⟩ ⟨#[47]⟩ m w (by omega) hm (by decide) (by rw [show (⟨#[47]⟩ : ByteArray).size = 1 from rfl]; omega)
  have H1 := Lib.hid h1
  clear h1 hm c1
  go_enter Tryz.func29, Tryz.ntmps29
  go_wp2_with fail
  refine H1.out.mono ?_
  rintro e w2 ⟨rfl, hb2⟩
  have HB2 := Lib.hid hb2
  obtain ⟨m2, hm2⟩ := HM.out.on hb2
  have c2 := cnt_le (Sl.mk (Lib.replaceAll s.data.toList [126, 49] [47])) ⟨#[126, 48]⟩ (by decide)
  have hz : (Sl.mk (Lib.replaceAll s.data.toList [126, 49] [47])).size ≤ 100000 := by show (Lib.replaceAll s.data.toList [126, 49] [47]).length ≤ _; omega
  have h2 := Tryz.strings_ReplaceAll (Sl.mk (Lib.replaceAll s.data.toList [126, 49] [47])) ⟨#[126, 48]⟩ ⟨#[126]⟩ m2 w2 (by omega) hm2 (by decide) (by rw [show (⟨#[126]⟩ : ByteArray).size = 1 from rfl]; omega)
  have H2 := Lib.hid h2
  clear h2 hm2 hb2 c2 hz hl
  go_wp2_with fail
  refine H2.out.mono ?_
  rintro e w3 ⟨rfl, hb3⟩
  have HB3 := Lib.hid (HB2.out.trans (hb3.mono HB2.out.size))
  clear hb3
  go_wp2_with fail
  go_ret
  exact ⟨congrArg (fun l => Ending.returned (.string (Sl.mk l))) HU.out, HB3.out⟩
set_option maxRecDepth 100000 in
theorem written_any (s : ByteArray) (hs : s.size ≤ 100000) (w : World) (hm : MaxLen w) : Calls Tryz.prog 33 #[.string s] w fun e w' => e = .returned (.string (Sl.mk (Sl.esc s.data.toList))) ∧ Below w.heap.size w w' := by
  have HM := Lib.hid hm
  obtain ⟨m, hm⟩ := hm
  have c1 := cnt_le s ⟨#[126]⟩ (by decide)
  have HU := Lib.hid (Sl.esc_eq s.data.toList)
  have hl : (Lib.replaceAll s.data.toList [126] [126, 48]).length ≤ 2 * s.size := by rw [Sl.tild_eq]; exact tild_len _
  have h1 := Tryz.strings_ReplaceAll s ⟨#[126]⟩ ⟨#[126, 48]⟩ m w (by omega) hm (by decide) (by rw [show (⟨#[126, 48]⟩ : ByteArray).size = 2 from rfl]; omega)
  have H1 := Lib.hid h1
  clear h1 hm c1
  go_enter Tryz.func33, Tryz.ntmps33
  go_wp2_with fail
  refine H1.out.mono ?_
  rintro e w2 ⟨rfl, hb2⟩
  have HB2 := Lib.hid hb2
  obtain ⟨m2, hm2⟩ := HM.out.on hb2
  have c2 := cnt_le (Sl.mk (Lib.replaceAll s.data.toList [126] [126, 48])) ⟨#[47]⟩ (by decide)
  have hz : (Sl.mk (Lib.replaceAll s.data.toList [126] [126, 48])).size ≤ 200000 := by show (Lib.replaceAll s.data.toList [126] [126, 48]).length ≤ _; omega
  have h2 := Tryz.strings_ReplaceAll (Sl.mk (Lib.replaceAll s.data.toList [126] [126, 48])) ⟨#[47]⟩ ⟨#[126, 49]⟩ m2 w2 (by omega) hm2 (by decide) (by rw [show (⟨#[126, 49]⟩ : ByteArray).size = 2 from rfl]; omega)
  have H2 := Lib.hid h2
  clear h2 hm2 hb2 c2 hz hl
  go_wp2_with fail
  refine H2.out.mono ?_
  rintro e w3 ⟨rfl, hb3⟩
  have HB3 := Lib.hid (HB2.out.trans (hb3.mono HB2.out.size))
  clear hb3
  go_wp2_with fail
  go_ret
  exact ⟨congrArg (fun l => Ending.returned (.string (Sl.mk l))) HU.out, HB3.out⟩
end Go.Proofs.YtmcacmhjhejfeaaGreatDoor
