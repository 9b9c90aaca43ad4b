/- The reference's Parse of a path's text: contract. -/
import Derived.Test.YtmcacmhjhejfeaaGreatDoorPthB
import Derived.Test.YtmcacmhjhejfeaaGreatDoorSlashD
import Derived.Test.YtmcacmhjhejfeaaGreatDoorAppS
import Derived.Test.YtmcacmhjhejfeaaGreatDoorPoints2
import Derived.Outline
namespace Go.Proofs.YtmcacmhjhejfeaaGreatDoor
open Go.RowKit
open Tk
open Pl
set_option linter.unusedVariables false

set_option maxRecDepth 100000 in
set_option maxHeartbeats 16000000 in
theorem rparse_any4 (s : ByteArray) (l : List Int) (R : List UInt8) (hsp : Split s.data.toList l R) (hs : s.size ≤ 100000) (w : World) :
    Calls Tryz.prog 8 #[.string s] w (PathGives (prs s l R) w) := by
  have HV := Lib.hid (rpoints_any s l R hsp hs w)
  have hfz := hsp.size
  by_cases hR : R = []
  · subst hR
    rw [prs_yes rfl]
    have hfs : (flat l).length = s.size := by rw [hfz]; simp
    have u0 : decide (((flat l).length : Int) < (s.size : Int)) = false := decide_eq_false (by omega)
    have u0' : decide ((flat l).length < s.size) = false := decide_eq_false (by omega)
    rw [← Sl.oa_start s]
    generalize hans : Sl.oa s 0 [] = ans
    have HA := Lib.hid hans
    clear hsp hfz hfs hans
    go_enter Tryz.func8, Tryz.ntmps8
    go_wp2_with fail
    refine HV.out.mono ?_
    rintro e w2 ⟨A0, c0, rfl, hr0, hb2⟩
    have H2 := Lib.hid hb2
    clear hb2 hr0 HV
    go_wp2_with fail
    go_loopw [7, 8] (fun v x wr => ∃ (i : Nat) (o : List (List UInt8)), i ≤ s.size ∧ o.length ≤ i ∧ x = .int .i64 i ∧ Sl.oa s i o = ans ∧ wr.ownsRow w.heap.size 9 1 v (o.map Sl.mk).length ((o.map Sl.mk).map Value.string) ∧ Below w.heap.size w wr) (fun _ x _ => s.size + 1 - (intOf x).toNat)
    case atStart => exact ⟨0, [], Nat.zero_le _, Nat.zero_le _, rfl, HA.out, World.ownsRow_nil _ _ _ _, H2.out⟩
    case round =>
      obtain ⟨i, o, hi, ho, rfl, ha, hown, hbel⟩ := hrel
      have Ha := Lib.hid ha
      have Hown := Lib.hid hown
      have Hbel := Lib.hid hbel
      clear ha hown hbel
      generalize wr = W0 at *
      by_cases hlt : i < s.size
      · have u1 : decide ((i : Int) < (s.size : Int)) = true := decide_eq_true (by omega)
        have u2 : decide (i < s.size) = true := decide_eq_true hlt
        have j1 : (i : Int) < (s.size : Int) := by omega
        have j2 : (0 : Int) ≤ (i : Int) := by omega
        have hx := bt_at s i hlt
        by_cases h47 : bt s i = 47
        · have v1 : ((s[i].toNat : Int) == 47) = true := by rw [beq_iff_eq]; omega
          have v2 : (s[i].toNat : Int) = 47 := by omega
          have HI := Lib.hid (show Sl.ia s (i + 1) o [] = ans from (Sl.oa_in hlt h47).symm.trans Ha.out)
          have hsz := Hbel.out.size
          clear h47 hx Ha
          go_wp2_with fail
          clear v1 v2
          go_loopw [8, 9] (fun x v wi => ∃ (k : Nat) (cur : List UInt8), i + 1 ≤ k ∧ k ≤ s.size ∧ cur.length ≤ k ∧ x = .int .i64 k ∧ Sl.ia s k o cur = ans ∧ wi.ownsRow W0.heap.size 5 1 v cur.length (Lib.byteCells cur) ∧ Below W0.heap.size W0 wi) (fun x _ _ => s.size + 1 - (intOf x).toNat)
          case atStart => exact ⟨i + 1, [], Nat.le_refl _, hlt, Nat.zero_le _, by go_num, HI.out, World.ownsRow_nil _ _ _ _, Below.refl _ _⟩
          case round =>
            obtain ⟨k, cur, hik, hk, hcl, rfl, ha, hown2, hbel2⟩ := hrel
            have Ha := Lib.hid ha
            have Hown2 := Lib.hid hown2
            have Hbel2 := Lib.hid hbel2
            have hsz2 := hbel2.size
            clear ha hown2 hbel2
            have step : ∀ (hend : Sl.oa s k (o ++ [cur]) = ans), True := fun _ => trivial
            clear step
            by_cases hkl : k < s.size
            · have w1 : decide ((k : Int) < (s.size : Int)) = true := decide_eq_true (by omega)
              have w2 : decide (k < s.size) = true := decide_eq_true hkl
              have g1 : (k : Int) < (s.size : Int) := by omega
              have g2 : (0 : Int) ≤ (k : Int) := by omega
              have hx := bt_at s k hkl
              by_cases h47 : bt s k = 47
              · have v1 : ((s[k].toNat : Int) == 47) = true := by rw [beq_iff_eq]; omega
                have v2 : (s[k].toNat : Int) = 47 := by omega
                have HO := Lib.hid (show Sl.oa s k (o ++ [cur]) = ans from (Sl.ia_slash hkl h47).symm.trans Ha.out)
                have hcv := conv_owned Hown2.out
                have HOw := Lib.hid (own_keptS Hown.out Hbel2.out)
                have HBw := Lib.hid (Hbel.out.trans (Hbel2.out.mono hsz))
                clear h47 hx Ha Hown2
                go_wp2_with (at_builtin; refine app_str rfl (.tmp 84) (.tmp 87) rfl w.heap.size _ _ (Sl.mk cur) rfl rfl HOw.out (by rw [List.length_map]; omega) HBw.out.size ?_; intro v' w3 hown3 hb3)
                have HO3 := Lib.hid hown3
                have HB3 := Lib.hid (hb3 _ HBw.out)
                clear hown3 hb3
                go_wp2_with fail
                go_roundw
                case rel => exact ⟨k, o ++ [cur], hk, by rw [List.length_append, List.length_singleton]; omega, by go_num, HO.out, by rw [List.map_append]; exact HO3.out, HB3.out⟩
                case measure => simp [intOf]; omega
              · have v1 : ((s[k].toNat : Int) == 47) = false := by rw [beq_eq_false_iff_ne]; omega
                have v2 : ¬ (s[k].toNat : Int) = 47 := by omega
                by_cases h126 : bt s k = 126
                · have v3 : ((s[k].toNat : Int) == 126) = true := by rw [beq_iff_eq]; omega
                  have v4 : (s[k].toNat : Int) = 126 := by omega
                  by_cases hk1 : k + 1 < s.size
                  · have g3 : ¬ (s.size : Int) ≤ (k : Int) + 1 := by omega
                    have g4 : decide ((k : Int) + 1 ≥ (s.size : Int)) = false := decide_eq_false (by omega)
                    have g5 : decide ((s.size : Int) ≤ (k : Int) + 1) = false := decide_eq_false (by omega)
                    have g6 : (k : Int) + 1 < (s.size : Int) := by omega
                    have g7 : (0 : Int) ≤ (k : Int) + 1 := by omega
                    have hy := bt_at s (k + 1) hk1
                    by_cases h48 : bt s (k + 1) = 48
                    · have v5 : ((s[k + 1].toNat : Int) == 48) = true := by rw [beq_iff_eq]; omega
                      have v5n : ((s[k + 1].toNat : Int) != 48) = false := by unfold bne; rw [v5]; rfl
                      have v6 : (s[k + 1].toNat : Int) = 48 := by omega
                      have HI2 := Lib.hid (show Sl.ia s (k + 1 + 1) o (cur ++ [126]) = ans from (Sl.ia_t0 hk1 h126 h48).symm.trans Ha.out)
                      clear h47 h126 h48 hx hy Ha
                      go_wp2_with (at_builtin; refine app_u8 rfl (.tmp 76) (.tmp 77) rfl W0.heap.size _ _ 126 126 rfl rfl rfl Hown2.out (by omega) hsz2 ?_; intro v' w3 hown3 hb3)
                      have HO3 := Lib.hid hown3
                      have HB3 := Lib.hid (hb3 _ Hbel2.out)
                      clear hown3 hb3
                      go_wp2_with fail
                      go_roundw
                      case rel => exact ⟨k + 1 + 1, cur ++ [126], by omega, hk1, by rw [List.length_append, List.length_singleton]; omega, by go_num, HI2.out, HO3.out, HB3.out⟩
                      case measure => simp [intOf]; omega
                    · have v5 : ((s[k + 1].toNat : Int) == 48) = false := by rw [beq_eq_false_iff_ne]; omega
                      have v5n : ((s[k + 1].toNat : Int) != 48) = true := by unfold bne; rw [v5]; rfl
                      have v6 : ¬ (s[k + 1].toNat : Int) = 48 := by omega
                      by_cases h49 : bt s (k + 1) = 49
                      · have v7 : ((s[k + 1].toNat : Int) == 49) = true := by rw [beq_iff_eq]; omega
                        have v7n : ((s[k + 1].toNat : Int) != 49) = false := by unfold bne; rw [v7]; rfl
                        have v8 : (s[k + 1].toNat : Int) = 49 := by omega
                        have HI2 := Lib.hid (show Sl.ia s (k + 1 + 1) o (cur ++ [47]) = ans from (Sl.ia_t1 hk1 h126 h49).symm.trans Ha.out)
                        clear h47 h126 h48 h49 hx hy Ha
                        go_wp2_with (at_builtin; refine app_u8 rfl (.tmp 79) (.tmp 80) rfl W0.heap.size _ _ 47 47 rfl rfl rfl Hown2.out (by omega) hsz2 ?_; intro v' w3 hown3 hb3)
                        have HO3 := Lib.hid hown3
                        have HB3 := Lib.hid (hb3 _ Hbel2.out)
                        clear hown3 hb3
                        go_wp2_with fail
                        go_roundw
                        case rel => exact ⟨k + 1 + 1, cur ++ [47], by omega, hk1, by rw [List.length_append, List.length_singleton]; omega, by go_num, HI2.out, HO3.out, HB3.out⟩
                        case measure => simp [intOf]; omega
                      · have v7 : ((s[k + 1].toNat : Int) == 49) = false := by rw [beq_eq_false_iff_ne]; omega
                        have v7n : ((s[k + 1].toNat : Int) != 49) = true := by unfold bne; rw [v7]; rfl
                        have v8 : ¬ (s[k + 1].toNat : Int) = 49 := by omega
                        have HR := Lib.hid ((Sl.ia_bad hkl h126 h48 h49).symm.trans Ha.out)
                        have HBw := Lib.hid (Hbel.out.trans (Hbel2.out.mono hsz))
                        clear h47 h126 h48 h49 hx hy Ha
                        go_wp2_with fail
                        go_ret3
                        exact ⟨by rw [← HR.out]; exact congrArg Ending.returned (by go_num), HBw.out⟩
                  · have g3 : (s.size : Int) ≤ (k : Int) + 1 := by omega
                    have g4 : decide ((k : Int) + 1 ≥ (s.size : Int)) = true := decide_eq_true (by omega)
                    have g5 : decide ((s.size : Int) ≤ (k : Int) + 1) = true := decide_eq_true (by omega)
                    have hz := bt_end (s := s) (i := k + 1) (by omega)
                    have HR := Lib.hid ((Sl.ia_bad (o := o) (cur := cur) hkl h126 (by omega) (by omega)).symm.trans Ha.out)
                    have HBw := Lib.hid (Hbel.out.trans (Hbel2.out.mono hsz))
                    clear h47 h126 hx hz Ha
                    go_wp2_with fail
                    go_ret3
                    exact ⟨by rw [← HR.out]; exact congrArg Ending.returned (by go_num), HBw.out⟩
                · have v3 : ((s[k].toNat : Int) == 126) = false := by rw [beq_eq_false_iff_ne]; omega
                  have v4 : ¬ (s[k].toNat : Int) = 126 := by omega
                  have HI2 := Lib.hid (show Sl.ia s (k + 1) o (cur ++ [s[k]]) = ans from (Sl.ia_next hkl h47 h126).symm.trans Ha.out)
                  clear h47 h126 hx Ha
                  go_wp2_with (at_builtin; refine app_u8 rfl (.tmp 45) (.tmp 49) rfl W0.heap.size _ _ s[k] _ rfl rfl rfl Hown2.out (by omega) hsz2 ?_; intro v' w3 hown3 hb3)
                  have HO3 := Lib.hid hown3
                  have HB3 := Lib.hid (hb3 _ Hbel2.out)
                  clear hown3 hb3
                  go_wp2_with fail
                  go_roundw
                  case rel => exact ⟨k + 1, cur ++ [s[k]], by omega, hkl, by rw [List.length_append, List.length_singleton]; omega, by go_num, HI2.out, HO3.out, HB3.out⟩
                  case measure => simp [intOf]; omega
            · obtain rfl : k = s.size := by omega
              have w1 : decide ((s.size : Int) < (s.size : Int)) = false := decide_eq_false (by omega)
              have w2 : decide (s.size < s.size) = false := decide_eq_false (by omega)
              have HO := Lib.hid (show Sl.oa s s.size (o ++ [cur]) = ans from (Sl.ia_end (Nat.le_refl _)).symm.trans Ha.out)
              have hcv := conv_owned Hown2.out
              have HOw := Lib.hid (own_keptS Hown.out Hbel2.out)
              have HBw := Lib.hid (Hbel.out.trans (Hbel2.out.mono hsz))
              clear Ha Hown2
              go_wp2_with (at_builtin; refine app_str rfl (.tmp 84) (.tmp 87) rfl w.heap.size _ _ (Sl.mk cur) rfl rfl HOw.out (by rw [List.length_map]; omega) HBw.out.size ?_; intro v' w3 hown3 hb3)
              have HO3 := Lib.hid hown3
              have HB3 := Lib.hid (hb3 _ HBw.out)
              clear hown3 hb3
              go_wp2_with fail
              go_roundw
              case rel => exact ⟨s.size, o ++ [cur], Nat.le_refl _, by rw [List.length_append, List.length_singleton]; omega, by go_num, HO.out, by rw [List.map_append]; exact HO3.out, HB3.out⟩
              case measure => simp [intOf]; omega
        · have v1 : ((s[i].toNat : Int) == 47) = false := by rw [beq_eq_false_iff_ne]; omega
          have v2 : ¬ (s[i].toNat : Int) = 47 := by omega
          have HR := Lib.hid ((Sl.oa_bad (o := o) hlt h47).symm.trans Ha.out)
          clear h47 hx Ha
          go_wp2_with fail
          go_ret3
          exact ⟨by rw [← HR.out]; exact rfl, Hbel.out⟩
      · obtain rfl : i = s.size := by omega
        have u1 : decide ((s.size : Int) < (s.size : Int)) = false := decide_eq_false (by omega)
        have u2 : decide (s.size < s.size) = false := decide_eq_false (by omega)
        have HR := Lib.hid ((Sl.oa_end (o := o) hlt).symm.trans Ha.out)
        obtain ⟨A, c, hv, hc, hrd⟩ := own_strs Hown.out
        have HRd := Lib.hid hrd
        rw [List.length_map] at hv hc
        subst hv
        clear hrd Hown Ha
        go_wp2_with fail
        go_ret3
        exact ⟨by rw [← HR.out]; exact ⟨A, c, rfl, hc, HRd.out⟩, Hbel.out⟩
  · rw [prs_no hR]
    have hRl : 0 < R.length := List.length_pos_iff.2 hR
    have u0 : decide (((flat l).length : Int) < (s.size : Int)) = true := decide_eq_true (by omega)
    have u0' : decide ((flat l).length < s.size) = true := decide_eq_true (by omega)
    clear hsp hfz hR
    go_enter Tryz.func8, Tryz.ntmps8
    go_wp2_with fail
    refine HV.out.mono ?_
    rintro e w2 ⟨A0, c0, rfl, hr0, hb2⟩
    have H2 := Lib.hid hb2
    clear hb2 hr0 HV
    go_wp2_with fail
    go_ret3
    exact ⟨rfl, H2.out⟩
end Go.Proofs.YtmcacmhjhejfeaaGreatDoor
