/- Ints, words: contracts of the program's parser. -/
import Derived.Test.YtfbipnflgjhaiaaGreatDoorED
set_option linter.unusedVariables false
set_option maxRecDepth 100000
set_option maxHeartbeats 8000000
open Go.Lib (hid)
namespace Go.Proofs.YtfbipnflgjhaiaaGreatDoor
open Go.RowKit
open Tk Ex
def LevP (res : Res) (b : Nat) (s : ByteArray) (w : World) (e : Ending) (w' : World) : Prop := match res with
 | .out => True
 | .err p c => e = .returned (.pointer (padr none)) ∧ Aside b w w' ∧ Noted w' b s p c
 | .ok x p => ∃ g, e = .returned (.pointer (padr (some g))) ∧ PartAt w' (fun q => w.heap.size ≤ q ∧ q < w'.heap.size) g x ∧ Aside b w w' ∧ Px w' b s p
theorem LevP.leaf {b g p : Nat} {s : ByteArray} {w w1 w' : World} {o n : ByteArray} {v : T} (ha : Aside b w w1) (hp : Px w1 b s p) (h1 : v.items = []) (h2 : v.keys = []) (hg : w1.heap.size ≤ g) (hb : Blk w' g 93 #[.string o, .string n, .int .i64 v.kind, .bool v.tr, .int .i64 v.num, .string v.str, .slice none 0 0, .slice none 0 0, .slice none 0 0, .int .i64 1]) (hw : Below w1.heap.size w1 w') : LevP (.ok (.mk o n v []) p) b s w (.returned (.pointer (padr (some g)))) w' :=
 ⟨g, rfl, PartAt.leaf ⟨Nat.le_trans ha.size hg, hb.lt⟩ h1 h2 hb, ha.then (Aside.of hw), hp.onto hw⟩
theorem dig_form {s : ByteArray} {a e : Nat} (hae : a < e) (he : e ≤ s.size) (hd : ∀ k, a ≤ k → k < e → isDg (bt s k) = true) (h0 : ¬ (bt s a = 48 ∧ a + 1 < e)) : De.form (sub s a e).data.toList = true := by
 have ha : a < s.size := by omega
 have h45 : bt s a ≠ 45 := by have := isDg_iff.1 (hd a (Nat.le_refl _) hae); omega
 obtain ⟨n, hn⟩ : ∃ n, e - a = n + 1 := ⟨e - a - 1, by omega⟩
 unfold De.form
 have hdg : De.digs (sub s a e).data.toList = (s.data.toList.drop a).take (e - a) := by
  unfold De.digs
  rw [sub_list, if_neg]
  rw [hn, drop_cons ha, List.take_succ_cons, List.head?_cons]
  intro h6
  injection h6 with h6
  exact h45 ((bt_eq ha (by decide)).2 h6)
 rw [hdg]
 unfold De.formD
 rw [hn, digs_all (n + 1) a (by omega) (fun k h5 h6 => hd k h5 (by omega)), drop_cons ha, List.take_succ_cons]
 simp only [List.isEmpty_cons, Bool.not_false, Bool.true_and, List.head?_cons, Bool.or_eq_true, decide_eq_true_eq, Bool.not_eq_true']
 by_cases h5 : bt s a = 48
 ·
  left
  have : n = 0 := by
   rcases Nat.eq_zero_or_pos n with h6 | h6
   · exact h6
   · exact absurd ⟨h5, by omega⟩ h0
  subst this
  simp
 ·
  right
  rw [beq_eq_false_iff_ne]
  intro h6
  injection h6 with h6
  exact h5 ((bt_eq ha (by decide)).2 h6)
theorem xint_any (
 b : Nat) (s : ByteArray) (i a : Nat) (w : World) (hs : s.size ≤ 50000) (h : Px w b s i) (hE : Err8 b w) (hd : isDg (bt s a) = true) : Calls Tryz.prog 114 #[.pointer (some ⟨b, 0, none⟩), .int .i64 a] w (LevP (num s a) b s w) := by
 have ha := dg_lt hd
 have h1 := span_pos ha hd
 have h2 := span_le isDg (s := s) (i := a) (Nat.le_of_lt ha)
 have HF := hid (fun h0 => dig_form h1 h2 (fun k h3 h4 => span_in (p := isDg) h3 h4) h0)
 have HIN := hid (fun (k : Nat) (h3 : a ≤ k) (h4 : k < span isDg s a) => span_in (p := isDg) (s := s) h3 h4)
 have HOUT := hid (fun (h3 : span isDg s a < s.size) => span_out (p := isDg) h3)
 have HNUM := hid (show num s a = if bt s a = 48 ∧ a + 1 < span isDg s a then .err (a + 1) 1
 else if Tk.In64 (De.numL (sub s a (span isDg s a)).data.toList) then
  (if goes (bt s (span isDg s a)) = true then .err (span isDg s a) 1 else .ok (litE (Rd.numT (De.numL (sub s a (span isDg s a)).data.toList))) (span isDg s a))
 else .err a 4 from rfl)
 generalize num s a = R at *
 obtain ⟨z, hz⟩ : ∃ z, span isDg s a = z := ⟨_, rfl⟩
 rw [hz] at h1 h2 HF HIN HOUT HNUM
 have k0 := h.c0
 have HP := hid h
 have HE := hid hE.err
 have hbl := h.lt
 clear h hE hd hz
 go_enter Tryz.func114, Tryz.ntmps114
 go_wp2_with fail
 go_loop [5] (fun x => ∃ k : Nat, a ≤ k ∧ k ≤ z ∧ x = .int .i64 k) (fun x => z - (intOf x).toNat)
 case atStart => exact ⟨a, Nat.le_refl _, Nat.le_of_lt h1, rfl⟩
 case round =>
  obtain ⟨k, hk1, hk2, rfl⟩ := hrel
  by_cases hlt : k < z
  ·
   have hk : k < s.size := by omega
   have u1 : decide (k < s.size) = true := decide_eq_true hk
   have u2 : decide ((k : Int) < (s.size : Int)) = true := decide_eq_true (by omega)
   have i1 : (k : Int) < (s.size : Int) := by omega
   have i2 : (0 : Int) ≤ (k : Int) := by omega
   have HD := hid (xdigit_any (bt s k))
   rw [HIN.out k hk1 hlt] at HD
   have HB := hid (bt_at s k hk)
   go_wp2_with fail
   rw [HB.out]
   refine (HD.out _).mono ?_
   rintro e w3 ⟨rfl, rfl⟩
   go_wp2_with fail
   go_round
   case rel => exact ⟨k + 1, by omega, hlt, by go_num⟩
   case measure => simp [intOf]; omega
  ·
   obtain rfl : k = z := by omega
   by_cases hk : k < s.size
   ·
    have u1 : decide (k < s.size) = true := decide_eq_true hk
    have u2 : decide ((k : Int) < (s.size : Int)) = true := decide_eq_true (by omega)
    have i2 : (0 : Int) ≤ (k : Int) := by omega
    have i3 : (0 : Int) ≤ (a : Int) := by omega
    have i4 : (a : Int) < (s.size : Int) := by omega
    have i5 : (a : Int) ≤ (k : Int) := by omega
    have i6 : (k : Int) ≤ (s.size : Int) := by omega
    have HA0 := hid (bt_at s a ha)
    have i1 : (k : Int) < (s.size : Int) := by omega
    have HD := hid (xdigit_any (bt s k))
    rw [HOUT.out hk] at HD
    have HB := hid (bt_at s k hk)
    have HG := hid (show goes (bt s k) = isIn (bt s k) by unfold goes; rw [HOUT.out hk, Bool.or_false])
    by_cases h48 : bt s a = 48 ∧ a + 1 < k
    ·
     have HR := hid (show R = .err (a + 1) 1 by rw [HNUM.out, if_pos h48])
     have v1 : ((s[a].toNat : Int) == 48) = true := by rw [HA0.out, h48.1]; rfl
     have v2 : decide ((k : Int) > (a : Int) + 1) = true := decide_eq_true (by omega)
     have v3 : decide ((a : Int) + 1 < (k : Int)) = true := decide_eq_true (by omega)
     clear h48
     go_wp2_with fail
     rw [HB.out]
     refine (HD.out _).mono ?_
     rintro e w3 ⟨rfl, rfl⟩
     go_wp2_with fail
     refine (xfail_any b s i (a + 1) 1 _ HP.out).mono ?_
     rintro e w4 ⟨rfl, ha4, hn4⟩
     have HA4 := hid ha4
     have HN4 := hid hn4
     clear ha4 hn4
     go_wp2_with fail
     go_ret
     rw [HR.out]
     exact ⟨rfl, HA4.out, HN4.out⟩
    ·
     have HFO := hid (HF.out h48)
     have hcase : bt s a ≠ 48 ∨ (bt s a = 48 ∧ ¬ a + 1 < k) := by omega
     have HN2 := hid (HNUM.out.trans (if_neg h48))
     obtain ⟨SB, hsb⟩ : ∃ SB, sub s a k = SB := ⟨_, rfl⟩
     have hsbz : SB.size = k - a := by rw [← hsb]; exact sub_size h2
     rw [hsb] at HFO HN2
     have HSB := hid (show s.extract a k = SB from hsb)
     clear h48 hsb HNUM HF
     by_cases hin : Tk.In64 (De.numL SB.data.toList)
     ·
      have HPK := hid (fun w1 => W2.parse_ok SB w1 (by omega) HFO.out hin)
      have HN3 := hid (HN2.out.trans (if_pos hin))
      generalize De.numL SB.data.toList = nn at *
      clear hin HN2 HFO
      cases hgo : goes (bt s k) with
      | true =>
       have HR := hid (show R = .err k 1 from HN3.out.trans (if_pos hgo))
       have HWI := hid (xwithin_any (bt s k))
       rw [← HG.out, hgo] at HWI
       clear hgo HN3
       rcases hcase with h48 | ⟨h48, h49⟩
       all_goals
        first
         | have v1 : ((s[a].toNat : Int) == 48) = false := by rw [HA0.out, beq_eq_false_iff_ne]; omega
         | have v1 : ((s[a].toNat : Int) == 48) = true := by rw [HA0.out, h48]; rfl
        try have v2 : decide ((k : Int) > (a : Int) + 1) = false := decide_eq_false (by omega)
        try have v3 : decide ((a : Int) + 1 < (k : Int)) = false := decide_eq_false (by omega)
        try clear h49
        clear h48
        go_wp2_with fail
        rw [HB.out]
        refine (HD.out _).mono ?_
        rintro e w3 ⟨rfl, rfl⟩
        go_wp2_with fail
        rw [HSB.out]
        refine (HPK.out _).mono ?_
        rintro e w4 ⟨rfl, hb4⟩
        have H4 := hid hb4
        have HP4 := hid (HP.out.onto hb4)
        have k4 := HP4.out.c0
        clear hb4
        go_wp2_with fail
        rw [HB.out]
        refine (HWI.out _).mono ?_
        rintro e w5 ⟨rfl, rfl⟩
        go_wp2_with fail
        refine (xfail_any b s i k 1 _ HP4.out).mono ?_
        rintro e w5 ⟨rfl, ha4, hn4⟩
        have HA4 := hid ((Aside.of H4.out : Aside b w w4).then ha4)
        have HN4 := hid hn4
        clear ha4 hn4
        go_wp2_with fail
        go_ret
        rw [HR.out]
        exact ⟨rfl, HA4.out, HN4.out⟩
      | false =>
       have HR := hid (show R = .ok (litE (Rd.numT nn)) k from HN3.out.trans (if_neg (by rw [hgo]; decide)))
       have HWI := hid (xwithin_any (bt s k))
       rw [← HG.out, hgo] at HWI
       clear hgo HN3
       rcases hcase with h48 | ⟨h48, h49⟩
       all_goals
        first
         | have v1 : ((s[a].toNat : Int) == 48) = false := by rw [HA0.out, beq_eq_false_iff_ne]; omega
         | have v1 : ((s[a].toNat : Int) == 48) = true := by rw [HA0.out, h48]; rfl
        try have v2 : decide ((k : Int) > (a : Int) + 1) = false := decide_eq_false (by omega)
        try have v3 : decide ((a : Int) + 1 < (k : Int)) = false := decide_eq_false (by omega)
        try clear h49
        clear h48
        go_wp2_with fail
        rw [HB.out]
        refine (HD.out _).mono ?_
        rintro e w3 ⟨rfl, rfl⟩
        go_wp2_with fail
        rw [HSB.out]
        refine (HPK.out _).mono ?_
        rintro e w4 ⟨rfl, hb4⟩
        have H4 := hid hb4
        have HP4 := hid (HP.out.onto hb4)
        have k4 := HP4.out.c0
        clear hb4
        go_wp2_with fail
        rw [HB.out]
        refine (HWI.out _).mono ?_
        rintro e w5 ⟨rfl, rfl⟩
        have q1 := HP4.out.c1
        have x1 := HP4.out.f 1
        go_wp2_with fail
        have hpm := HP4.out.move k
        have ham := (Aside.of H4.out : Aside b w w4).set (o := 1) (.int .i64 (k : Int))
        generalize w4.setCell ⟨b, 1, none⟩ (.int .i64 (k : Int)) = W5 at *
        have HPM := hid hpm
        have HAM := hid ham
        clear hpm ham q1 x1 k4
        refine (xnumber_any nn W5).mono ?_
        rintro e w6 ⟨rfl, hb6⟩
        have HAM6 := hid (HAM.out.then (Aside.of hb6))
        have HPM6 := hid (HPM.out.onto hb6)
        clear hb6
        go_wp2_with fail
        refine (xlit_any (.int .i64 2) (.bool false) (.int .i64 nn) (.string ⟨#[]⟩) (.slice none 0 0) (.slice none 0 0) w6).mono ?_
        rintro e w7 ⟨g, rfl, hg, hb, hb7⟩
        have HG7 := hid hg
        have HB7 := hid hb
        have H7 := hid hb7
        clear hg hb hb7
        go_wp2_with fail
        go_ret
        rw [HR.out]
        exact LevP.leaf (v := Rd.numT nn) HAM6.out HPM6.out rfl rfl HG7.out HB7.out H7.out
     ·
      have HPK := hid (fun w1 (hr : RangeErr w1) => by
       obtain ⟨tp, pv, hv⟩ := hr
       exact W2.parse_far SB tp pv w1 (by omega) HFO.out hin hv)
      have HR := hid (show R = .err a 4 from HN2.out.trans (if_neg hin))
      clear hin HN2 HFO
      rcases hcase with h48 | ⟨h48, h49⟩
      all_goals
       first
        | have v1 : ((s[a].toNat : Int) == 48) = false := by rw [HA0.out, beq_eq_false_iff_ne]; omega
        | have v1 : ((s[a].toNat : Int) == 48) = true := by rw [HA0.out, h48]; rfl
       try have v2 : decide ((k : Int) > (a : Int) + 1) = false := decide_eq_false (by omega)
       try have v3 : decide ((a : Int) + 1 < (k : Int)) = false := decide_eq_false (by omega)
       try clear h49
       clear h48
       go_wp2_with fail
       rw [HB.out]
       refine (HD.out _).mono ?_
       rintro e w3 ⟨rfl, rfl⟩
       go_wp2_with fail
       rw [HSB.out]
       refine (HPK.out _ HE.out).mono ?_
       rintro e w4 ⟨rfl, hb4⟩
       have H4 := hid hb4
       have HP4 := hid (HP.out.onto hb4)
       clear hb4
       go_wp2_with fail
       refine (xfail_any b s i a 4 _ HP4.out).mono ?_
       rintro e w5 ⟨rfl, ha4, hn4⟩
       have HA4 := hid ((Aside.of H4.out : Aside b w w4).then ha4)
       have HN4 := hid hn4
       clear ha4 hn4
       go_wp2_with fail
       go_ret
       rw [HR.out]
       exact ⟨rfl, HA4.out, HN4.out⟩
   ·
    have u1 : decide (k < s.size) = false := decide_eq_false hk
    have u2 : decide ((k : Int) < (s.size : Int)) = false := decide_eq_false (by omega)
    have i2 : (0 : Int) ≤ (k : Int) := by omega
    have i3 : (0 : Int) ≤ (a : Int) := by omega
    have i4 : (a : Int) < (s.size : Int) := by omega
    have i5 : (a : Int) ≤ (k : Int) := by omega
    have i6 : (k : Int) ≤ (s.size : Int) := by omega
    have HA0 := hid (bt_at s a ha)
    have HG := hid (show goes (bt s k) = false by rw [bt_end (by omega)]; rfl)
    by_cases h48 : bt s a = 48 ∧ a + 1 < k
    ·
     have HR := hid (show R = .err (a + 1) 1 by rw [HNUM.out, if_pos h48])
     have v1 : ((s[a].toNat : Int) == 48) = true := by rw [HA0.out, h48.1]; rfl
     have v2 : decide ((k : Int) > (a : Int) + 1) = true := decide_eq_true (by omega)
     have v3 : decide ((a : Int) + 1 < (k : Int)) = true := decide_eq_true (by omega)
     clear h48
     go_wp2_with fail
     refine (xfail_any b s i (a + 1) 1 _ HP.out).mono ?_
     rintro e w4 ⟨rfl, ha4, hn4⟩
     have HA4 := hid ha4
     have HN4 := hid hn4
     clear ha4 hn4
     go_wp2_with fail
     go_ret
     rw [HR.out]
     exact ⟨rfl, HA4.out, HN4.out⟩
    ·
     have HFO := hid (HF.out h48)
     have hcase : bt s a ≠ 48 ∨ (bt s a = 48 ∧ ¬ a + 1 < k) := by omega
     have HN2 := hid (HNUM.out.trans (if_neg h48))
     obtain ⟨SB, hsb⟩ : ∃ SB, sub s a k = SB := ⟨_, rfl⟩
     have hsbz : SB.size = k - a := by rw [← hsb]; exact sub_size h2
     rw [hsb] at HFO HN2
     have HSB := hid (show s.extract a k = SB from hsb)
     clear h48 hsb HNUM HF
     by_cases hin : Tk.In64 (De.numL SB.data.toList)
     ·
      have HPK := hid (fun w1 => W2.parse_ok SB w1 (by omega) HFO.out hin)
      have HN3 := hid (HN2.out.trans (if_pos hin))
      generalize De.numL SB.data.toList = nn at *
      clear hin HN2 HFO
      cases hgo : goes (bt s k) with
      | true =>
       rw [HG.out] at hgo
       cases hgo
      | false =>
       have HR := hid (show R = .ok (litE (Rd.numT nn)) k from HN3.out.trans (if_neg (by rw [hgo]; decide)))
       clear hgo HN3
       rcases hcase with h48 | ⟨h48, h49⟩
       all_goals
        first
         | have v1 : ((s[a].toNat : Int) == 48) = false := by rw [HA0.out, beq_eq_false_iff_ne]; omega
         | have v1 : ((s[a].toNat : Int) == 48) = true := by rw [HA0.out, h48]; rfl
        try have v2 : decide ((k : Int) > (a : Int) + 1) = false := decide_eq_false (by omega)
        try have v3 : decide ((a : Int) + 1 < (k : Int)) = false := decide_eq_false (by omega)
        try clear h49
        clear h48
        go_wp2_with fail
        rw [HSB.out]
        refine (HPK.out _).mono ?_
        rintro e w4 ⟨rfl, hb4⟩
        have H4 := hid hb4
        have HP4 := hid (HP.out.onto hb4)
        have k4 := HP4.out.c0
        clear hb4
        have q1 := HP4.out.c1
        have x1 := HP4.out.f 1
        go_wp2_with fail
        have hpm := HP4.out.move k
        have ham := (Aside.of H4.out : Aside b w w4).set (o := 1) (.int .i64 (k : Int))
        generalize w4.setCell ⟨b, 1, none⟩ (.int .i64 (k : Int)) = W5 at *
        have HPM := hid hpm
        have HAM := hid ham
        clear hpm ham q1 x1 k4
        refine (xnumber_any nn W5).mono ?_
        rintro e w6 ⟨rfl, hb6⟩
        have HAM6 := hid (HAM.out.then (Aside.of hb6))
        have HPM6 := hid (HPM.out.onto hb6)
        clear hb6
        go_wp2_with fail
        refine (xlit_any (.int .i64 2) (.bool false) (.int .i64 nn) (.string ⟨#[]⟩) (.slice none 0 0) (.slice none 0 0) w6).mono ?_
        rintro e w7 ⟨g, rfl, hg, hb, hb7⟩
        have HG7 := hid hg
        have HB7 := hid hb
        have H7 := hid hb7
        clear hg hb hb7
        go_wp2_with fail
        go_ret
        rw [HR.out]
        exact LevP.leaf (v := Rd.numT nn) HAM6.out HPM6.out rfl rfl HG7.out HB7.out H7.out
     ·
      have HPK := hid (fun w1 (hr : RangeErr w1) => by
       obtain ⟨tp, pv, hv⟩ := hr
       exact W2.parse_far SB tp pv w1 (by omega) HFO.out hin hv)
      have HR := hid (show R = .err a 4 from HN2.out.trans (if_neg hin))
      clear hin HN2 HFO
      rcases hcase with h48 | ⟨h48, h49⟩
      all_goals
       first
        | have v1 : ((s[a].toNat : Int) == 48) = false := by rw [HA0.out, beq_eq_false_iff_ne]; omega
        | have v1 : ((s[a].toNat : Int) == 48) = true := by rw [HA0.out, h48]; rfl
       try have v2 : decide ((k : Int) > (a : Int) + 1) = false := decide_eq_false (by omega)
       try have v3 : decide ((a : Int) + 1 < (k : Int)) = false := decide_eq_false (by omega)
       try clear h49
       clear h48
       go_wp2_with fail
       rw [HSB.out]
       refine (HPK.out _ HE.out).mono ?_
       rintro e w4 ⟨rfl, hb4⟩
       have H4 := hid hb4
       have HP4 := hid (HP.out.onto hb4)
       clear hb4
       go_wp2_with fail
       refine (xfail_any b s i a 4 _ HP4.out).mono ?_
       rintro e w5 ⟨rfl, ha4, hn4⟩
       have HA4 := hid ((Aside.of H4.out : Aside b w w4).then ha4)
       have HN4 := hid hn4
       clear ha4 hn4
       go_wp2_with fail
       go_ret
       rw [HR.out]
       exact ⟨rfl, HA4.out, HN4.out⟩
end Go.Proofs.YtfbipnflgjhaiaaGreatDoor
