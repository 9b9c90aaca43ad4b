/- The reference's number within an expression: contract. -/
import Derived.Test.YtfbipnflgjhaiaaGreatDoorYA
import Derived.Test.YtfbipnflgjhaiaaGreatDoorNC
set_option linter.unusedVariables false
set_option maxRecDepth 100000
set_option maxHeartbeats 8000000
open Go.Lib (hid)
namespace Go.Proofs.YtfbipnflgjhaiaaGreatDoor
open Go.RowKit
open Tk Ex
open Pl
theorem form_num {s : ByteArray} {a : Nat} (h : isDg (bt s a) = true) (h0 : ¬ (bt s a = 48 ∧ a + 1 < span isDg s a)) : De.form (sub s a (span isDg s a)).data.toList = true := by
 have hl : a < s.size := dg_lt h
 have hp := span_pos (p := isDg) hl h
 have hle := span_le isDg (Nat.le_of_lt hl)
 have hall := digs_all (s := s) (span isDg s a - a) a (by omega) (fun k h1 h2 => span_in (p := isDg) h1 (by omega))
 rw [sub_list]
 obtain ⟨m, hm⟩ : ∃ m, span isDg s a - a = m + 1 := ⟨span isDg s a - a - 1, by omega⟩
 have hlen : ((s.data.toList.drop a).take (span isDg s a - a)).length = span isDg s a - a := by
  rw [List.length_take, List.length_drop, size_toList]; omega
 rw [hm] at hall hlen ⊢
 have hd := isDg_iff.1 h
 have hb := bt_at s a hl
 rw [drop_cons hl, List.take_succ_cons] at hall hlen ⊢
 have h45 : (s[a] : UInt8) ≠ 45 := fun e => by
  rw [e] at hb
  have : bt s a = 45 := hb.symm
  omega
 unfold De.form De.digs
 rw [List.head?_cons, if_neg (by intro e; injection e with e; exact h45 e)]
 unfold De.formD
 rw [hall]
 have h2 : (decide ((s[a] :: List.take m (List.drop (a + 1) s.data.toList)).length = 1) || !((s[a] :: List.take m (List.drop (a + 1) s.data.toList)).head? == some 48)) = true := by
  by_cases h48 : bt s a = 48
  ·
   have : span isDg s a = a + 1 := by
    rcases Nat.lt_or_ge (a + 1) (span isDg s a) with h3 | h3
    · exact absurd ⟨h48, h3⟩ h0
    · omega
   rw [decide_eq_true (by rw [hlen]; omega)]; rfl
  ·
   have hne : (s[a] : UInt8) ≠ 48 := fun e => by
    rw [e] at hb
    exact h48 hb.symm
   rw [List.head?_cons, show (some s[a] == some (48 : UInt8)) = false from by
    rw [beq_eq_false_iff_ne]; intro e; injection e with e; exact hne e]
   simp
 rw [h2]
 simp
theorem r8number_any (s : ByteArray) (a : Nat) (w : World) (hs : s.size ≤ 20000) (hd : s.size ≤ a + 2600) (h : isDg (bt s a) = true) : Calls Tryz.prog 53 #[.string s, .int .i64 a] w (ReadR (num s a) w) := by
 have hl : a < s.size := dg_lt h
 have hp := span_pos (p := isDg) hl h
 have hle := span_le isDg (Nat.le_of_lt hl)
 have hN : num s a = (if bt s a = 48 ∧ a + 1 < span isDg s a then .err (a + 1) 1
  else if Tk.In64 (De.numL (sub s a (span isDg s a)).data.toList) then
   (if goes (bt s (span isDg s a)) = true then .err (span isDg s a) 1 else .ok (litE (Rd.numT (De.numL (sub s a (span isDg s a)).data.toList))) (span isDg s a))
  else .err a 4) := rfl
 have HN := hid hN
 have HFM := hid (fun h0 => form_num h h0)
 generalize num s a = R at *
 have HDG := hid (fun k w1 => r8digit_any s k w1 (by omega : s.size ≤ 1000000))
 have HIN := hid (fun k h1 h2 => span_in (p := isDg) (s := s) (i := a) (k := k) h1 h2)
 have HOUT := hid (show isDg (bt s (span isDg s a)) = false from by
  rcases Nat.lt_or_ge (span isDg s a) s.size with h | h
  · exact span_out (p := isDg) h
  · rw [bt_end h]; rfl)
 have HGO := hid (fun w1 => r8goes_any s (span isDg s a) w1 (by omega : s.size ≤ 1000000))
 have hb0 := bt_at s a hl
 have HSUB := hid (show sub s a (span isDg s a) = s.extract a (span isDg s a) from rfl)
 have c48 : ((s[a].toNat : Int) == 48) = decide (bt s a = 48) := by
  rw [hb0]
  by_cases e : bt s a = 48
  · rw [decide_eq_true e, beq_iff_eq]; omega
  · rw [decide_eq_false e, beq_eq_false_iff_ne]; omega
 clear hN h hb0
 generalize hE : span isDg s a = E at *
 clear hE
 have i1 : (0 : Int) ≤ (a : Int) := by omega
 have i2 : (a : Int) < (s.size : Int) := by omega
 have i3 : (a : Int) ≤ (E : Int) := by omega
 have i4 : (E : Int) ≤ (s.size : Int) := by omega
 go_enter Tryz.func53, Tryz.ntmps53
 go_upto_region 1 with fail
 refine alloc_gen (fun W hW kG hWs => ?_)
 have HWS := hid hWs
 have hGW := kG.lt
 generalize hG : w.heap.size = G at *
 have HG := hid hG
 have HW := hid hW
 have KG := hid kG
 clear hW kG hWs hG
 go_wp2_with fail
 go_loop [5] (fun i => ∃ k : Nat, a ≤ k ∧ k ≤ E ∧ i = .int .i64 k) (fun i => E - (intOf i).toNat)
 case atStart => exact ⟨a, Nat.le_refl _, by omega, rfl⟩
 case round =>
  obtain ⟨k, h1, h2, rfl⟩ := hrel
  have HK := hid (fun w1 => HDG.out k w1)
  by_cases hlt : k < E
  ·
   have hin := HIN.out k h1 hlt
   rw [hin] at HK
   clear hin
   have hk : (k : Int) + 1 ≤ 1000000 := by omega
   go_wp2_with fail
   refine (HK.out _).mono ?_
   rintro e w2 ⟨rfl, rfl⟩
   go_wp2_with fail
   go_round
   case rel => exact ⟨k + 1, by omega, by omega, by go_num⟩
   case measure => simp only [intOf, Int.toNat_natCast]; go_num
  ·
   obtain rfl : k = E := by omega
   have hout := HOUT.out
   rw [hout] at HK
   clear hout hlt
   by_cases h0 : bt s a = 48 ∧ a + 1 < k
   ·
    have HR := hid (HN.out.trans (if_pos h0))
    have u1 : decide (bt s a = 48) = true := decide_eq_true h0.1
    have u2 : decide ((k : Int) > (a : Int) + 1) = true := decide_eq_true (by omega)
    have u3 : decide ((a : Int) + 1 < (k : Int)) = true := decide_eq_true (by omega)
    rw [u1] at c48
    clear h0 u1
    go_wp2_with fail
    refine (HK.out _).mono ?_
    rintro e w2 ⟨rfl, rfl⟩
    go_wp2_with fail
    refine (r8wrong_any _ _ _).mono ?_
    rintro e w2 ⟨rfl, hb2⟩
    have KG9 := hid (KG.out.onto hb2)
    have HB9 := hid (HW.out.trans (hb2.mono (by omega)))
    clear hb2
    obtain ⟨y0, y1, y2, y3, y4, y5, y6, y7, y8, y9, y10, z0, z1, z2, z3, z4, z5, z6, z7, z8, z9, z10, x0, x1, x2, x3, x4, x5, x6, x7, x8, x9, x10⟩ := old11 KG9.out
    go_wp2_with fail
    refine put11_gen KG9.out _ _ _ _ _ _ _ _ _ _ _ (fun WF hf0 hf1 hf2 hf3 => ?_)
    have HF := hid hf0
    have HFB := hid ((hf1 _ _ HB9.out (Nat.le_refl G)))
    clear z0 x0 z1 x1 z2 x2 z3 x3 z4 x4 z5 x5 z6 x6 z7 x7 z8 x8 z9 x9 z10 x10
    clear hf0 hf1 hf2 hf3
    obtain ⟨c0, c1, c2, c3, c4, c5, c6, c7, c8, c9, c10⟩ := all11 HF.out
    refine bodyPost_ret (v := .agg #[.string ⟨#[]⟩, .string ⟨#[]⟩, .int .i64 0, .bool false, .int .i64 0, .string ⟨#[]⟩, .slice none 0 0, .slice none 0 0, .slice none 0 0, .int .i64 ((a : Int) + 1), .int .i64 1]) (by simp [results, Tryz.results53, go_sem, c0, c1, c2, c3, c4, c5, c6, c7, c8, c9, c10]) rfl ?_
    rw [HR.out]
    exact ⟨by unfold wcs; rfl, by decide, by rw [HG.out]; exact HFB.out⟩
   ·
    have HR := hid (HN.out.trans (if_neg h0))
    have HFF := hid (HFM.out h0)
    have hsz : (s.extract a k).size ≤ 2600 := by rw [ByteArray.size_extract]; omega
    rw [HSUB.out] at HFF HR
    have hcc : ((s[a].toNat : Int) == 48 && decide ((a : Int) + 1 < (k : Int))) = false := by
     rw [c48]
     by_cases e : bt s a = 48
     ·
      have : ¬ a + 1 < k := fun h => h0 ⟨e, h⟩
      rw [decide_eq_false (show ¬ (a : Int) + 1 < (k : Int) by omega)]; simp
     · rw [decide_eq_false e]; rfl
    clear h0
    by_cases e48 : bt s a = 48
    ·
     rw [decide_eq_true e48] at c48
     have u2 : decide ((k : Int) > (a : Int) + 1) = false := by rw [c48] at hcc; simpa using hcc
     have u3 : decide ((a : Int) + 1 < (k : Int)) = false := u2
     clear hcc e48
     by_cases h64 : Tk.In64 (De.numL (s.extract a k).data.toList)
     ·
      have HR1 := hid (HR.out.trans (if_pos h64))
      have H64 := hid (show In64 (De.numL (s.extract a k).data.toList) from ⟨h64.1, h64.2⟩)
      clear h64
      go_wp2_with fail
      refine (HK.out _).mono ?_
      rintro e w2 ⟨rfl, rfl⟩
      go_wp2_with fail
      refine (W2.rparse_ok _ _ hsz HFF.out H64.out).mono ?_
      rintro e w5 ⟨b5, A5, n5, c5, rfl, hnz, hb5⟩
      have HB5 := hid hb5
      have HNZ := hid hnz
      clear hnz hb5
      go_upto_region 7 with fail
      refine alloc_gn (fun W6 hb6 hk6 => ?_)
      have hnz6 : W2.Nz W6 W6.heap.size (.agg #[.bool b5, .slice A5 n5 c5]) (De.numL (s.extract a k).data.toList) := W2.Nz.on HNZ.out hb6
      have HB6 := hid (HB5.out.trans (hb6.mono HB5.out.size))
      have HNZ6 := hid hnz6
      have d0 := hk6.cell 0
      have d1 := hk6.cell 1
      clear hb6 hk6 hnz6 HNZ HB5
      generalize w5.heap.size = K6 at *
      generalize De.numL (s.extract a k).data.toList = n at *
      cases hg : goes (bt s k) with
      | true =>
       have HR2 := hid (HR1.out.trans (if_pos hg))
       rw [hg] at HGO
       clear hg
       go_wp2_with fail
       refine (HGO.out _).mono ?_
       rintro e w7 ⟨rfl, rfl⟩
       go_wp2_with fail
       refine (r8wrong_any _ _ _).mono ?_
       rintro e w2 ⟨rfl, hb2⟩
       have hb6 := HB6.out.trans (hb2.mono HB6.out.size)
       clear hb2 d0 d1
       have KG9 := hid (KG.out.onto hb6)
       have HB9 := hid (HW.out.trans (hb6.mono (by omega)))
       clear hb6
       obtain ⟨y0, y1, y2, y3, y4, y5, y6, y7, y8, y9, y10, z0, z1, z2, z3, z4, z5, z6, z7, z8, z9, z10, x0, x1, x2, x3, x4, x5, x6, x7, x8, x9, x10⟩ := old11 KG9.out
       go_wp2_with fail
       refine put11_gen KG9.out _ _ _ _ _ _ _ _ _ _ _ (fun WF hf0 hf1 hf2 hf3 => ?_)
       have HF := hid hf0
       have HFB := hid ((hf1 _ _ HB9.out (Nat.le_refl G)))
       clear z0 x0 z1 x1 z2 x2 z3 x3 z4 x4 z5 x5 z6 x6 z7 x7 z8 x8 z9 x9 z10 x10
       clear hf0 hf1 hf2 hf3
       obtain ⟨c0, c1, c2, c3, c4, c5, c6, c7, c8, c9, c10⟩ := all11 HF.out
       refine bodyPost_ret (v := .agg #[.string ⟨#[]⟩, .string ⟨#[]⟩, .int .i64 0, .bool false, .int .i64 0, .string ⟨#[]⟩, .slice none 0 0, .slice none 0 0, .slice none 0 0, .int .i64 (k : Int), .int .i64 1]) (by simp [results, Tryz.results53, go_sem, c0, c1, c2, c3, c4, c5, c6, c7, c8, c9, c10]) rfl ?_
       rw [HR2.out]
       exact ⟨by unfold wcs; rfl, by decide, by rw [HG.out]; exact HFB.out⟩
      | false =>
       have HR2 := hid (HR1.out.trans (if_neg (by rw [hg]; decide)))
       rw [hg] at HGO
       clear hg
       go_wp2_with fail
       refine (HGO.out _).mono ?_
       rintro e w7 ⟨rfl, rfl⟩
       go_wp2_with fail
       refine (W2.int_any _ n _ HNZ6.out H64.out).mono ?_
       rintro e w8 ⟨rfl, hb8⟩
       have HB8 := hid (HB6.out.trans (hb8.mono HB6.out.size))
       clear hb8 d0 d1
       go_wp2_with fail
       refine (r8literal_any 2 false n ⟨#[]⟩ _ _).mono ?_
       rintro e w2 ⟨rfl, hb2⟩
       have hb6 := HB8.out.trans (hb2.mono HB8.out.size)
       clear hb2
       have KG9 := hid (KG.out.onto hb6)
       have HB9 := hid (HW.out.trans (hb6.mono (by omega)))
       clear hb6
       obtain ⟨y0, y1, y2, y3, y4, y5, y6, y7, y8, y9, y10, z0, z1, z2, z3, z4, z5, z6, z7, z8, z9, z10, x0, x1, x2, x3, x4, x5, x6, x7, x8, x9, x10⟩ := old11 KG9.out
       go_wp2_with fail
       refine put11_gen KG9.out _ _ _ _ _ _ _ _ _ _ _ (fun WF hf0 hf1 hf2 hf3 => ?_)
       have HF := hid hf0
       have HFB := hid ((hf1 _ _ HB9.out (Nat.le_refl G)))
       clear z0 x0 z1 x1 z2 x2 z3 x3 z4 x4 z5 x5 z6 x6 z7 x7 z8 x8 z9 x9 z10 x10
       clear hf0 hf1 hf2 hf3
       obtain ⟨c0, c1, c2, c3, c4, c5, c6, c7, c8, c9, c10⟩ := all11 HF.out
       refine bodyPost_ret (v := .agg #[.string ⟨#[108, 105, 116]⟩, .string ⟨#[]⟩, .int .i64 2, .bool false, .int .i64 n, .string ⟨#[]⟩, .slice none 0 0, .slice none 0 0, .slice none 0 0, .int .i64 (k : Int), .int .i64 0]) (by simp [results, Tryz.results53, go_sem, c0, c1, c2, c3, c4, c5, c6, c7, c8, c9, c10]) rfl ?_
       rw [HR2.out]
       exact ⟨hd0, rfl, EV.leaf rfl rfl, by rw [HG.out]; exact HFB.out⟩
     ·
      have HR1 := hid (HR.out.trans (if_neg h64))
      have H64 := hid (show ¬ In64 (De.numL (s.extract a k).data.toList) from fun h => h64 ⟨h.1, h.2⟩)
      clear h64
      go_wp2_with fail
      refine (HK.out _).mono ?_
      rintro e w2 ⟨rfl, rfl⟩
      go_wp2_with fail
      refine (W2.rparse_far _ _ hsz HFF.out H64.out).mono ?_
      rintro e w5 ⟨rfl, hb5⟩
      have HB5 := hid hb5
      clear hb5
      go_upto_region 7 with fail
      have hb6 : Below w5.heap.size w5 (w5.alloc (.cells #[.bool false, .slice none 0 0] 124)) := (Below.refl _ _).alloc (Nat.le_refl _) _
      change Code.wp _ _ _ _ (w5.alloc (.cells #[.bool false, .slice none 0 0] 124))
      generalize (w5.alloc (.cells #[.bool false, .slice none 0 0] 124)) = W6 at *
      have HB6 := hid (HB5.out.trans (hb6.mono HB5.out.size))
      clear hb6
      go_wp2_with fail
      refine (r8wrong_any _ _ _).mono ?_
      rintro e w2 ⟨rfl, hb2⟩
      have hb6 := HB6.out.trans (hb2.mono HB6.out.size)
      clear hb2
      have KG9 := hid (KG.out.onto hb6)
      have HB9 := hid (HW.out.trans (hb6.mono (by omega)))
      clear hb6
      obtain ⟨y0, y1, y2, y3, y4, y5, y6, y7, y8, y9, y10, z0, z1, z2, z3, z4, z5, z6, z7, z8, z9, z10, x0, x1, x2, x3, x4, x5, x6, x7, x8, x9, x10⟩ := old11 KG9.out
      go_wp2_with fail
      refine put11_gen KG9.out _ _ _ _ _ _ _ _ _ _ _ (fun WF hf0 hf1 hf2 hf3 => ?_)
      have HF := hid hf0
      have HFB := hid ((hf1 _ _ HB9.out (Nat.le_refl G)))
      clear z0 x0 z1 x1 z2 x2 z3 x3 z4 x4 z5 x5 z6 x6 z7 x7 z8 x8 z9 x9 z10 x10
      clear hf0 hf1 hf2 hf3
      obtain ⟨c0, c1, c2, c3, c4, c5, c6, c7, c8, c9, c10⟩ := all11 HF.out
      refine bodyPost_ret (v := .agg #[.string ⟨#[]⟩, .string ⟨#[]⟩, .int .i64 0, .bool false, .int .i64 0, .string ⟨#[]⟩, .slice none 0 0, .slice none 0 0, .slice none 0 0, .int .i64 (a : Int), .int .i64 4]) (by simp [results, Tryz.results53, go_sem, c0, c1, c2, c3, c4, c5, c6, c7, c8, c9, c10]) rfl ?_
      rw [HR1.out]
      exact ⟨by unfold wcs; rfl, by decide, by rw [HG.out]; exact HFB.out⟩
    ·
     rw [decide_eq_false e48] at c48
     clear hcc e48
     by_cases h64 : Tk.In64 (De.numL (s.extract a k).data.toList)
     ·
      have HR1 := hid (HR.out.trans (if_pos h64))
      have H64 := hid (show In64 (De.numL (s.extract a k).data.toList) from ⟨h64.1, h64.2⟩)
      clear h64
      go_wp2_with fail
      refine (HK.out _).mono ?_
      rintro e w2 ⟨rfl, rfl⟩
      go_wp2_with fail
      refine (W2.rparse_ok _ _ hsz HFF.out H64.out).mono ?_
      rintro e w5 ⟨b5, A5, n5, c5, rfl, hnz, hb5⟩
      have HB5 := hid hb5
      have HNZ := hid hnz
      clear hnz hb5
      go_upto_region 7 with fail
      refine alloc_gn (fun W6 hb6 hk6 => ?_)
      have hnz6 : W2.Nz W6 W6.heap.size (.agg #[.bool b5, .slice A5 n5 c5]) (De.numL (s.extract a k).data.toList) := W2.Nz.on HNZ.out hb6
      have HB6 := hid (HB5.out.trans (hb6.mono HB5.out.size))
      have HNZ6 := hid hnz6
      have d0 := hk6.cell 0
      have d1 := hk6.cell 1
      clear hb6 hk6 hnz6 HNZ HB5
      generalize w5.heap.size = K6 at *
      generalize De.numL (s.extract a k).data.toList = n at *
      cases hg : goes (bt s k) with
      | true =>
       have HR2 := hid (HR1.out.trans (if_pos hg))
       rw [hg] at HGO
       clear hg
       go_wp2_with fail
       refine (HGO.out _).mono ?_
       rintro e w7 ⟨rfl, rfl⟩
       go_wp2_with fail
       refine (r8wrong_any _ _ _).mono ?_
       rintro e w2 ⟨rfl, hb2⟩
       have hb6 := HB6.out.trans (hb2.mono HB6.out.size)
       clear hb2 d0 d1
       have KG9 := hid (KG.out.onto hb6)
       have HB9 := hid (HW.out.trans (hb6.mono (by omega)))
       clear hb6
       obtain ⟨y0, y1, y2, y3, y4, y5, y6, y7, y8, y9, y10, z0, z1, z2, z3, z4, z5, z6, z7, z8, z9, z10, x0, x1, x2, x3, x4, x5, x6, x7, x8, x9, x10⟩ := old11 KG9.out
       go_wp2_with fail
       refine put11_gen KG9.out _ _ _ _ _ _ _ _ _ _ _ (fun WF hf0 hf1 hf2 hf3 => ?_)
       have HF := hid hf0
       have HFB := hid ((hf1 _ _ HB9.out (Nat.le_refl G)))
       clear z0 x0 z1 x1 z2 x2 z3 x3 z4 x4 z5 x5 z6 x6 z7 x7 z8 x8 z9 x9 z10 x10
       clear hf0 hf1 hf2 hf3
       obtain ⟨c0, c1, c2, c3, c4, c5, c6, c7, c8, c9, c10⟩ := all11 HF.out
       refine bodyPost_ret (v := .agg #[.string ⟨#[]⟩, .string ⟨#[]⟩, .int .i64 0, .bool false, .int .i64 0, .string ⟨#[]⟩, .slice none 0 0, .slice none 0 0, .slice none 0 0, .int .i64 (k : Int), .int .i64 1]) (by simp [results, Tryz.results53, go_sem, c0, c1, c2, c3, c4, c5, c6, c7, c8, c9, c10]) rfl ?_
       rw [HR2.out]
       exact ⟨by unfold wcs; rfl, by decide, by rw [HG.out]; exact HFB.out⟩
      | false =>
       have HR2 := hid (HR1.out.trans (if_neg (by rw [hg]; decide)))
       rw [hg] at HGO
       clear hg
       go_wp2_with fail
       refine (HGO.out _).mono ?_
       rintro e w7 ⟨rfl, rfl⟩
       go_wp2_with fail
       refine (W2.int_any _ n _ HNZ6.out H64.out).mono ?_
       rintro e w8 ⟨rfl, hb8⟩
       have HB8 := hid (HB6.out.trans (hb8.mono HB6.out.size))
       clear hb8 d0 d1
       go_wp2_with fail
       refine (r8literal_any 2 false n ⟨#[]⟩ _ _).mono ?_
       rintro e w2 ⟨rfl, hb2⟩
       have hb6 := HB8.out.trans (hb2.mono HB8.out.size)
       clear hb2
       have KG9 := hid (KG.out.onto hb6)
       have HB9 := hid (HW.out.trans (hb6.mono (by omega)))
       clear hb6
       obtain ⟨y0, y1, y2, y3, y4, y5, y6, y7, y8, y9, y10, z0, z1, z2, z3, z4, z5, z6, z7, z8, z9, z10, x0, x1, x2, x3, x4, x5, x6, x7, x8, x9, x10⟩ := old11 KG9.out
       go_wp2_with fail
       refine put11_gen KG9.out _ _ _ _ _ _ _ _ _ _ _ (fun WF hf0 hf1 hf2 hf3 => ?_)
       have HF := hid hf0
       have HFB := hid ((hf1 _ _ HB9.out (Nat.le_refl G)))
       clear z0 x0 z1 x1 z2 x2 z3 x3 z4 x4 z5 x5 z6 x6 z7 x7 z8 x8 z9 x9 z10 x10
       clear hf0 hf1 hf2 hf3
       obtain ⟨c0, c1, c2, c3, c4, c5, c6, c7, c8, c9, c10⟩ := all11 HF.out
       refine bodyPost_ret (v := .agg #[.string ⟨#[108, 105, 116]⟩, .string ⟨#[]⟩, .int .i64 2, .bool false, .int .i64 n, .string ⟨#[]⟩, .slice none 0 0, .slice none 0 0, .slice none 0 0, .int .i64 (k : Int), .int .i64 0]) (by simp [results, Tryz.results53, go_sem, c0, c1, c2, c3, c4, c5, c6, c7, c8, c9, c10]) rfl ?_
       rw [HR2.out]
       exact ⟨hd0, rfl, EV.leaf rfl rfl, by rw [HG.out]; exact HFB.out⟩
     ·
      have HR1 := hid (HR.out.trans (if_neg h64))
      have H64 := hid (show ¬ In64 (De.numL (s.extract a k).data.toList) from fun h => h64 ⟨h.1, h.2⟩)
      clear h64
      go_wp2_with fail
      refine (HK.out _).mono ?_
      rintro e w2 ⟨rfl, rfl⟩
      go_wp2_with fail
      refine (W2.rparse_far _ _ hsz HFF.out H64.out).mono ?_
      rintro e w5 ⟨rfl, hb5⟩
      have HB5 := hid hb5
      clear hb5
      go_upto_region 7 with fail
      have hb6 : Below w5.heap.size w5 (w5.alloc (.cells #[.bool false, .slice none 0 0] 124)) := (Below.refl _ _).alloc (Nat.le_refl _) _
      change Code.wp _ _ _ _ (w5.alloc (.cells #[.bool false, .slice none 0 0] 124))
      generalize (w5.alloc (.cells #[.bool false, .slice none 0 0] 124)) = W6 at *
      have HB6 := hid (HB5.out.trans (hb6.mono HB5.out.size))
      clear hb6
      go_wp2_with fail
      refine (r8wrong_any _ _ _).mono ?_
      rintro e w2 ⟨rfl, hb2⟩
      have hb6 := HB6.out.trans (hb2.mono HB6.out.size)
      clear hb2
      have KG9 := hid (KG.out.onto hb6)
      have HB9 := hid (HW.out.trans (hb6.mono (by omega)))
      clear hb6
      obtain ⟨y0, y1, y2, y3, y4, y5, y6, y7, y8, y9, y10, z0, z1, z2, z3, z4, z5, z6, z7, z8, z9, z10, x0, x1, x2, x3, x4, x5, x6, x7, x8, x9, x10⟩ := old11 KG9.out
      go_wp2_with fail
      refine put11_gen KG9.out _ _ _ _ _ _ _ _ _ _ _ (fun WF hf0 hf1 hf2 hf3 => ?_)
      have HF := hid hf0
      have HFB := hid ((hf1 _ _ HB9.out (Nat.le_refl G)))
      clear z0 x0 z1 x1 z2 x2 z3 x3 z4 x4 z5 x5 z6 x6 z7 x7 z8 x8 z9 x9 z10 x10
      clear hf0 hf1 hf2 hf3
      obtain ⟨c0, c1, c2, c3, c4, c5, c6, c7, c8, c9, c10⟩ := all11 HF.out
      refine bodyPost_ret (v := .agg #[.string ⟨#[]⟩, .string ⟨#[]⟩, .int .i64 0, .bool false, .int .i64 0, .string ⟨#[]⟩, .slice none 0 0, .slice none 0 0, .slice none 0 0, .int .i64 (a : Int), .int .i64 4]) (by simp [results, Tryz.results53, go_sem, c0, c1, c2, c3, c4, c5, c6, c7, c8, c9, c10]) rfl ?_
      rw [HR1.out]
      exact ⟨by unfold wcs; rfl, by decide, by rw [HG.out]; exact HFB.out⟩
end Go.Proofs.YtfbipnflgjhaiaaGreatDoor
