/- A word not, a sign of less, by the reference: contract of Level at 2 and 6. Expressions with a sign between, by the reference: contract of Level at the other levels. -/
import Derived.Test.YtfbipnflgjhaiaaGreatDoorYA
set_option linter.unusedVariables false
set_option maxRecDepth 100000
set_option maxHeartbeats 8000000
open Go.Lib (hid)
namespace Go.Proofs.YtfbipnflgjhaiaaGreatDoor
open Go.RowKit
open Tk Ex
theorem rlev_2 (s : ByteArray) (f : Nat) (hs : s.size ≤ 1000000) (h2 : RLev s f 2) (h3 : RLev s f 3) : RLev s (f + 1) 2 := by
 intro i hi hne w
 have hl2 : lev s (f + 1) 2 i = if stands s i notB = true then up notB (lev s f 2 (past s i notB)) else lev s f 3 i := by rw [lev, if_pos rfl]
 have HWD := hid (fun w1 => r8word_any s i w1 hs hi)
 have hst : stands s i notB = eqb (wordT s i) notB := stands_words (t := notB) rfl (by decide)
 rw [hl2] at hne ⊢
 clear hl2
 cases hb : stands s i notB with
 | true =>
  rw [hb, if_pos rfl] at hne
  have hp := stands_le hi hb
  have hpp := wordP_past (s := s) (i := i) (t := notB) hi rfl (by decide) hb
  have hw : wordT s i = notB := eqb_yes (by rw [← hst]; exact hb)
  have HO := hid (show lev s f 2 (past s i notB) ≠ .out from fun h => hne (by rw [h]; rfl))
  have HLV := hid (fun w1 => h2 (past s i notB) hp.2 HO.out w1)
  rw [hw, hpp] at HWD
  rw [if_pos rfl]
  obtain ⟨R, hR⟩ : ∃ R, up notB (lev s f 2 (past s i notB)) = R := ⟨_, rfl⟩
  rw [hR]
  have HR0 := hid hR
  clear hR hne hst hb hw hpp h2 h3
  generalize lev s f 2 (past s i notB) = R1 at *
  have hz := hp.2
  generalize past s i notB = z at *
  unfold notB at HWD
  clear hp
  go_enter Tryz.func14, Tryz.ntmps14
  go_upto_region 1 with fail
  refine alloc_gen (fun W hW kG hWs => ?_)
  have HWS := hid hWs
  have hGW := kG.lt
  generalize hG : w.heap.size = G at *
  have HG := hid hG
  have HW := hid hW
  have KG := hid kG
  clear hW kG hWs hG
  go_wp2_with fail
  refine (HWD.out _).mono ?_
  rintro e w2 ⟨rfl, rfl⟩
  go_wp2_with fail
  have HR := hid HR0.out.symm
  refine (HLV.out _).mono ?_
  intro e w2 hr
  cases R1 with
  | out => exact absurd rfl HO.out
  | ok x p =>
   obtain ⟨q, rfl, hev, hb2⟩ := hr
   have HEV := hid hev
   have KG2 := hid (KG.out.onto hb2)
   have HB2 := hid (HW.out.trans (hb2.mono (by omega)))
   have hGs : W.heap.size ≤ w2.heap.size := hb2.size
   have HQ := hid (r8ahead_ok ⟨#[110, 111, 116]⟩ x q p w2)
   unfold acs
   clear hb2 hev
   go_wp2_with fail
   refine HQ.out.mono ?_
   rintro e w3 ⟨b, rfl, hbx, hbb, hb3⟩
   have KG3 := hid (KG2.out.onto hb3)
   have HB3 := hid (HB2.out.trans (hb3.mono (by omega)))
   have hb3s := hb3.size
   have hbl := hbx.lt
   have HNN := hid (show Nine w3 b 0 x q from hbx.nine8 (fun i hi => by rw [Nat.zero_add]))
   have HE3 := hid (EV.one (o := notB) (n := nix) (S := fun z => G < z ∧ z < w3.heap.size) (b := b) ⟨by omega, hbl⟩ HNN.out ((HEV.out.keep (fun z hz => hb3.block z hz.2)).wide (fun z hz => ⟨by have := hz.1; omega, by have := hz.2; omega⟩)) (Nat.le_refl 1))
   clear hb3 hbx hbb
   obtain ⟨y0, y1, y2, y3, y4, y5, y6, y7, y8, y9, y10, z0, z1, z2, z3, z4, z5, z6, z7, z8, z9, z10, x0, x1, x2, x3, x4, x5, x6, x7, x8, x9, x10⟩ := old11 KG3.out
   go_wp2_with fail
   refine put11_gen KG3.out _ _ _ _ _ _ _ _ _ _ _ (fun WF hf0 hf1 hf2 hf3 => ?_)
   have HF := hid hf0
   have HFB := hid ((hf1 _ _ HB3.out (Nat.le_refl G)))
   have HEF := hid (show EV WF (fun z => G ≤ z ∧ z < WF.heap.size) (.mk notB nix Rd.nulT [x]) ⟨none, 0, none, 0, some ⟨b, 0, none⟩, 1⟩ from (HE3.out.keep (fun z hz => (hf2 _ (by have := hz.1; omega)))).wide (fun z hz => ⟨Nat.le_of_lt hz.1, by rw [hf3]; exact hz.2⟩))
   clear z0 x0 z1 x1 z2 x2 z3 x3 z4 x4 z5 x5 z6 x6 z7 x7 z8 x8 z9 x9 z10 x10
   clear hf0 hf1 hf2 hf3
   obtain ⟨c0, c1, c2, c3, c4, c5, c6, c7, c8, c9, c10⟩ := all11 HF.out
   refine bodyPost_ret (v := .agg #[.string ⟨#[110, 111, 116]⟩, .string ⟨#[]⟩, .int .i64 0, .bool false, .int .i64 0, .string ⟨#[]⟩, .slice none 0 0, .slice none 0 0, .slice (some ⟨b, 0, none⟩) 1 1, .int .i64 (p : Int), .int .i64 0]) (by simp [results, Tryz.results14, go_sem, c0, c1, c2, c3, c4, c5, c6, c7, c8, c9, c10]) rfl ?_
   rw [HR.out]; unfold up
   refine ⟨⟨none, 0, none, 0, some ⟨b, 0, none⟩, 1⟩, rfl, ?_, by rw [HG.out]; exact HFB.out⟩
   rw [HG.out]
   exact HEF.out
  | err p c =>
   obtain ⟨rfl, hc, hb2⟩ := hr
   have HC := hid hc
   have KG2 := hid (KG.out.onto hb2)
   have HB2 := hid (HW.out.trans (hb2.mono (by omega)))
   have hGs : W.heap.size ≤ w2.heap.size := hb2.size
   have HQ := hid (r8ahead_err ⟨#[110, 111, 116]⟩ (p : Int) c hc w2)
   unfold wcs
   clear hb2 hc
   go_wp2_with fail
   refine HQ.out.mono ?_
   rintro e w3 ⟨rfl, hb3⟩
   have KG9 := hid (KG2.out.onto hb3)
   have HB9 := hid (HB2.out.trans (hb3.mono (by omega)))
   clear hb3
   obtain ⟨y0, y1, y2, y3, y4, y5, y6, y7, y8, y9, y10, z0, z1, z2, z3, z4, z5, z6, z7, z8, z9, z10, x0, x1, x2, x3, x4, x5, x6, x7, x8, x9, x10⟩ := old11 KG9.out
   go_wp2_with fail
   refine put11_gen KG9.out _ _ _ _ _ _ _ _ _ _ _ (fun WF hf0 hf1 hf2 hf3 => ?_)
   have HF := hid hf0
   have HFB := hid ((hf1 _ _ HB9.out (Nat.le_refl G)))
   clear z0 x0 z1 x1 z2 x2 z3 x3 z4 x4 z5 x5 z6 x6 z7 x7 z8 x8 z9 x9 z10 x10
   clear hf0 hf1 hf2 hf3
   obtain ⟨c0, c1, c2, c3, c4, c5, c6, c7, c8, c9, c10⟩ := all11 HF.out
   refine bodyPost_ret (v := .agg #[.string ⟨#[]⟩, .string ⟨#[]⟩, .int .i64 0, .bool false, .int .i64 0, .string ⟨#[]⟩, .slice none 0 0, .slice none 0 0, .slice none 0 0, .int .i64 (p : Int), .int .i64 c]) (by simp [results, Tryz.results14, go_sem, c0, c1, c2, c3, c4, c5, c6, c7, c8, c9, c10]) rfl ?_
   rw [HR.out]; unfold up
   exact ⟨by unfold wcs; rfl, HC.out, by rw [HG.out]; exact HFB.out⟩
 | false =>
  rw [hb, if_neg (by decide)] at hne
  rw [if_neg (by decide)]
  have HO := hid hne
  have HLV := hid (fun w1 => h3 i hi hne w1)
  have hw : eqb (wordT s i) notB = false := by rw [← hst]; exact hb
  clear hne hst hb h2 h3
  generalize lev s f 3 i = R at *
  generalize wordP s i = z at *
  generalize wordT s i = wd at *
  have f1 : (wd.toList == [110, 111, 116]) = false := by rw [ByteArray.toList_eq]; exact hw
  clear hw
  go_enter Tryz.func14, Tryz.ntmps14
  go_upto_region 1 with fail
  refine alloc_gen (fun W hW kG hWs => ?_)
  have HWS := hid hWs
  have hGW := kG.lt
  generalize hG : w.heap.size = G at *
  have HG := hid hG
  have HW := hid hW
  have KG := hid kG
  clear hW kG hWs hG
  go_wp2_with fail
  refine (HWD.out _).mono ?_
  rintro e w2 ⟨rfl, rfl⟩
  go_wp2_with fail
  refine (HLV.out _).mono ?_
  intro e w2 hr
  have HRR := hid hr
  cases R with
  | out => exact absurd rfl HO.out
  | ok x p =>
   obtain ⟨⟨hL, hl1, hL', hl2, hA1, hc1⟩, rfl, _, hb2⟩ := hr
   unfold acs at *
   dsimp only at *
   have KG9 := hid (KG.out.onto hb2)
   clear hb2
   obtain ⟨y0, y1, y2, y3, y4, y5, y6, y7, y8, y9, y10, z0, z1, z2, z3, z4, z5, z6, z7, z8, z9, z10, x0, x1, x2, x3, x4, x5, x6, x7, x8, x9, x10⟩ := old11 KG9.out
   go_wp2_with fail
   refine put11_gen KG9.out _ _ _ _ _ _ _ _ _ _ _ (fun WF hf0 hf1 hf2 hf3 => ?_)
   have HF := hid hf0
   have HRP := hid (ReadR.puts HRR.out (show Below w.heap.size w W by rw [HG.out]; exact HW.out) (Nat.le_of_eq HG.out) hGW hf1 hf2 hf3)
   clear z0 x0 z1 x1 z2 x2 z3 x3 z4 x4 z5 x5 z6 x6 z7 x7 z8 x8 z9 x9 z10 x10
   clear hf0 hf1 hf2 hf3
   obtain ⟨c0, c1, c2, c3, c4, c5, c6, c7, c8, c9, c10⟩ := all11 HF.out
   refine bodyPost_ret (v := .agg #[.string x.op, .string x.name, .int .i64 x.lit.kind, .bool x.lit.tr, .int .i64 x.lit.num, .string x.lit.str, .slice hL x.lit.items.length hl1, .slice hL' x.lit.keys.length hl2, .slice hA1 x.args.length hc1, .int .i64 (p : Int), .int .i64 0]) (by simp [results, Tryz.results14, go_sem, c0, c1, c2, c3, c4, c5, c6, c7, c8, c9, c10]) rfl ?_
   exact HRP.out
  | err p c =>
   obtain ⟨rfl, _, hb2⟩ := hr
   unfold wcs at *
   have KG9 := hid (KG.out.onto hb2)
   clear hb2
   obtain ⟨y0, y1, y2, y3, y4, y5, y6, y7, y8, y9, y10, z0, z1, z2, z3, z4, z5, z6, z7, z8, z9, z10, x0, x1, x2, x3, x4, x5, x6, x7, x8, x9, x10⟩ := old11 KG9.out
   go_wp2_with fail
   refine put11_gen KG9.out _ _ _ _ _ _ _ _ _ _ _ (fun WF hf0 hf1 hf2 hf3 => ?_)
   have HF := hid hf0
   have HRP := hid (ReadR.puts HRR.out (show Below w.heap.size w W by rw [HG.out]; exact HW.out) (Nat.le_of_eq HG.out) hGW hf1 hf2 hf3)
   clear z0 x0 z1 x1 z2 x2 z3 x3 z4 x4 z5 x5 z6 x6 z7 x7 z8 x8 z9 x9 z10 x10
   clear hf0 hf1 hf2 hf3
   obtain ⟨c0, c1, c2, c3, c4, c5, c6, c7, c8, c9, c10⟩ := all11 HF.out
   refine bodyPost_ret (v := .agg #[.string ⟨#[]⟩, .string ⟨#[]⟩, .int .i64 0, .bool false, .int .i64 0, .string ⟨#[]⟩, .slice none 0 0, .slice none 0 0, .slice none 0 0, .int .i64 (p : Int), .int .i64 c]) (by simp [results, Tryz.results14, go_sem, c0, c1, c2, c3, c4, c5, c6, c7, c8, c9, c10]) rfl ?_
   exact HRP.out
theorem rlev_6 (s : ByteArray) (f : Nat) (hs : s.size ≤ 1000000) (h6 : RLev s f 6) (h7 : RPart s f) : RLev s (f + 1) 6 := by
 intro i hi hne w
 have hl2 : lev s (f + 1) 6 i = if stands s i minusB = true then up negB (lev s f 6 (past s i minusB)) else lev s f 7 i := by rw [lev, if_neg (by decide), if_pos rfl]
 have HMK := hid (show ∀ w1, Calls Tryz.prog 28 #[.string s, .int .i64 (i : Int), .string ⟨#[45]⟩] w1 (fun e w' => e = .returned (.int .i64 (markP s i minusB)) ∧ w1 = w') from fun w1 => r8mark_any s i minusB w1 hs hi (by decide))
 rw [hl2] at hne ⊢
 clear hl2
 cases hb : stands s i minusB with
 | true =>
  rw [hb, if_pos rfl] at hne
  have hp := stands_le hi hb
  have hmk := mark_yes (t := minusB) hi (by decide) (by decide) hb
  have HO := hid (show lev s f 6 (past s i minusB) ≠ .out from fun h => hne (by rw [h]; rfl))
  have HLV := hid (fun w1 => h6 (past s i minusB) hp.2 HO.out w1)
  rw [hmk] at HMK
  rw [if_pos rfl]
  obtain ⟨R, hR⟩ : ∃ R, up negB (lev s f 6 (past s i minusB)) = R := ⟨_, rfl⟩
  rw [hR]
  have HR0 := hid hR
  clear hR hne hb hmk h6 h7
  generalize lev s f 6 (past s i minusB) = R1 at *
  have hz := hp.2
  generalize past s i minusB = z at *
  clear hp
  have g1 : decide ((z : Int) ≥ 0) = true := decide_eq_true (by omega)
  have g2 : decide ((0 : Int) ≤ (z : Int)) = true := decide_eq_true (by omega)
  go_enter Tryz.func14, Tryz.ntmps14
  go_upto_region 1 with fail
  refine alloc_gen (fun W hW kG hWs => ?_)
  have HWS := hid hWs
  have hGW := kG.lt
  generalize hG : w.heap.size = G at *
  have HG := hid hG
  have HW := hid hW
  have KG := hid kG
  clear hW kG hWs hG
  go_wp2_with fail
  refine (HMK.out _).mono ?_
  rintro e w2 ⟨rfl, rfl⟩
  go_wp2_with fail
  have HR := hid HR0.out.symm
  refine (HLV.out _).mono ?_
  intro e w2 hr
  cases R1 with
  | out => exact absurd rfl HO.out
  | ok x p =>
   obtain ⟨q, rfl, hev, hb2⟩ := hr
   have HEV := hid hev
   have KG2 := hid (KG.out.onto hb2)
   have HB2 := hid (HW.out.trans (hb2.mono (by omega)))
   have hGs : W.heap.size ≤ w2.heap.size := hb2.size
   have HQ := hid (r8ahead_ok ⟨#[110, 101, 103]⟩ x q p w2)
   unfold acs
   clear hb2 hev
   go_wp2_with fail
   refine HQ.out.mono ?_
   rintro e w3 ⟨b, rfl, hbx, hbb, hb3⟩
   have KG3 := hid (KG2.out.onto hb3)
   have HB3 := hid (HB2.out.trans (hb3.mono (by omega)))
   have hb3s := hb3.size
   have hbl := hbx.lt
   have HNN := hid (show Nine w3 b 0 x q from hbx.nine8 (fun i hi => by rw [Nat.zero_add]))
   have HE3 := hid (EV.one (o := negB) (n := nix) (S := fun z => G < z ∧ z < w3.heap.size) (b := b) ⟨by omega, hbl⟩ HNN.out ((HEV.out.keep (fun z hz => hb3.block z hz.2)).wide (fun z hz => ⟨by have := hz.1; omega, by have := hz.2; omega⟩)) (Nat.le_refl 1))
   clear hb3 hbx hbb
   obtain ⟨y0, y1, y2, y3, y4, y5, y6, y7, y8, y9, y10, z0, z1, z2, z3, z4, z5, z6, z7, z8, z9, z10, x0, x1, x2, x3, x4, x5, x6, x7, x8, x9, x10⟩ := old11 KG3.out
   go_wp2_with fail
   refine put11_gen KG3.out _ _ _ _ _ _ _ _ _ _ _ (fun WF hf0 hf1 hf2 hf3 => ?_)
   have HF := hid hf0
   have HFB := hid ((hf1 _ _ HB3.out (Nat.le_refl G)))
   have HEF := hid (show EV WF (fun z => G ≤ z ∧ z < WF.heap.size) (.mk negB nix Rd.nulT [x]) ⟨none, 0, none, 0, some ⟨b, 0, none⟩, 1⟩ from (HE3.out.keep (fun z hz => (hf2 _ (by have := hz.1; omega)))).wide (fun z hz => ⟨Nat.le_of_lt hz.1, by rw [hf3]; exact hz.2⟩))
   clear z0 x0 z1 x1 z2 x2 z3 x3 z4 x4 z5 x5 z6 x6 z7 x7 z8 x8 z9 x9 z10 x10
   clear hf0 hf1 hf2 hf3
   obtain ⟨c0, c1, c2, c3, c4, c5, c6, c7, c8, c9, c10⟩ := all11 HF.out
   refine bodyPost_ret (v := .agg #[.string ⟨#[110, 101, 103]⟩, .string ⟨#[]⟩, .int .i64 0, .bool false, .int .i64 0, .string ⟨#[]⟩, .slice none 0 0, .slice none 0 0, .slice (some ⟨b, 0, none⟩) 1 1, .int .i64 (p : Int), .int .i64 0]) (by simp [results, Tryz.results14, go_sem, c0, c1, c2, c3, c4, c5, c6, c7, c8, c9, c10]) rfl ?_
   rw [HR.out]; unfold up
   refine ⟨⟨none, 0, none, 0, some ⟨b, 0, none⟩, 1⟩, rfl, ?_, by rw [HG.out]; exact HFB.out⟩
   rw [HG.out]
   exact HEF.out
  | err p c =>
   obtain ⟨rfl, hc, hb2⟩ := hr
   have HC := hid hc
   have KG2 := hid (KG.out.onto hb2)
   have HB2 := hid (HW.out.trans (hb2.mono (by omega)))
   have hGs : W.heap.size ≤ w2.heap.size := hb2.size
   have HQ := hid (r8ahead_err ⟨#[110, 101, 103]⟩ (p : Int) c hc w2)
   unfold wcs
   clear hb2 hc
   go_wp2_with fail
   refine HQ.out.mono ?_
   rintro e w3 ⟨rfl, hb3⟩
   have KG9 := hid (KG2.out.onto hb3)
   have HB9 := hid (HB2.out.trans (hb3.mono (by omega)))
   clear hb3
   obtain ⟨y0, y1, y2, y3, y4, y5, y6, y7, y8, y9, y10, z0, z1, z2, z3, z4, z5, z6, z7, z8, z9, z10, x0, x1, x2, x3, x4, x5, x6, x7, x8, x9, x10⟩ := old11 KG9.out
   go_wp2_with fail
   refine put11_gen KG9.out _ _ _ _ _ _ _ _ _ _ _ (fun WF hf0 hf1 hf2 hf3 => ?_)
   have HF := hid hf0
   have HFB := hid ((hf1 _ _ HB9.out (Nat.le_refl G)))
   clear z0 x0 z1 x1 z2 x2 z3 x3 z4 x4 z5 x5 z6 x6 z7 x7 z8 x8 z9 x9 z10 x10
   clear hf0 hf1 hf2 hf3
   obtain ⟨c0, c1, c2, c3, c4, c5, c6, c7, c8, c9, c10⟩ := all11 HF.out
   refine bodyPost_ret (v := .agg #[.string ⟨#[]⟩, .string ⟨#[]⟩, .int .i64 0, .bool false, .int .i64 0, .string ⟨#[]⟩, .slice none 0 0, .slice none 0 0, .slice none 0 0, .int .i64 (p : Int), .int .i64 c]) (by simp [results, Tryz.results14, go_sem, c0, c1, c2, c3, c4, c5, c6, c7, c8, c9, c10]) rfl ?_
   rw [HR.out]; unfold up
   exact ⟨by unfold wcs; rfl, HC.out, by rw [HG.out]; exact HFB.out⟩
 | false =>
  rw [hb, if_neg (by decide)] at hne
  rw [if_neg (by decide)]
  have HO := hid hne
  have HLV := hid (fun w1 => h7 i hi hne w1)
  have hmk := mark_no (t := minusB) hi (by decide) (by decide) hb
  rw [hmk] at HMK
  clear hne hb hmk h6 h7
  generalize lev s f 7 i = R at *
  go_enter Tryz.func14, Tryz.ntmps14
  go_upto_region 1 with fail
  refine alloc_gen (fun W hW kG hWs => ?_)
  have HWS := hid hWs
  have hGW := kG.lt
  generalize hG : w.heap.size = G at *
  have HG := hid hG
  have HW := hid hW
  have KG := hid kG
  clear hW kG hWs hG
  go_wp2_with fail
  refine (HMK.out _).mono ?_
  rintro e w2 ⟨rfl, rfl⟩
  go_wp2_with fail
  refine (HLV.out _).mono ?_
  intro e w2 hr
  have HRR := hid hr
  cases R with
  | out => exact absurd rfl HO.out
  | ok x p =>
   obtain ⟨⟨hL, hl1, hL', hl2, hA1, hc1⟩, rfl, _, hb2⟩ := hr
   unfold acs at *
   dsimp only at *
   have KG9 := hid (KG.out.onto hb2)
   clear hb2
   obtain ⟨y0, y1, y2, y3, y4, y5, y6, y7, y8, y9, y10, z0, z1, z2, z3, z4, z5, z6, z7, z8, z9, z10, x0, x1, x2, x3, x4, x5, x6, x7, x8, x9, x10⟩ := old11 KG9.out
   go_wp2_with fail
   refine put11_gen KG9.out _ _ _ _ _ _ _ _ _ _ _ (fun WF hf0 hf1 hf2 hf3 => ?_)
   have HF := hid hf0
   have HRP := hid (ReadR.puts HRR.out (show Below w.heap.size w W by rw [HG.out]; exact HW.out) (Nat.le_of_eq HG.out) hGW hf1 hf2 hf3)
   clear z0 x0 z1 x1 z2 x2 z3 x3 z4 x4 z5 x5 z6 x6 z7 x7 z8 x8 z9 x9 z10 x10
   clear hf0 hf1 hf2 hf3
   obtain ⟨c0, c1, c2, c3, c4, c5, c6, c7, c8, c9, c10⟩ := all11 HF.out
   refine bodyPost_ret (v := .agg #[.string x.op, .string x.name, .int .i64 x.lit.kind, .bool x.lit.tr, .int .i64 x.lit.num, .string x.lit.str, .slice hL x.lit.items.length hl1, .slice hL' x.lit.keys.length hl2, .slice hA1 x.args.length hc1, .int .i64 (p : Int), .int .i64 0]) (by simp [results, Tryz.results14, go_sem, c0, c1, c2, c3, c4, c5, c6, c7, c8, c9, c10]) rfl ?_
   exact HRP.out
  | err p c =>
   obtain ⟨rfl, _, hb2⟩ := hr
   unfold wcs at *
   have KG9 := hid (KG.out.onto hb2)
   clear hb2
   obtain ⟨y0, y1, y2, y3, y4, y5, y6, y7, y8, y9, y10, z0, z1, z2, z3, z4, z5, z6, z7, z8, z9, z10, x0, x1, x2, x3, x4, x5, x6, x7, x8, x9, x10⟩ := old11 KG9.out
   go_wp2_with fail
   refine put11_gen KG9.out _ _ _ _ _ _ _ _ _ _ _ (fun WF hf0 hf1 hf2 hf3 => ?_)
   have HF := hid hf0
   have HRP := hid (ReadR.puts HRR.out (show Below w.heap.size w W by rw [HG.out]; exact HW.out) (Nat.le_of_eq HG.out) hGW hf1 hf2 hf3)
   clear z0 x0 z1 x1 z2 x2 z3 x3 z4 x4 z5 x5 z6 x6 z7 x7 z8 x8 z9 x9 z10 x10
   clear hf0 hf1 hf2 hf3
   obtain ⟨c0, c1, c2, c3, c4, c5, c6, c7, c8, c9, c10⟩ := all11 HF.out
   refine bodyPost_ret (v := .agg #[.string ⟨#[]⟩, .string ⟨#[]⟩, .int .i64 0, .bool false, .int .i64 0, .string ⟨#[]⟩, .slice none 0 0, .slice none 0 0, .slice none 0 0, .int .i64 (p : Int), .int .i64 c]) (by simp [results, Tryz.results14, go_sem, c0, c1, c2, c3, c4, c5, c6, c7, c8, c9, c10]) rfl ?_
   exact HRP.out
open Go.RowKit
open Tk Ex
def atQ (wr : World) (X : Nat) : Nat := match wr.cell? ⟨X, 9, none⟩ with | some (.int _ p) => p.toNat | _ => 0
theorem atR_of {wr : World} {X : Nat} {e : E} {h : Hd} {p : Nat} {t : TypeId} (hb : Blk wr X t (acs e h p)) : atQ wr X = p := by
 have h9 : wr.cell? ⟨X, 9, none⟩ = some (.int .i64 (p : Int)) := hb.cell 9
 unfold atQ
 rw [h9]
 exact Int.toNat_natCast p
def LevI (s : ByteArray) (w : World) (G X : Nat) (R : Res) (go : Nat → E → Nat → Res) (f : Nat) (wr : World) : Prop :=
 ∃ (f' : Nat) (e : E) (p : Nat) (h : Hd), f' ≤ f ∧ Blk wr X 62 (acs e h p) ∧ EV wr (fun q => G < q ∧ q < wr.heap.size ∧ q ≠ X) e h ∧ p ≤ s.size ∧ go f' e p = R ∧ Blk wr G 62 nul11 ∧ Below G w wr
theorem row_two {w : World} {b : Nat} {t : TypeId} {x y : E} {h k : Hd} (hb : Blk w b t (ecs x h ++ ecs y k)) : Nine w b 0 x h ∧ Nine w b 9 y k :=
 ⟨hb.nine8 (fun i hi => by rw [Nat.zero_add, Array.getElem?_append_left (by show i < 9; exact hi)]), hb.nine8 (fun i hi => by rw [Array.getElem?_append_right (by show 9 ≤ 9 + i; omega)]; show (ecs y k)[9 + i - 9]? = _; rw [Nat.add_sub_cancel_left])⟩
theorem rlev_n (s : ByteArray) (f n : Nat) (hs : s.size ≤ 1000000) (hn2 : n ≠ 2) (hn6 : n ≠ 6) (hn5 : n ≤ 5) (hbt : ∀ i, i ≤ s.size → ∀ w, Calls Tryz.prog 30 #[.string s, .int .i64 (i : Int), .int .i64 (n : Int)] w (BtwP s n i w)) (hLV : ∀ f', f' ≤ f → RLev s f' (n + 1)) : RLev s (f + 1) n := by
 intro i hi hne w
 have hl : lev s (f + 1) n i = (match lev s f (n + 1) i with | .ok e p => chn s f n e p | .err p c => .err p c | .out => .out) := by
  rw [lev, if_neg hn2, if_neg hn6, if_neg (by omega), if_neg (by omega)]
  cases lev s f (n + 1) i <;> rfl
 have HLE := hid (fun f' j e p (hj : j ≤ s.size) (h : lev s f' (n + 1) j = .ok e p) => lev_le (by omega) hj h)
 have HBL := hid (fun j o (hj : j ≤ s.size) (h : btw s n j = some o) => btw_le hj h)
 have HSG := hid (fun j o (h : btw s n j = some o) => sg_size (btw_some h).1)
 have HBT := hid hbt
 have HCH := hid (fun f' e p => (show chn s (f' + 1) n e p = (match btw s n p with
  | none => .ok e p
  | some o => match lev s f' (n + 1) (past s p o) with
   | .ok y p => if n = 3 then .ok (.mk o nix Rd.nulT [e, y]) p else chn s f' n (.mk o nix Rd.nulT [e, y]) p
   | .err p c => .err p c
   | .out => .out) from by rw [chn]; cases btw s n p <;> rfl))
 have HC0 := hid (fun e p => (show chn s 0 n e p = .out from by rw [chn]))
 have HLV := hid (fun f' (hf : f' ≤ f) j (hj : j ≤ s.size) (h : lev s f' (n + 1) j ≠ .out) w1 => (show Calls Tryz.prog 14 #[.string s, .int .i64 (j : Int), .int .i64 ((n : Int) + 1)] w1 (ReadR (lev s f' (n + 1) j) w1) from hLV f' hf j hj h w1))
 have m2 : ((n : Int) == 2) = false := beq_eq_false_iff_ne.2 (by omega)
 have m6 : ((n : Int) == 6) = false := beq_eq_false_iff_ne.2 (by omega)
 have i5 : (n : Int) ≤ 5 := by omega
 have i0 : (0 : Int) ≤ (n : Int) := by omega
 generalize lev s (f + 1) n i = R at *
 have HNE := hid hne
 have hne1 : lev s f (n + 1) i ≠ .out := fun h => hne (by rw [hl, h])
 have HLI := hid (HLV.out f (Nat.le_refl _) i hi hne1)
 have HL1 := hid (fun e p => HLE.out f i e p hi)
 have HLR := hid hl
 clear hl hne hbt hLV hne1
 generalize lev s f (n + 1) i = R1 at *
 go_enter Tryz.func14, Tryz.ntmps14
 go_upto_region 1 with fail
 refine alloc_gen (fun W hW kG hWs => ?_)
 have HWS := hid hWs
 have hGW := kG.lt
 generalize hG : w.heap.size = G at *
 have HG := hid hG
 have HW := hid hW
 have KG := hid kG
 clear hW kG hWs hG
 go_wp2_with fail
 refine (HLI.out _).mono ?_
 intro e9 w2 hr
 cases R1 with
 | out => exact absurd HLR.out HNE.out
 | err p c =>
  have HRE := hid (show R = .err p c from HLR.out)
  obtain ⟨rfl, hc, hb2⟩ := hr
  have HC := hid hc
  have n1 : (c == 0) = false := beq_eq_false_iff_ne.2 hc
  have KG2 := hid (KG.out.onto hb2)
  have HB2 := hid (HW.out.trans (hb2.mono (by omega)))
  have hws := hb2.size
  unfold wcs
  clear hb2 hc
  go_upto_region 12 with fail
  refine alloc_gn (fun W3 hA3 kX3 => ?_)
  have KG3 := hid (KG2.out.onto hA3)
  have HB3 := hid (HB2.out.trans (hA3.mono (by omega)))
  generalize w2.heap.size = X at *
  have a0 := kX3.cell 0
  have a1 := kX3.cell 1
  have a2 := kX3.cell 2
  have a3 := kX3.cell 3
  have a4 := kX3.cell 4
  have a5 := kX3.cell 5
  have a6 := kX3.cell 6
  have a7 := kX3.cell 7
  have a8 := kX3.cell 8
  have a9 := kX3.cell 9
  have a10 := kX3.cell 10
  clear hA3 kX3
  go_loopw [51] (fun _ wr => wr = W3) (fun _ _ => 0)
  case atStart => exact rfl
  case round =>
   obtain rfl := hrel
   obtain ⟨y0, y1, y2, y3, y4, y5, y6, y7, y8, y9, y10, z0, z1, z2, z3, z4, z5, z6, z7, z8, z9, z10, x0, x1, x2, x3, x4, x5, x6, x7, x8, x9, x10⟩ := old11 KG3.out
   go_wp2_with fail
   refine put11_gen KG3.out _ _ _ _ _ _ _ _ _ _ _ (fun WF hf0 hf1 hf2 hf3 => ?_)
   have HF := hid hf0
   have HFB := hid ((hf1 _ _ HB3.out (Nat.le_refl G)))
   clear z0 x0 z1 x1 z2 x2 z3 x3 z4 x4 z5 x5 z6 x6 z7 x7 z8 x8 z9 x9 z10 x10
   clear hf0 hf1 hf2 hf3
   obtain ⟨c0, c1, c2, c3, c4, c5, c6, c7, c8, c9, c10⟩ := all11 HF.out
   refine bodyPost_ret (v := .agg #[.string ⟨#[]⟩, .string ⟨#[]⟩, .int .i64 0, .bool false, .int .i64 0, .string ⟨#[]⟩, .slice none 0 0, .slice none 0 0, .slice none 0 0, .int .i64 (p : Int), .int .i64 c]) (by simp [results, Tryz.results14, go_sem, c0, c1, c2, c3, c4, c5, c6, c7, c8, c9, c10]) rfl ?_
   rw [HRE.out]
   exact ⟨by unfold wcs; rfl, HC.out, by rw [HG.out]; exact HFB.out⟩
 | ok e p =>
  have HRR := hid (show R = chn s f n e p from HLR.out)
  have hple := (HL1.out e p rfl).2
  obtain ⟨⟨hL, hl1, hL', hl2, hA1, hc1⟩, rfl, hev, hb2⟩ := hr
  have HEV := hid hev
  have KG2 := hid (KG.out.onto hb2)
  have HB2 := hid (HW.out.trans (hb2.mono (by omega)))
  have hws := hb2.size
  unfold acs
  dsimp only
  clear hb2 hev
  go_upto_region 12 with fail
  refine alloc_gn (fun W3 hA3 kX3 => ?_)
  have KG3 := hid (KG2.out.onto hA3)
  have HB3 := hid (HB2.out.trans (hA3.mono (by omega)))
  have hs3 : w2.heap.size < W3.heap.size := kX3.lt
  have HE3 := hid (show EV W3 (fun q => G < q ∧ q < W3.heap.size ∧ q ≠ w2.heap.size) e ⟨hL, hl1, hL', hl2, hA1, hc1⟩ from (HEV.out.keep (fun q hq => hA3.block q hq.2)).wide (fun q hq => ⟨by have := hq.1; omega, by have := hq.2; omega, by have := hq.2; omega⟩))
  have HX3 := hid (show Blk W3 w2.heap.size 62 (acs e ⟨hL, hl1, hL', hl2, hA1, hc1⟩ p) from kX3)
  have hXG : G < w2.heap.size := by omega
  generalize w2.heap.size = X at *
  clear hA3 kX3 HEV
  go_loopw [51] (fun _ wr => LevI s w G X R (fun f' e p => chn s f' n e p) f wr) (fun _ wr => s.size + 1 - atQ wr X)
  case atStart => exact ⟨f, e, p, _, Nat.le_refl _, HX3.out, HE3.out, hple, HRR.out.symm, KG3.out, HB3.out⟩
  case round =>
   clear HX3 HE3 HRR KG3 HB3 hple KG2 HB2 hws hs3
   obtain ⟨f1, e, p, ⟨hL, hl1, hL', hl2, hA1, hc1⟩, hf1, hX, hE, hple, hch, hGG, hbw⟩ := hrel
   have HAT := hid (atR_of hX)
   have HX := hid hX
   have HEE := hid hE
   have HGG := hid hGG
   have HBW := hid hbw
   have hXl := hX.lt
   have hGl := hGG.lt
   cases f1 with
   | zero => exact absurd (hch.symm.trans (HC0.out e p)) HNE.out
   | succ f2 =>
    have HCC := hid (hch.symm.trans (HCH.out f2 e p))
    unfold acs at hX
    dsimp only at hX
    have a0 := hX.cell 0
    have a1 := hX.cell 1
    have a2 := hX.cell 2
    have a3 := hX.cell 3
    have a4 := hX.cell 4
    have a5 := hX.cell 5
    have a6 := hX.cell 6
    have a7 := hX.cell 7
    have a8 := hX.cell 8
    have a9 := hX.cell 9
    have a10 := hX.cell 10
    have HBTT := hid (fun w1 => HBT.out p hple w1)
    clear hX hE hch hGG hbw
    cases hbt : btw s n p with
    | none =>
     have HRE := hid (show R = .ok e p by rw [HCC.out, hbt])
     have HB1 := hid (bt_none hbt)
     clear hbt
     unfold BtwP at HBTT
     rw [HB1.out.1, HB1.out.2] at HBTT
     unfold nix at HBTT
     clear a0 a1 a2 a3 a4 a5 a6 a7 a8
     go_wp2_with fail
     refine (HBTT.out _).mono ?_
     rintro e8 w4 ⟨rfl, hb4⟩
     have HB4 := hid (HBW.out.trans (hb4.mono (Nat.le_of_lt hGl)))
     have KG4 := hid (HGG.out.onto hb4)
     have kX4 := HX.out.onto hb4
     have HE4 := hid (show EV w4 (fun q => G < q ∧ q < w4.heap.size ∧ q ≠ X) e ⟨hL, hl1, hL', hl2, hA1, hc1⟩ from (HEE.out.keep (fun q hq => hb4.block q hq.2.1)).wide (fun q hq => ⟨hq.1, Nat.lt_of_lt_of_le hq.2.1 hb4.size, hq.2.2⟩))
     unfold acs at kX4
     dsimp only at kX4
     clear a9 a10
     have b0 := kX4.cell 0
     have b1 := kX4.cell 1
     have b2 := kX4.cell 2
     have b3 := kX4.cell 3
     have b4 := kX4.cell 4
     have b5 := kX4.cell 5
     have b6 := kX4.cell 6
     have b7 := kX4.cell 7
     have b8 := kX4.cell 8
     have b9 := kX4.cell 9
     have b10 := kX4.cell 10
     clear kX4 hb4
     obtain ⟨y0, y1, y2, y3, y4, y5, y6, y7, y8, y9, y10, z0, z1, z2, z3, z4, z5, z6, z7, z8, z9, z10, x0, x1, x2, x3, x4, x5, x6, x7, x8, x9, x10⟩ := old11 KG4.out
     go_wp2_with fail
     refine put11_gen KG4.out _ _ _ _ _ _ _ _ _ _ _ (fun WF hf0 hf1 hf2 hf3 => ?_)
     have HF := hid hf0
     have HFB := hid ((hf1 _ _ HB4.out (Nat.le_refl G)))
     have HEF := hid (show EV WF (fun z => G ≤ z ∧ z < WF.heap.size) e ⟨hL, hl1, hL', hl2, hA1, hc1⟩ from (HE4.out.keep (fun z hz => (hf2 _ (by have := hz.1; omega)))).wide (fun z hz => ⟨Nat.le_of_lt hz.1, by rw [hf3]; exact hz.2.1⟩))
     clear z0 x0 z1 x1 z2 x2 z3 x3 z4 x4 z5 x5 z6 x6 z7 x7 z8 x8 z9 x9 z10 x10
     clear hf0 hf1 hf2 hf3
     obtain ⟨c0, c1, c2, c3, c4, c5, c6, c7, c8, c9, c10⟩ := all11 HF.out
     refine bodyPost_ret (v := .agg #[.string e.op, .string e.name, .int .i64 e.lit.kind, .bool e.lit.tr, .int .i64 e.lit.num, .string e.lit.str, .slice hL e.lit.items.length hl1, .slice hL' e.lit.keys.length hl2, .slice hA1 e.args.length hc1, .int .i64 (p : Int), .int .i64 0]) (by simp [results, Tryz.results14, go_sem, c0, c1, c2, c3, c4, c5, c6, c7, c8, c9, c10]) rfl ?_
     rw [HRE.out]
     refine ⟨⟨hL, hl1, hL', hl2, hA1, hc1⟩, rfl, ?_, by rw [HG.out]; exact HFB.out⟩
     rw [HG.out]
     exact HEF.out
    | some o =>
     have hob := HBL.out p o hple hbt
     have hos := HSG.out p o hbt
     have HB1 := hid (bt_some hbt)
     have HCD := hid (show R = (match lev s f2 (n + 1) (past s p o) with
      | .ok y p => if n = 3 then .ok (.mk o nix Rd.nulT [e, y]) p else chn s f2 n (.mk o nix Rd.nulT [e, y]) p
      | .err p c => .err p c
      | .out => .out) by rw [HCC.out, hbt])
     have HO2 := hid (show lev s f2 (n + 1) (past s p o) ≠ .out from fun h => HNE.out (by rw [HCD.out, h]))
     have HCALL := hid (fun w1 => HLV.out f2 (by omega) (past s p o) hob.2 HO2.out w1)
     have HLP := hid (fun y p2 h => HLE.out f2 (past s p o) y p2 hob.2 h)
     have g1 : (o.toList == []) = false := by
      rw [ByteArray.toList_eq, beq_eq_false_iff_ne]
      intro h
      have : o.size = 0 := by rw [← size_toList, h]; rfl
      omega
     have g2 : o.toList.isEmpty = false := by
      rw [ByteArray.toList_eq]
      cases hd : o.data.toList with
      | nil =>
       exfalso; have : o.size = 0 := by rw [← size_toList, hd]; rfl
       omega
      | cons a b => rfl
     unfold BtwP at HBTT
     rw [HB1.out.1, HB1.out.2] at HBTT
     clear hbt hos HCC HB1
     generalize lev s f2 (n + 1) (past s p o) = R2 at *
     generalize past s p o = z at *
     clear a0 a1 a2 a3 a4 a5 a6 a7 a8
     go_wp2_with fail
     refine (HBTT.out _).mono ?_
     rintro e8 w4 ⟨rfl, hb4⟩
     have HB4 := hid (HBW.out.trans (hb4.mono (Nat.le_of_lt hGl)))
     have KG4 := hid (HGG.out.onto hb4)
     have HX4 := hid (HX.out.onto hb4)
     have hb4s := hb4.size
     have HE4 := hid (show EV w4 (fun q => G < q ∧ q < w4.heap.size ∧ q ≠ X) e ⟨hL, hl1, hL', hl2, hA1, hc1⟩ from (HEE.out.keep (fun q hq => hb4.block q hq.2.1)).wide (fun q hq => ⟨hq.1, Nat.lt_of_lt_of_le hq.2.1 hb4.size, hq.2.2⟩))
     clear a9 a10 hb4
     go_wp2_with fail
     refine (HCALL.out _).mono ?_
     intro e7 w5 hr
     cases R2 with
     | out => exact absurd rfl HO2.out
     | err p2 c =>
      have HRE := hid (show R = .err p2 c from HCD.out)
      obtain ⟨rfl, hc, hb5⟩ := hr
      have HC := hid hc
      have n1 : (c == 0) = false := beq_eq_false_iff_ne.2 hc
      have n2 : (c != 0) = true := by simpa using hc
      have hb5s := hb5.size
      have KG5 := hid (KG4.out.onto hb5)
      have HB5 := hid (HB4.out.trans (hb5.mono (by omega)))
      unfold wcs
      clear hb5 hc
      go_upto_region 17 with fail
      refine alloc_gn (fun W6 hA6 kX6 => ?_)
      have KG6 := hid (KG5.out.onto hA6)
      have HB6 := hid (HB5.out.trans (hA6.mono (by omega)))
      generalize w5.heap.size = Y at *
      have a0 := kX6.cell 0
      have a1 := kX6.cell 1
      have a2 := kX6.cell 2
      have a3 := kX6.cell 3
      have a4 := kX6.cell 4
      have a5 := kX6.cell 5
      have a6 := kX6.cell 6
      have a7 := kX6.cell 7
      have a8 := kX6.cell 8
      have a9 := kX6.cell 9
      have a10 := kX6.cell 10
      clear hA6 kX6
      obtain ⟨y0, y1, y2, y3, y4, y5, y6, y7, y8, y9, y10, z0, z1, z2, z3, z4, z5, z6, z7, z8, z9, z10, x0, x1, x2, x3, x4, x5, x6, x7, x8, x9, x10⟩ := old11 KG6.out
      go_wp2_with fail
      refine put11_gen KG6.out _ _ _ _ _ _ _ _ _ _ _ (fun WF hf0 hf1 hf2 hf3 => ?_)
      have HF := hid hf0
      have HFB := hid ((hf1 _ _ HB6.out (Nat.le_refl G)))
      clear z0 x0 z1 x1 z2 x2 z3 x3 z4 x4 z5 x5 z6 x6 z7 x7 z8 x8 z9 x9 z10 x10
      clear hf0 hf1 hf2 hf3
      obtain ⟨c0, c1, c2, c3, c4, c5, c6, c7, c8, c9, c10⟩ := all11 HF.out
      refine bodyPost_ret (v := .agg #[.string ⟨#[]⟩, .string ⟨#[]⟩, .int .i64 0, .bool false, .int .i64 0, .string ⟨#[]⟩, .slice none 0 0, .slice none 0 0, .slice none 0 0, .int .i64 (p2 : Int), .int .i64 c]) (by simp [results, Tryz.results14, go_sem, c0, c1, c2, c3, c4, c5, c6, c7, c8, c9, c10]) rfl ?_
      rw [HRE.out]
      exact ⟨by unfold wcs; rfl, HC.out, by rw [HG.out]; exact HFB.out⟩
     | ok y p2 =>
      have hp2 := HLP.out y p2 rfl
      have HCE := hid (show R = (if n = 3 then .ok (.mk o nix Rd.nulT [e, y]) p2 else chn s f2 n (.mk o nix Rd.nulT [e, y]) p2) from HCD.out)
      obtain ⟨⟨kL, kl1, kL', kl2, kA1, kc1⟩, rfl, hevy, hb5⟩ := hr
      have hb5s := hb5.size
      have KG5 := hid (KG4.out.onto hb5)
      have HB5 := hid (HB4.out.trans (hb5.mono (by omega)))
      have HX5 := hid (HX4.out.onto hb5)
      have HEY5 := hid hevy
      have HE5 := hid (show EV w5 (fun q => G < q ∧ q < w5.heap.size ∧ q ≠ X) e ⟨hL, hl1, hL', hl2, hA1, hc1⟩ from (HE4.out.keep (fun q hq => hb5.block q hq.2.1)).wide (fun q hq => ⟨hq.1, Nat.lt_of_lt_of_le hq.2.1 hb5.size, hq.2.2⟩))
      have HY5 := hid (show EV w5 (fun q => G < q ∧ q < w5.heap.size ∧ q ≠ X) y ⟨kL, kl1, kL', kl2, kA1, kc1⟩ from hevy.wide (fun q hq => ⟨by have := hq.1; omega, hq.2, by have := hq.1; omega⟩))
      unfold acs
      dsimp only
      clear hb5 hevy
      go_upto_region 17 with fail
      refine alloc_gn (fun W6 hA6 kX6 => ?_)
      have KG6 := hid (KG5.out.onto hA6)
      have HB6 := hid (HB5.out.trans (hA6.mono (by omega)))
      have HX6 := hid (HX5.out.onto hA6)
      have HYB := hid kX6
      have h6s := kX6.lt
      have HE6 := hid (show EV W6 (fun q => G < q ∧ q < W6.heap.size ∧ q ≠ X) e ⟨hL, hl1, hL', hl2, hA1, hc1⟩ from (HE5.out.keep (fun q hq => hA6.block q hq.2.1)).wide (fun q hq => ⟨hq.1, Nat.lt_of_lt_of_le hq.2.1 hA6.size, hq.2.2⟩))
      have HY6 := hid (show EV W6 (fun q => G < q ∧ q < W6.heap.size ∧ q ≠ X) y ⟨kL, kl1, kL', kl2, kA1, kc1⟩ from (HY5.out.keep (fun q hq => hA6.block q hq.2.1)).wide (fun q hq => ⟨hq.1, Nat.lt_of_lt_of_le hq.2.1 hA6.size, hq.2.2⟩))
      have hXY : X < w5.heap.size := by omega
      generalize w5.heap.size = Y at *
      have kX := HX6.out
      unfold acs at kX
      dsimp only at kX
      have a0 := kX.cell 0
      have a1 := kX.cell 1
      have a2 := kX.cell 2
      have a3 := kX.cell 3
      have a4 := kX.cell 4
      have a5 := kX.cell 5
      have a6 := kX.cell 6
      have a7 := kX.cell 7
      have a8 := kX.cell 8
      have a9 := kX.cell 9
      have a10 := kX.cell 10
      have b10 := HYB.out.cell 10
      clear kX hA6 kX6
      go_upto_region 20 with fail
      refine alloc_gn (fun W7 hA7 kX7 => ?_)
      clear a0 a1 a2 a3 a4 a5 a6 a7 a8 a9 a10 b10
      have KG7 := hid (KG6.out.onto hA7)
      have HB7 := hid (HB6.out.trans (hA7.mono (by omega)))
      have HX7 := hid (HX6.out.onto hA7)
      have HYB7 := hid (HYB.out.onto hA7)
      have h7s := kX7.lt
      have HE7 := hid (show EV W7 (fun q => G < q ∧ q < W7.heap.size ∧ q ≠ X) e ⟨hL, hl1, hL', hl2, hA1, hc1⟩ from (HE6.out.keep (fun q hq => hA7.block q hq.2.1)).wide (fun q hq => ⟨hq.1, Nat.lt_of_lt_of_le hq.2.1 hA7.size, hq.2.2⟩))
      have HY7 := hid (show EV W7 (fun q => G < q ∧ q < W7.heap.size ∧ q ≠ X) y ⟨kL, kl1, kL', kl2, kA1, kc1⟩ from (HY6.out.keep (fun q hq => hA7.block q hq.2.1)).wide (fun q hq => ⟨hq.1, Nat.lt_of_lt_of_le hq.2.1 hA7.size, hq.2.2⟩))
      have HFB7 := hid kX7
      have hYF : Y < W6.heap.size := h6s
      generalize W6.heap.size = F at *
      clear hA7 kX7
      have kF := HFB7.out
      have kY := HYB7.out
      have d0 := kF.cell 0
      have d1 := kF.cell 1
      have d2 := kF.cell 2
      have d3 := kF.cell 3
      have d4 := kF.cell 4
      have d5 := kF.cell 5
      have d6 := kF.cell 6
      have d7 := kF.cell 7
      have d8 := kF.cell 8
      have b0 := kY.cell 0
      have b1 := kY.cell 1
      have b2 := kY.cell 2
      have b3 := kY.cell 3
      have b4 := kY.cell 4
      have b5 := kY.cell 5
      have b6 := kY.cell 6
      have b7 := kY.cell 7
      have b8 := kY.cell 8
      have b9 := kY.cell 9
      have hXW : X < W7.heap.size := by omega
      have hYW : Y < W7.heap.size := by omega
      have hFW : F < W7.heap.size := by omega
      obtain ⟨y0, y1, y2, y3, y4, y5, y6, y7, y8, y9, y10, z0, z1, z2, z3, z4, z5, z6, z7, z8, z9, z10, x0, x1, x2, x3, x4, x5, x6, x7, x8, x9, x10⟩ := old11 HX7.out
      clear kF kY
      go_upto_region 21 with fail
      have hsz : (((((((((((W7.setCell ⟨X, 0, none⟩ (.string o)).setCell ⟨X, 1, none⟩ (.string ⟨#[]⟩)).setCell ⟨X, 2, none⟩ (.int .i64 0)).setCell ⟨X, 3, none⟩ (.bool false)).setCell ⟨X, 4, none⟩ (.int .i64 0)).setCell ⟨X, 5, none⟩ (.string ⟨#[]⟩)).setCell ⟨X, 6, none⟩ (.slice none 0 0)).setCell ⟨X, 7, none⟩ (.slice none 0 0)).setCell ⟨X, 8, none⟩ (.slice (some ⟨W7.heap.size, 0, none⟩) 2 2)).setCell ⟨X, 9, none⟩ (.int .i64 (p2 : Int))).setCell ⟨X, 10, none⟩ (.int .i64 0)).heap.size = W7.heap.size := by simp only [World.size_setCell]
      have HX80 := hid (show Blk (((((((((((W7.setCell ⟨X, 0, none⟩ (.string o)).setCell ⟨X, 1, none⟩ (.string ⟨#[]⟩)).setCell ⟨X, 2, none⟩ (.int .i64 0)).setCell ⟨X, 3, none⟩ (.bool false)).setCell ⟨X, 4, none⟩ (.int .i64 0)).setCell ⟨X, 5, none⟩ (.string ⟨#[]⟩)).setCell ⟨X, 6, none⟩ (.slice none 0 0)).setCell ⟨X, 7, none⟩ (.slice none 0 0)).setCell ⟨X, 8, none⟩ (.slice (some ⟨W7.heap.size, 0, none⟩) 2 2)).setCell ⟨X, 9, none⟩ (.int .i64 (p2 : Int))).setCell ⟨X, 10, none⟩ (.int .i64 0)) X 62 #[.string o, .string ⟨#[]⟩, .int .i64 0, .bool false, .int .i64 0, .string ⟨#[]⟩, .slice none 0 0, .slice none 0 0, .slice (some ⟨W7.heap.size, 0, none⟩) 2 2, .int .i64 (p2 : Int), .int .i64 0] from put11_blk HX7.out rfl _ _ _ _ _ _ _ _ _ _ _)
      have HB80 := hid (put11_below HB7.out (Nat.le_of_lt hXG) (.string o) (.string ⟨#[]⟩) (.int .i64 0) (.bool false) (.int .i64 0) (.string ⟨#[]⟩) (.slice none 0 0) (.slice none 0 0) (.slice (some ⟨W7.heap.size, 0, none⟩) 2 2) (.int .i64 (p2 : Int)) (.int .i64 0))
      have HG80 := hid (show Blk (((((((((((W7.setCell ⟨X, 0, none⟩ (.string o)).setCell ⟨X, 1, none⟩ (.string ⟨#[]⟩)).setCell ⟨X, 2, none⟩ (.int .i64 0)).setCell ⟨X, 3, none⟩ (.bool false)).setCell ⟨X, 4, none⟩ (.int .i64 0)).setCell ⟨X, 5, none⟩ (.string ⟨#[]⟩)).setCell ⟨X, 6, none⟩ (.slice none 0 0)).setCell ⟨X, 7, none⟩ (.slice none 0 0)).setCell ⟨X, 8, none⟩ (.slice (some ⟨W7.heap.size, 0, none⟩) 2 2)).setCell ⟨X, 9, none⟩ (.int .i64 (p2 : Int))).setCell ⟨X, 10, none⟩ (.int .i64 0)) G 62 nul11 from (put11_heap (by omega) (.string o) (.string ⟨#[]⟩) (.int .i64 0) (.bool false) (.int .i64 0) (.string ⟨#[]⟩) (.slice none 0 0) (.slice none 0 0) (.slice (some ⟨W7.heap.size, 0, none⟩) 2 2) (.int .i64 (p2 : Int)) (.int .i64 0)).trans KG7.out)
      have HE80 := hid (show EV (((((((((((W7.setCell ⟨X, 0, none⟩ (.string o)).setCell ⟨X, 1, none⟩ (.string ⟨#[]⟩)).setCell ⟨X, 2, none⟩ (.int .i64 0)).setCell ⟨X, 3, none⟩ (.bool false)).setCell ⟨X, 4, none⟩ (.int .i64 0)).setCell ⟨X, 5, none⟩ (.string ⟨#[]⟩)).setCell ⟨X, 6, none⟩ (.slice none 0 0)).setCell ⟨X, 7, none⟩ (.slice none 0 0)).setCell ⟨X, 8, none⟩ (.slice (some ⟨W7.heap.size, 0, none⟩) 2 2)).setCell ⟨X, 9, none⟩ (.int .i64 (p2 : Int))).setCell ⟨X, 10, none⟩ (.int .i64 0)) (fun q => G < q ∧ q < (((((((((((W7.setCell ⟨X, 0, none⟩ (.string o)).setCell ⟨X, 1, none⟩ (.string ⟨#[]⟩)).setCell ⟨X, 2, none⟩ (.int .i64 0)).setCell ⟨X, 3, none⟩ (.bool false)).setCell ⟨X, 4, none⟩ (.int .i64 0)).setCell ⟨X, 5, none⟩ (.string ⟨#[]⟩)).setCell ⟨X, 6, none⟩ (.slice none 0 0)).setCell ⟨X, 7, none⟩ (.slice none 0 0)).setCell ⟨X, 8, none⟩ (.slice (some ⟨W7.heap.size, 0, none⟩) 2 2)).setCell ⟨X, 9, none⟩ (.int .i64 (p2 : Int))).setCell ⟨X, 10, none⟩ (.int .i64 0)).heap.size ∧ q ≠ X) e ⟨hL, hl1, hL', hl2, hA1, hc1⟩ from (HE7.out.keep (fun q hq => put11_heap hq.2.2 (.string o) (.string ⟨#[]⟩) (.int .i64 0) (.bool false) (.int .i64 0) (.string ⟨#[]⟩) (.slice none 0 0) (.slice none 0 0) (.slice (some ⟨W7.heap.size, 0, none⟩) 2 2) (.int .i64 (p2 : Int)) (.int .i64 0))).wide (fun q hq => ⟨hq.1, by rw [hsz]; exact hq.2.1, hq.2.2⟩))
      have HY80 := hid (show EV (((((((((((W7.setCell ⟨X, 0, none⟩ (.string o)).setCell ⟨X, 1, none⟩ (.string ⟨#[]⟩)).setCell ⟨X, 2, none⟩ (.int .i64 0)).setCell ⟨X, 3, none⟩ (.bool false)).setCell ⟨X, 4, none⟩ (.int .i64 0)).setCell ⟨X, 5, none⟩ (.string ⟨#[]⟩)).setCell ⟨X, 6, none⟩ (.slice none 0 0)).setCell ⟨X, 7, none⟩ (.slice none 0 0)).setCell ⟨X, 8, none⟩ (.slice (some ⟨W7.heap.size, 0, none⟩) 2 2)).setCell ⟨X, 9, none⟩ (.int .i64 (p2 : Int))).setCell ⟨X, 10, none⟩ (.int .i64 0)) (fun q => G < q ∧ q < (((((((((((W7.setCell ⟨X, 0, none⟩ (.string o)).setCell ⟨X, 1, none⟩ (.string ⟨#[]⟩)).setCell ⟨X, 2, none⟩ (.int .i64 0)).setCell ⟨X, 3, none⟩ (.bool false)).setCell ⟨X, 4, none⟩ (.int .i64 0)).setCell ⟨X, 5, none⟩ (.string ⟨#[]⟩)).setCell ⟨X, 6, none⟩ (.slice none 0 0)).setCell ⟨X, 7, none⟩ (.slice none 0 0)).setCell ⟨X, 8, none⟩ (.slice (some ⟨W7.heap.size, 0, none⟩) 2 2)).setCell ⟨X, 9, none⟩ (.int .i64 (p2 : Int))).setCell ⟨X, 10, none⟩ (.int .i64 0)).heap.size ∧ q ≠ X) y ⟨kL, kl1, kL', kl2, kA1, kc1⟩ from (HY7.out.keep (fun q hq => put11_heap hq.2.2 (.string o) (.string ⟨#[]⟩) (.int .i64 0) (.bool false) (.int .i64 0) (.string ⟨#[]⟩) (.slice none 0 0) (.slice none 0 0) (.slice (some ⟨W7.heap.size, 0, none⟩) 2 2) (.int .i64 (p2 : Int)) (.int .i64 0))).wide (fun q hq => ⟨hq.1, by rw [hsz]; exact hq.2.1, hq.2.2⟩))
      clear z0 x0 z1 x1 z2 x2 z3 x3 z4 x4 z5 x5 z6 x6 z7 x7 z8 x8 z9 x9 z10 x10
      generalize (((((((((((W7.setCell ⟨X, 0, none⟩ (.string o)).setCell ⟨X, 1, none⟩ (.string ⟨#[]⟩)).setCell ⟨X, 2, none⟩ (.int .i64 0)).setCell ⟨X, 3, none⟩ (.bool false)).setCell ⟨X, 4, none⟩ (.int .i64 0)).setCell ⟨X, 5, none⟩ (.string ⟨#[]⟩)).setCell ⟨X, 6, none⟩ (.slice none 0 0)).setCell ⟨X, 7, none⟩ (.slice none 0 0)).setCell ⟨X, 8, none⟩ (.slice (some ⟨W7.heap.size, 0, none⟩) 2 2)).setCell ⟨X, 9, none⟩ (.int .i64 (p2 : Int))).setCell ⟨X, 10, none⟩ (.int .i64 0)) = WP at *
      have hA8 : Below WP.heap.size WP (WP.alloc (.cells #[.string e.op, .string e.name, .int .i64 e.lit.kind, .bool e.lit.tr, .int .i64 e.lit.num, .string e.lit.str, .slice hL e.lit.items.length hl1, .slice hL' e.lit.keys.length hl2, .slice hA1 e.args.length hc1, .string y.op, .string y.name, .int .i64 y.lit.kind, .bool y.lit.tr, .int .i64 y.lit.num, .string y.lit.str, .slice kL y.lit.items.length kl1, .slice kL' y.lit.keys.length kl2, .slice kA1 y.args.length kc1] 30)) := (Below.refl _ _).alloc (Nat.le_refl _) _
      have kR : Blk (WP.alloc (.cells #[.string e.op, .string e.name, .int .i64 e.lit.kind, .bool e.lit.tr, .int .i64 e.lit.num, .string e.lit.str, .slice hL e.lit.items.length hl1, .slice hL' e.lit.keys.length hl2, .slice hA1 e.args.length hc1, .string y.op, .string y.name, .int .i64 y.lit.kind, .bool y.lit.tr, .int .i64 y.lit.num, .string y.lit.str, .slice kL y.lit.items.length kl1, .slice kL' y.lit.keys.length kl2, .slice kA1 y.args.length kc1] 30)) W7.heap.size 30 #[.string e.op, .string e.name, .int .i64 e.lit.kind, .bool e.lit.tr, .int .i64 e.lit.num, .string e.lit.str, .slice hL e.lit.items.length hl1, .slice hL' e.lit.keys.length hl2, .slice hA1 e.args.length hc1, .string y.op, .string y.name, .int .i64 y.lit.kind, .bool y.lit.tr, .int .i64 y.lit.num, .string y.lit.str, .slice kL y.lit.items.length kl1, .slice kL' y.lit.keys.length kl2, .slice kA1 y.args.length kc1] := by rw [← hsz]; exact Blk.new WP _ _
      have hrl := kR.lt
      have hrow := row_two (x := e) (y := y) (h := ⟨hL, hl1, hL', hl2, hA1, hc1⟩) (k := ⟨kL, kl1, kL', kl2, kA1, kc1⟩) kR
      have HX8 := hid (HX80.out.onto hA8)
      have KG8 := hid (HG80.out.onto hA8)
      have HB8 := hid (HB80.out.trans (hA8.mono (by rw [hsz]; omega)))
      have HE8 := hid (EV.two (o := o) (n := nix) (S := fun q => G < q ∧ q < (WP.alloc (.cells #[.string e.op, .string e.name, .int .i64 e.lit.kind, .bool e.lit.tr, .int .i64 e.lit.num, .string e.lit.str, .slice hL e.lit.items.length hl1, .slice hL' e.lit.keys.length hl2, .slice hA1 e.args.length hc1, .string y.op, .string y.name, .int .i64 y.lit.kind, .bool y.lit.tr, .int .i64 y.lit.num, .string y.lit.str, .slice kL y.lit.items.length kl1, .slice kL' y.lit.keys.length kl2, .slice kA1 y.args.length kc1] 30)).heap.size ∧ q ≠ X) (b := W7.heap.size) ⟨by omega, hrl, by omega⟩ hrow.1 hrow.2 ((HE80.out.keep (fun q hq => hA8.block q hq.2.1)).wide (fun q hq => ⟨hq.1, Nat.lt_of_lt_of_le hq.2.1 hA8.size, hq.2.2⟩)) ((HY80.out.keep (fun q hq => hA8.block q hq.2.1)).wide (fun q hq => ⟨hq.1, Nat.lt_of_lt_of_le hq.2.1 hA8.size, hq.2.2⟩)) (Nat.le_refl 2))
      generalize (WP.alloc (.cells #[.string e.op, .string e.name, .int .i64 e.lit.kind, .bool e.lit.tr, .int .i64 e.lit.num, .string e.lit.str, .slice hL e.lit.items.length hl1, .slice hL' e.lit.keys.length hl2, .slice hA1 e.args.length hc1, .string y.op, .string y.name, .int .i64 y.lit.kind, .bool y.lit.tr, .int .i64 y.lit.num, .string y.lit.str, .slice kL y.lit.items.length kl1, .slice kL' y.lit.keys.length kl2, .slice kA1 y.args.length kc1] 30)) = W8 at *
      generalize W7.heap.size = B at *
      have hG8 := KG8.out.lt
      clear hA8 kR hrl hrow hsz HX80 HG80 HB80 HE80 HY80
      by_cases h3 : n = 3
      ·
       have m3 : ((n : Int) == 3) = true := by rw [beq_iff_eq]; omega
       have HRE := hid (HCE.out.trans (if_pos h3))
       have kX := HX8.out
       have a0 := kX.cell 0
       have a1 := kX.cell 1
       have a2 := kX.cell 2
       have a3 := kX.cell 3
       have a4 := kX.cell 4
       have a5 := kX.cell 5
       have a6 := kX.cell 6
       have a7 := kX.cell 7
       have a8 := kX.cell 8
       have a9 := kX.cell 9
       have a10 := kX.cell 10
       clear kX h3
       obtain ⟨y0, y1, y2, y3, y4, y5, y6, y7, y8, y9, y10, z0, z1, z2, z3, z4, z5, z6, z7, z8, z9, z10, x0, x1, x2, x3, x4, x5, x6, x7, x8, x9, x10⟩ := old11 KG8.out
       go_wp2_with fail
       refine put11_gen KG8.out _ _ _ _ _ _ _ _ _ _ _ (fun WF hf0 hf1 hf2 hf3 => ?_)
       have HF := hid hf0
       have HFB := hid ((hf1 _ _ HB8.out (Nat.le_refl G)))
       have HEF := hid (show EV WF (fun z => G ≤ z ∧ z < WF.heap.size) (.mk o nix Rd.nulT [e, y]) ⟨none, 0, none, 0, some ⟨B, 0, none⟩, 2⟩ from (HE8.out.keep (fun z hz => (hf2 _ (by have := hz.1; omega)))).wide (fun z hz => ⟨Nat.le_of_lt hz.1, by rw [hf3]; exact hz.2.1⟩))
       clear z0 x0 z1 x1 z2 x2 z3 x3 z4 x4 z5 x5 z6 x6 z7 x7 z8 x8 z9 x9 z10 x10
       clear hf0 hf1 hf2 hf3
       obtain ⟨c0, c1, c2, c3, c4, c5, c6, c7, c8, c9, c10⟩ := all11 HF.out
       refine bodyPost_ret (v := .agg #[.string o, .string ⟨#[]⟩, .int .i64 0, .bool false, .int .i64 0, .string ⟨#[]⟩, .slice none 0 0, .slice none 0 0, .slice (some ⟨B, 0, none⟩) 2 2, .int .i64 (p2 : Int), .int .i64 0]) (by simp [results, Tryz.results14, go_sem, c0, c1, c2, c3, c4, c5, c6, c7, c8, c9, c10]) rfl ?_
       rw [HRE.out]
       refine ⟨⟨none, 0, none, 0, some ⟨B, 0, none⟩, 2⟩, rfl, ?_, by rw [HG.out]; exact HFB.out⟩
       rw [HG.out]
       exact HEF.out
      ·
       have m3 : ((n : Int) == 3) = false := beq_eq_false_iff_ne.2 (by omega)
       have HRN := hid (HCE.out.trans (if_neg h3)).symm
       have HP8 := hid (atR_of (e := .mk o nix Rd.nulT [e, y]) (h := ⟨none, 0, none, 0, some ⟨B, 0, none⟩, 2⟩) (p := p2) HX8.out)
       go_wp2_with fail
       go_roundw
       case rel => exact ⟨f2, .mk o nix Rd.nulT [e, y], p2, ⟨none, 0, none, 0, some ⟨B, 0, none⟩, 2⟩, by omega, HX8.out, HE8.out, hp2.2, HRN.out, KG8.out, HB8.out⟩
       case measure => rw [HP8.out, HAT.out]; omega
end Go.Proofs.YtfbipnflgjhaiaaGreatDoor
