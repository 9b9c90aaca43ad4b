/- What is put together from the left: the chain's contract. A test between two sums, and signs ahead: contracts of the program's parser. Signs ahead: contract of the program's parser. -/
import Derived.Test.YtfbipnflgjhaiaaGreatDoorEG
set_option linter.unusedVariables false
set_option maxRecDepth 100000
set_option maxHeartbeats 8000000
open Go.Lib (hid)
namespace Go.Proofs.YtfbipnflgjhaiaaGreatDoor
open Go.RowKit
open Tk Ex
theorem SReads.aside {b : Nat} {w w' : World} {A : Option Addr} {l : List ByteArray} (h : SReads w (fun q => q ≠ b ∧ q < w.heap.size) A l) (ha : Aside b w w') : SReads w' (fun q => q ≠ b ∧ q < w'.heap.size) A l := by
 intro hn
 obtain ⟨g, o, e, ⟨h1, h2⟩, hc⟩ := h hn
 exact ⟨g, o, e, ⟨h1, Nat.lt_of_lt_of_le h2 ha.size⟩, fun i v hi => (World.cell?_of_block (ha.block g h2 h1)).trans (hc i v hi)⟩
theorem SReads.ne {b : Nat} {w : World} {A : Option Addr} {l : List ByteArray} (h : SReads w (fun q => q ≠ b ∧ q < w.heap.size) A l) (hl : l ≠ []) : ∀ g o, A = some ⟨g, o, none⟩ → g ≠ b := by
 intro g o e
 obtain ⟨g2, o2, e2, ⟨h1, _⟩, _⟩ := h hl
 rw [e2] at e
 injection e with e
 injection e with e _ _
 rw [← e]; exact h1
theorem PartAt.aside {b lo : Nat} {w w' : World} {g : Nat} {e : E} (h : PartAt w (fun q => lo ≤ q ∧ q < w.heap.size) g e) (ha : Aside b w w') (hb : b < lo) : PartAt w' (fun q => lo ≤ q ∧ q < w'.heap.size) g e :=
 (h.keep fun q hq => ha.block q hq.2 (by omega)).wide fun q hq => ⟨hq.1, Nat.lt_of_lt_of_le hq.2 ha.size⟩
theorem LevP.carry {R : Res} {b : Nat} {s : ByteArray} {w0 w w' : World} {e : Ending} (h : LevP R b s w e w') (ha : Aside b w0 w) : LevP R b s w0 e w' := by
 cases R with
 | out => trivial
 | err p c => obtain ⟨h1, h2, h3⟩ := h; exact ⟨h1, ha.then h2, h3⟩
 | ok x p =>
  obtain ⟨g, h1, h2, h3, h4⟩ := h
  exact ⟨g, h1, h2.wide fun q hq => ⟨Nat.le_trans ha.size hq.1, hq.2⟩, ha.then h3, h4⟩
theorem sg_small {n : Nat} {t : ByteArray} (h : t ∈ sg n) : t.size ≤ 100 := by
 unfold sg at h
 split at h <;> simp at h
 · subst h; decide
 · subst h; decide
 · rcases h with rfl | rfl | rfl | rfl | rfl | rfl <;> decide
 · rcases h with rfl | rfl <;> decide
 · rcases h with rfl | rfl | rfl <;> decide
theorem xchain_any (s : ByteArray) (hs : s.size ≤ 50000) (f n m : Nat) (hn : n = 0 ∨ n = 1 ∨ n = 4 ∨ n = 5) (IH : ∀ f', f' ≤ f → Reads8 s f' (n + 1) m) (hen : ∀ args w, (callFunc m args).run Tryz.prog w = .ok (.enter m args) w)
 (i b : Nat) (A : Option Addr) (c : Nat) (w : World) (hA : SReads w (fun q => q ≠ b ∧ q < w.heap.size) A (sg n)) (hp : Px w b s i) (hE : Err8 b w) (hi : i ≤ s.size) (hR : lev s (f + 1) n i ≠ .out) :
 Calls Tryz.prog 35 #[.pointer (some ⟨b, 0, none⟩), .func (.func m) #[] #[], .slice A (sg n).length c] w (LevP (lev s (f + 1) n i) b s w) := by
 have hlev : lev s (f + 1) n i = match lev s f (n + 1) i with | .ok e p => chn s f n e p | .err p c => .err p c | .out => .out := by
  rw [lev, if_neg (by omega), if_neg (by omega), if_neg (by omega), if_neg (by omega)]
  rfl
 have hsl : (sg n).length ≤ 100 := by rcases hn with rfl | rfl | rfl | rfl <;> decide
 have hsn : sg n ≠ [] := by rcases hn with rfl | rfl | rfl | rfl <;> decide
 have hn8 : n + 1 ≤ 8 := by omega
 have hn3 : n ≠ 3 := by omega
 have hne0 : lev s f (n + 1) i ≠ .out := by
  intro h0; rw [hlev, h0] at hR; exact hR rfl
 have HSZ := hid (fun t (h : t ∈ sg n) => sg_small h)
 have HIH := hid IH
 have HA := hid hA
 have HP := hid hp
 have HE := hid hE
 have HL := hid hlev
 have hbl := hp.lt
 have HFIND := hid (fun p => (show (sg n).find? (stands s p) = btw s n p from rfl))
 have HLE := hid (fun e p (h : lev s f (n + 1) i = .ok e p) => (show p ≤ s.size ∧ e.depth ≤ p from ⟨(lev_le hn8 hi h).2, by have := lev_dp hn8 hi h; omega⟩))
 generalize hRR : lev s (f + 1) n i = R at *
 generalize hLN : (sg n).length = LN at *
 clear hA hp hE hlev IH hRR
 go_enter Tryz.func35, Tryz.ntmps35
 go_wp2_with fail
 refine (HIH.out f (Nat.le_refl f) i b w HP.out HE.out hi hne0).mono ?_
 intro e w1 hl1
 have hch0 : ∃ v, e = .returned v ∧ ChnI b s w n R f v w1 := by
  have hL := HL.out
  cases hx : lev s f (n + 1) i with
  | out => exact absurd hx hne0
  | err p c =>
   rw [hx] at hl1 hL
   obtain ⟨rfl, h2, h3⟩ := hl1
   exact ⟨_, rfl, .inr ⟨rfl, by rw [hL]; exact ⟨rfl, h2, h3⟩⟩⟩
  | ok e1 p =>
   rw [hx] at hl1 hL
   obtain ⟨g, rfl, h2, h3, h4⟩ := hl1
   obtain ⟨h5, h6⟩ := HLE.out e1 p hx
   exact ⟨_, rfl, .inl ⟨f, e1, p, g, rfl, Nat.le_refl _, hL.symm, h6, h2, h3, h4, h5⟩⟩
 obtain ⟨v0, rfl, hch⟩ := hch0
 have HCH := hid (show ChnI b s w n R f v0 w1 from hch)
 clear hl1 hch HLE
 go_wp2_with fail
 go_loopw [7] (fun x wr => ChnI b s w n R f x wr) (fun x wr => madeN x * (s.size + 2 - pxAt wr b))
 case atStart => exact HCH.out
 case round =>
  rcases hrel with ⟨f', e1, p, g, rfl, hf', hch, hd, hpa, ha, hpx, hps⟩ | ⟨rfl, hlv⟩
  ·
   have n1 := run_nilN (some g)
   have n2 : (!(some g).isNone) = true := rfl
   cases f' with
   | zero => rw [chn] at hch; exact absurd hch.symm hR
   | succ f1 =>
   have HPA := hid hpa
   have HAS := hid ha
   have HPX := hid hpx
   have HAW := hid (HA.out.aside ha)
   have HEW := hid (HE.out.side ha)
   have hwl := ha.size
   have HSG := hid (xsign_any b s p (sg n) A c wr (by omega) hpx hps (by omega) (fun t ht => HSZ.out t ht) (HAW.out.wide fun q hq => hq.2) (HAW.out.ne hsn))
   rw [hLN] at HSG
   have hpxat := hpx.at_
   cases hbt : btw s n p with
   | none =>
    have HR2 := hid (show R = .ok e1 p by rw [← hch, chn, hbt])
    have HF := hid ((HFIND.out p).trans hbt)
    clear hpa ha hpx hch hbt hpxat
    go_wp2_with fail
    refine HSG.out.mono ?_
    intro e w2 hsp
    unfold SignPost at hsp
    rw [HF.out] at hsp
    obtain ⟨rfl, hb2⟩ := hsp
    have u1 : (⟨#[]⟩ : ByteArray).toList.isEmpty = true := by rw [ByteArray.toList_eq]; decide +kernel
    have u2 : ((⟨#[]⟩ : ByteArray).toList == (⟨#[]⟩ : ByteArray).toList) = true := beq_self_eq_true _
    have H2 := hid hb2
    clear hb2 HSG
    go_wp2_with fail
    go_ret
    rw [HR2.out]
    exact ⟨g, rfl, HPA.out.aside (Aside.of H2.out) hbl, HAS.out.then (Aside.of H2.out), HPX.out.onto H2.out⟩
   | some o =>
    have hso := btw_some hbt
    have hle := btw_le hps hbt
    have hosz := sg_size hso.1
    have HF := hid ((HFIND.out p).trans hbt)
    have hne : lev s f1 (n + 1) (past s p o) ≠ .out := by
     intro h0
     rw [chn, hbt] at hch
     dsimp only at hch
     rw [h0] at hch
     exact hR hch.symm
    have HCH2 := hid (show R = match lev s f1 (n + 1) (past s p o) with
     | .ok y p => chn s f1 n (.mk o nix Rd.nulT [e1, y]) p
     | .err p c => .err p c
     | .out => .out from by rw [← hch, chn, hbt]; dsimp only; split <;> simp_all)
    have ho0 : o ≠ nix := by rintro rfl; exact absurd hosz (by decide)
    have u1 : o.toList.isEmpty = false := by
     rw [ByteArray.toList_eq, List.isEmpty_eq_false_iff]
     intro e
     exact ho0 (ba_ext (b := nix) e)
    have u2 : (o.toList == (⟨#[]⟩ : ByteArray).toList) = false := by rw [tl_eqb]; exact eqb_no ho0
    have HIH2 := hid (fun w2 (h1 : Px w2 b s (past s p o)) h2 => HIH.out f1 (by omega) (past s p o) b w2 h1 h2 hle.2 hne)
    have HLV := hid (fun y q (h : lev s f1 (n + 1) (past s p o) = .ok y q) => (show past s p o < q ∧ q ≤ s.size ∧ y.depth + past s p o ≤ q from ⟨(lev_le hn8 hle.2 h).1, (lev_le hn8 hle.2 h).2, lev_dp hn8 hle.2 h⟩))
    obtain ⟨pa, hpae⟩ : ∃ pa, past s p o = pa := ⟨_, rfl⟩
    rw [hpae] at hle hne HCH2 HIH2 HLV
    have HPAE := hid hpae
    clear hpa ha hpx hch hbt hso hosz ho0 hpae
    go_wp2_with fail
    refine HSG.out.mono ?_
    intro e w2 hsp
    unfold SignPost at hsp
    rw [HF.out] at hsp
    obtain ⟨rfl, ha2, hp2⟩ := hsp
    rw [HPAE.out] at hp2
    have HA2 := hid (HAS.out.then ha2)
    have HP2 := hid hp2
    have HPA2 := hid (HPA.out.aside ha2 hbl)
    have HE2 := hid (HEW.out.side ha2)
    have hw2 := ha2.size
    clear ha2 hp2 HSG HPA HAS HPX
    go_wp2_with fail
    refine (HIH2.out w2 HP2.out HE2.out).mono ?_
    intro e w3 hl3
    cases hx : lev s f1 (n + 1) pa with
    | out => exact absurd hx hne
    | err p2 c2 =>
     have HR2 := hid (show R = .err p2 c2 by have := HCH2.out; rw [hx] at this; exact this)
     rw [hx] at hl3
     obtain ⟨rfl, h2, h3⟩ := hl3
     have HA3 := hid (HA2.out.then h2)
     have HN3 := hid h3
     clear h2 h3 hx HCH2 HLV
     go_wp2_with fail
     refine (xjoin_nil2 o ⟨#[]⟩ (some g) w3).mono ?_
     rintro e w4 ⟨rfl, rfl⟩
     have hb4 : Below w3.heap.size w3 (w3.alloc (.cells #[.pointer (padr (some g)), .pointer (padr none)] 74)) := (Below.refl _ _).alloc (Nat.le_refl _) _
     have HA4 := hid (HA3.out.then (Aside.of hb4))
     have HN4 := hid (show Noted _ b s p2 c2 from by obtain ⟨i2, h⟩ := HN3.out; exact ⟨i2, h.onto hb4⟩)
     generalize (w3.alloc (.cells #[.pointer (padr (some g)), .pointer (padr none)] 74)) = W4 at *
     clear hb4
     go_wp2_with fail
     go_roundw
     case rel => exact .inr ⟨rfl, by rw [HR2.out]; exact ⟨rfl, HA4.out, HN4.out⟩⟩
     case measure =>
      have e1 : madeN (.pointer (padr none)) = 0 := rfl
      have e2 : madeN (.pointer (padr (some g))) = 1 := rfl
      rw [e1, e2, hpxat]; omega
    | ok y q =>
     obtain ⟨hq1, hq2, hq3⟩ := HLV.out y q hx
     have HR2 := hid (show chn s f1 n (.mk o nix Rd.nulT [e1, y]) q = R by have := HCH2.out; rw [hx] at this; exact this.symm)
     rw [hx] at hl3
     obtain ⟨g2, rfl, h2, h3, h4⟩ := hl3
     have hw3 := h3.size
     have HA3 := hid (HA2.out.then h3)
     have HP3 := hid h4
     have HPA3 := hid (HPA2.out.aside h3 hbl)
     have HPB3 := hid (h2.wide (S' := fun k => w.heap.size ≤ k ∧ k < w3.heap.size) fun k hk => ⟨by omega, hk.2⟩)
     have HDD := hid (show (E.mk o nix Rd.nulT [e1, y]).depth ≤ q from by rw [two_depth]; omega)
     clear h2 h3 h4 hx HCH2 HLV
     go_wp2_with fail
     refine (xjoin_two o nix g g2 e1 y b w3 (fun k => w.heap.size ≤ k ∧ k < w3.heap.size) (fun k hk => hk.2) HPA3.out HPB3.out (by omega) (by omega)).mono ?_
     rintro e w4 ⟨g3, rfl, hpj, hb4⟩
     have hb4' : Below w3.heap.size w3 w4 := ((Below.refl w3.heap.size w3).alloc (Nat.le_refl _) _).trans (hb4.mono (by simp))
     have HA4 := hid (HA3.out.then (Aside.of hb4'))
     have HP4 := hid (HP3.out.onto hb4')
     have HPJ := hid (hpj.wide (S' := fun k => w.heap.size ≤ k ∧ k < w4.heap.size) fun k hk => by
      have := hb4'.size
      rcases hk with hk | hk
      · exact ⟨hk.1, Nat.lt_of_lt_of_le hk.2 this⟩
      ·
       have h5 := hk.1
       simp at h5
       exact ⟨by omega, hk.2⟩)
     have HQ4 := hid HP4.out.at_
     clear hpj hb4 hb4'
     go_wp2_with fail
     go_roundw
     case rel => exact .inl ⟨f1, _, q, g3, rfl, by omega, HR2.out, HDD.out, HPJ.out, HA4.out, HP4.out, hq2⟩
     case measure =>
      have e1 : madeN (.pointer (padr (some g3))) = 1 := rfl
      have e2 : madeN (.pointer (padr (some g))) = 1 := rfl
      rw [e1, e2, hpxat, HQ4.out]; omega
  ·
   have n1 := run_nilN none
   have n2 : (!(none : Option Nat).isNone) = false := rfl
   have HLV := hid hlv
   clear hlv
   go_wp2_with fail
   go_ret
   exact HLV.out
open Go.RowKit
open Tk Ex
theorem xpair_any (s : ByteArray) (hs : s.size ≤ 50000) (f m : Nat) (IH : ∀ f', f' ≤ f → Reads8 s f' 4 m) (hen : ∀ args w, (callFunc m args).run Tryz.prog w = .ok (.enter m args) w)
 (i b : Nat) (A : Option Addr) (c : Nat) (w : World) (hA : SReads w (fun q => q ≠ b ∧ q < w.heap.size) A (sg 3)) (hp : Px w b s i) (hE : Err8 b w) (hi : i ≤ s.size) (hR : lev s (f + 1) 3 i ≠ .out) :
 Calls Tryz.prog 84 #[.pointer (some ⟨b, 0, none⟩), .func (.func m) #[] #[], .slice A (sg 3).length c] w (LevP (lev s (f + 1) 3 i) b s w) := by
 have hlev : lev s (f + 1) 3 i = match lev s f 4 i with | .ok e p => chn s f 3 e p | .err p c => .err p c | .out => .out := by
  rw [lev, if_neg (by decide), if_neg (by decide), if_neg (by decide), if_neg (by decide)]
  rfl
 have hne0 : lev s f 4 i ≠ .out := by
  intro h0; rw [hlev, h0] at hR; exact hR rfl
 have HIH := hid IH
 have HA := hid hA
 have HP := hid hp
 have HE := hid hE
 have HL := hid hlev
 have hbl := hp.lt
 generalize hRR : lev s (f + 1) 3 i = R at *
 clear hA hp hE hlev IH hRR
 go_enter Tryz.func84, Tryz.ntmps84
 go_wp2_with fail
 refine (HIH.out f (Nat.le_refl f) i b w HP.out HE.out hi hne0).mono ?_
 intro e w1 hl1
 cases hx : lev s f 4 i with
 | out => exact absurd hx hne0
 | err p c =>
  have HR2 := hid (show R = .err p c by rw [HL.out, hx])
  rw [hx] at hl1
  obtain ⟨rfl, h2, h3⟩ := hl1
  have HA1 := hid h2
  have HN1 := hid h3
  have n1 := run_nilR none
  have n2 : (none : Option Nat).isNone = true := rfl
  clear h2 h3 hx
  go_wp2_with fail
  go_ret
  rw [HR2.out]
  exact ⟨rfl, HA1.out, HN1.out⟩
 | ok e1 p =>
  have hdp := lev_dp (by decide) hi hx
  have hps := (lev_le (by decide) hi hx).2
  have hch : chn s f 3 e1 p = R := by rw [HL.out, hx]
  rw [hx] at hl1
  obtain ⟨g, rfl, h2, h3, h4⟩ := hl1
  have n1 := run_nilR (some g)
  have n2 : (some g).isNone = false := rfl
  cases f with
  | zero => rw [chn] at hch; exact absurd hch.symm hR
  | succ f1 =>
  have HPA := hid h2
  have HAS := hid h3
  have HPX := hid h4
  have HAW := hid (HA.out.aside h3)
  have HEW := hid (HE.out.side h3)
  have hwl := h3.size
  have HSG := hid (xsign_any b s p (sg 3) A c w1 (by omega) h4 hps (by decide) (fun t ht => sg_small ht) (HAW.out.wide fun q hq => hq.2) (HAW.out.ne (by decide)))
  have HFIND := hid (show (sg 3).find? (stands s p) = btw s 3 p from rfl)
  have hs6 : (sg 3).length = 6 := rfl
  rw [hs6] at HSG
  cases hbt : btw s 3 p with
  | none =>
   have HR2 := hid (show R = .ok e1 p by rw [← hch, chn, hbt])
   have HF := hid (HFIND.out.trans hbt)
   clear h2 h3 h4 hch hbt hx
   go_wp2_with fail
   refine HSG.out.mono ?_
   intro e w2 hsp
   unfold SignPost at hsp
   rw [HF.out] at hsp
   obtain ⟨rfl, hb2⟩ := hsp
   have u1 : (⟨#[]⟩ : ByteArray).toList.isEmpty = true := by rw [ByteArray.toList_eq]; decide +kernel
   have u2 : ((⟨#[]⟩ : ByteArray).toList == (⟨#[]⟩ : ByteArray).toList) = true := beq_self_eq_true _
   have H2 := hid hb2
   clear hb2 HSG
   go_wp2_with fail
   go_ret
   rw [HR2.out]
   exact ⟨g, rfl, HPA.out.aside (Aside.of H2.out) hbl, HAS.out.then (Aside.of H2.out), HPX.out.onto H2.out⟩
  | some o =>
   have hso := btw_some hbt
   have hle := btw_le hps hbt
   have hosz := sg_size hso.1
   have HF := hid (HFIND.out.trans hbt)
   have hne : lev s f1 4 (past s p o) ≠ .out := by
    intro h0
    rw [chn, hbt] at hch
    dsimp only at hch
    rw [h0] at hch
    exact hR hch.symm
   have HCH2 := hid (show R = match lev s f1 4 (past s p o) with
    | .ok y p => .ok (.mk o nix Rd.nulT [e1, y]) p
    | .err p c => .err p c
    | .out => .out from by rw [← hch, chn, hbt]; dsimp only; split <;> simp_all)
   have ho0 : o ≠ nix := by rintro rfl; exact absurd hosz (by decide)
   have u1 : o.toList.isEmpty = false := by
    rw [ByteArray.toList_eq, List.isEmpty_eq_false_iff]
    intro e
    exact ho0 (ba_ext (b := nix) e)
   have u2 : (o.toList == (⟨#[]⟩ : ByteArray).toList) = false := by rw [tl_eqb]; exact eqb_no ho0
   have HIH2 := hid (fun w2 (h1 : Px w2 b s (past s p o)) h2 => HIH.out f1 (by omega) (past s p o) b w2 h1 h2 hle.2 hne)
   have HLV := hid (fun y q (h : lev s f1 4 (past s p o) = .ok y q) => (show past s p o < q ∧ q ≤ s.size ∧ y.depth + past s p o ≤ q from ⟨(lev_le (by decide) hle.2 h).1, (lev_le (by decide) hle.2 h).2, lev_dp (by decide) hle.2 h⟩))
   obtain ⟨pa, hpae⟩ : ∃ pa, past s p o = pa := ⟨_, rfl⟩
   rw [hpae] at hle hne HCH2 HIH2 HLV
   have HPAE := hid hpae
   clear h2 h3 h4 hx hch hbt hso hosz ho0 hpae
   go_wp2_with fail
   refine HSG.out.mono ?_
   intro e w2 hsp
   unfold SignPost at hsp
   rw [HF.out] at hsp
   obtain ⟨rfl, ha2, hp2⟩ := hsp
   rw [HPAE.out] at hp2
   have HA2 := hid (HAS.out.then ha2)
   have HP2 := hid hp2
   have HPA2 := hid (HPA.out.aside ha2 hbl)
   have HE2 := hid (HEW.out.side ha2)
   have hw2 := ha2.size
   clear ha2 hp2 HSG HPA HAS HPX
   go_wp2_with fail
   refine (HIH2.out w2 HP2.out HE2.out).mono ?_
   intro e w3 hl3
   cases hx : lev s f1 4 pa with
   | out => exact absurd hx hne
   | err p2 c2 =>
    have HR2 := hid (show R = .err p2 c2 by have := HCH2.out; rw [hx] at this; exact this)
    rw [hx] at hl3
    obtain ⟨rfl, h2, h3⟩ := hl3
    have HA3 := hid (HA2.out.then h2)
    have HN3 := hid h3
    clear h2 h3 hx HCH2 HLV
    go_wp2_with fail
    refine (xjoin_nil2 o ⟨#[]⟩ (some g) w3).mono ?_
    rintro e w4 ⟨rfl, rfl⟩
    have hb4 : Below w3.heap.size w3 (w3.alloc (.cells #[.pointer (padr (some g)), .pointer (padr none)] 74)) := (Below.refl _ _).alloc (Nat.le_refl _) _
    have HA4 := hid (HA3.out.then (Aside.of hb4))
    have HN4 := hid (show Noted _ b s p2 c2 from by obtain ⟨i2, h⟩ := HN3.out; exact ⟨i2, h.onto hb4⟩)
    generalize (w3.alloc (.cells #[.pointer (padr (some g)), .pointer (padr none)] 74)) = W4 at *
    clear hb4
    go_wp2_with fail
    go_ret
    rw [HR2.out]
    exact ⟨rfl, HA4.out, HN4.out⟩
   | ok y q =>
    obtain ⟨hq1, hq2, hq3⟩ := HLV.out y q hx
    have HR2 := hid (show R = .ok (.mk o nix Rd.nulT [e1, y]) q by have := HCH2.out; rw [hx] at this; exact this)
    rw [hx] at hl3
    obtain ⟨g2, rfl, h2, h3, h4⟩ := hl3
    have hw3 := h3.size
    have HA3 := hid (HA2.out.then h3)
    have HP3 := hid h4
    have HPA3 := hid (HPA2.out.aside h3 hbl)
    have HPB3 := hid (h2.wide (S' := fun k => w.heap.size ≤ k ∧ k < w3.heap.size) fun k hk => ⟨by omega, hk.2⟩)
    clear h2 h3 h4 hx HCH2 HLV
    go_wp2_with fail
    refine (xjoin_two o nix g g2 e1 y b w3 (fun k => w.heap.size ≤ k ∧ k < w3.heap.size) (fun k hk => hk.2) HPA3.out HPB3.out (by omega) (by omega)).mono ?_
    rintro e w4 ⟨g3, rfl, hpj, hb4⟩
    have hb4' : Below w3.heap.size w3 w4 := ((Below.refl w3.heap.size w3).alloc (Nat.le_refl _) _).trans (hb4.mono (by simp))
    have HA4 := hid (HA3.out.then (Aside.of hb4'))
    have HP4 := hid (HP3.out.onto hb4')
    have HPJ := hid (hpj.wide (S' := fun k => w.heap.size ≤ k ∧ k < w4.heap.size) fun k hk => by
     have := hb4'.size
     rcases hk with hk | hk
     · exact ⟨hk.1, Nat.lt_of_lt_of_le hk.2 this⟩
     ·
      have h5 := hk.1
      simp at h5
      exact ⟨by omega, hk.2⟩)
    clear hpj hb4 hb4'
    go_wp2_with fail
    go_ret
    rw [HR2.out]
    exact ⟨g3, rfl, HPJ.out, HA4.out, HP4.out⟩
open Go.RowKit
open Tk Ex
def ups (o : ByteArray) : Nat → Res → Res
 | 0, r => r
 | k + 1, r => up o (ups o k r)
theorem ups_up (o : ByteArray) (r : Res) : ∀ k, ups o k (up o r) = up o (ups o k r) := by
 intro k
 induction k with
 | zero => rfl
 | succ k ih => rw [ups, ih, ups]
theorem ups_out (o : ByteArray) : ∀ k, ups o k .out = .out := by
 intro k
 induction k with
 | zero => rfl
 | succ k ih => rw [ups, ih]; rfl
theorem ups_err (o : ByteArray) (p : Nat) (c : Int) : ∀ k, ups o k (.err p c) = .err p c := by
 intro k
 induction k with
 | zero => rfl
 | succ k ih => rw [ups, ih]; rfl
def upE (o : ByteArray) : Nat → E → E
 | 0, e => e
 | k + 1, e => upE o k (.mk o nix Rd.nulT [e])
theorem ups_ok (o : ByteArray) (p : Nat) : ∀ k e, ups o k (.ok e p) = .ok (upE o k e) p := by
 intro k
 induction k with
 | zero => intro e; rfl
 | succ k ih => intro e; rw [ups, ← ups_up, show up o (.ok e p) = .ok (.mk o nix Rd.nulT [e]) p from rfl, ih, upE]
def ledS (n : Nat) : ByteArray := if n = 2 then notB else minusB
def ledO (n : Nat) : ByteArray := if n = 2 then notB else negB
theorem led_step {s : ByteArray} {f n i : Nat} (hn : n = 2 ∨ n = 6) : lev s (f + 1) n i = if stands s i (ledS n) = true then up (ledO n) (lev s f n (past s i (ledS n))) else lev s f (n + 1) i := by
 rcases hn with rfl | rfl
 · rw [lev, if_pos rfl]; rfl
 · rw [lev, if_neg (by decide), if_pos rfl]; rfl
def LedI (b : Nat) (s : ByteArray) (w : World) (n : Nat) (R : Res) (f : Nat) (x : Value) (wr : World) : Prop :=
 ∃ k f' p : Nat, x = .int .i64 k ∧ k ≤ p ∧ k + f' ≤ f ∧ ups (ledO n) k (lev s f' n p) = R ∧ Aside b w wr ∧ Px wr b s p ∧ p ≤ s.size
def LedJ (b : Nat) (s : ByteArray) (w : World) (o : ByteArray) (R : Res) (N : Nat) (m x : Value) (wr : World) : Prop :=
 ∃ (k : Nat) (og : Option Nat), x = .int .i64 k ∧ m = .pointer (padr og) ∧ k ≤ N ∧ ((∃ (e : E) (p g : Nat), og = some g ∧ R = .ok (upE o (N - k) e) p ∧ e.depth ≤ s.size + k ∧ PartAt wr (fun q => w.heap.size ≤ q ∧ q < wr.heap.size) g e ∧ Aside b w wr ∧ Px wr b s p) ∨ (og = none ∧ ∃ p c, R = .err p c ∧ Aside b w wr ∧ Noted wr b s p c))
theorem xled_any (s : ByteArray) (hs : s.size ≤ 50000) (f n m : Nat) (hn : n = 2 ∨ n = 6) (IH : ∀ f', f' ≤ f → Reads8 s f' (n + 1) m) (hen : ∀ args w, (callFunc m args).run Tryz.prog w = .ok (.enter m args) w)
 (i b : Nat) (w : World) (hp : Px w b s i) (hE : Err8 b w) (hi : i ≤ s.size) (hR : lev s (f + 1) n i ≠ .out) :
 Calls Tryz.prog 68 #[.pointer (some ⟨b, 0, none⟩), .func (.func m) #[] #[], .string (ledO n), .string (ledS n)] w (LevP (lev s (f + 1) n i) b s w) := by
 have hn8 : n + 1 ≤ 8 := by omega
 have hsz : (ledS n).size ≤ 100 ∧ 1 ≤ (ledS n).size ∧ ledS n ≠ nix := by rcases hn with rfl | rfl <;> exact ⟨by decide, by decide, by decide⟩
 have HSTEP := hid (fun f' p => led_step (s := s) (f := f') (i := p) hn)
 have HIH := hid IH
 have HP := hid hp
 have HE := hid hE
 have hbl := hp.lt
 have HSZ := hid hsz
 have HLE := hid (fun (f' p : Nat) (h : p ≤ s.size) e q (hx : lev s f' (n + 1) p = .ok e q) => (show q ≤ s.size ∧ e.depth + p ≤ q from ⟨(lev_le hn8 h hx).2, lev_dp hn8 h hx⟩))
 have HST := hid (fun p (h : p ≤ s.size) (hx : stands s p (ledS n) = true) => stands_le h hx)
 generalize hRR : lev s (f + 1) n i = R at *
 generalize ledS n = SG at *
 have HRQ := hid (show ups (ledO n) 0 (lev s (f + 1) n i) = R from hRR)
 generalize hOP : ledO n = OP at *
 have HOPE := hid hOP
 have hsg0 : SG ≠ nix := hsz.2.2
 have u1 : SG.toList.isEmpty = false := by
  rw [ByteArray.toList_eq, List.isEmpty_eq_false_iff]
  intro e
  exact hsg0 (ba_ext (b := nix) e)
 have u2 : (SG.toList == (⟨#[]⟩ : ByteArray).toList) = false := by rw [tl_eqb]; exact eqb_no hsg0
 have w1 : (⟨#[]⟩ : ByteArray).toList.isEmpty = true := by rw [ByteArray.toList_eq]; decide +kernel
 have w2 : ((⟨#[]⟩ : ByteArray).toList == (⟨#[]⟩ : ByteArray).toList) = true := beq_self_eq_true _
 clear hp hE IH hRR hsz hsg0 hOP
 go_enter Tryz.func68, Tryz.ntmps68
 go_wp2_with fail
 go_loopw [9] (fun x wr => LedI b s w n R (f + 1) x wr) (fun x wr => s.size + 1 - pxAt wr b)
 case atStart => exact ⟨0, f + 1, i, rfl, Nat.zero_le _, by omega, by rw [HOPE.out]; exact HRQ.out, Aside.of (Below.refl _ _), HP.out, hi⟩
 case round =>
  obtain ⟨k, f', p, rfl, hkp, hkf, hups, ha, hpx, hps⟩ := hrel
  cases f' with
  | zero => rw [lev, ups_out] at hups; exact absurd hups.symm hR
  | succ f1 =>
  have hq1 : (0 : Int) ≤ (k : Int) := by omega
  have hq2 : (k : Int) ≤ 50000 := by omega
  have hpxat := hpx.at_
  have hW : Below wr.heap.size wr (wr.alloc (.cells #[.string SG] 9)) := (Below.refl _ _).alloc (Nat.le_refl _) _
  have hB : Blk (wr.alloc (.cells #[.string SG] 9)) wr.heap.size 9 #[.string SG] := Blk.new wr _ _
  have hbr := hpx.lt
  have HSG := hid (xsign_any b s p [SG] (some ⟨wr.heap.size, 0, none⟩) 1 (wr.alloc (.cells #[.string SG] 9)) (by omega) (hpx.onto hW) hps (by simp) (by have := HSZ.out.1; simpa using this) (sread1 hB) (by intro g o e; injection e with e; injection e with e; omega))
  have HAS := hid (ha.then (Aside.of hW))
  have HPX := hid (hpx.onto hW)
  have HUP := hid hups
  clear hB hW ha hpx hups
  go_wp2_with fail
  change Calls _ _ _ (wr.alloc (.cells #[.string SG] 9)) _
  generalize (wr.alloc (.cells #[.string SG] 9)) = W1 at *
  refine HSG.out.mono ?_
  intro e w3 hsp
  unfold SignPost at hsp
  rw [find1] at hsp
  clear HSG
  by_cases hst : stands s p SG = true
  ·
   rw [if_pos hst] at hsp
   obtain ⟨rfl, ha3, hp3⟩ := hsp
   obtain ⟨hs1, hs2⟩ := HST.out p hps hst
   have hsz1 := HSZ.out.2.1
   have HUP2 := hid (show ups (ledO n) (k + 1) (lev s f1 n (past s p SG)) = R from by
    have h1 := HSTEP.out f1 p
    rw [if_pos hst] at h1
    have h2 := HUP.out
    rw [h1, ← HOPE.out, ups_up] at h2
    exact h2)
   have HA3 := hid (HAS.out.then ha3)
   have HP3 := hid hp3
   have HQ3 := hid hp3.at_
   clear ha3 hp3 hst HUP
   generalize past s p SG = pa at *
   go_wp2_with fail
   go_roundw
   case rel => exact ⟨k + 1, f1, pa, by go_num, by omega, by omega, HUP2.out, HA3.out, HP3.out, hs2⟩
   case measure => rw [hpxat, HQ3.out]; omega
  ·
   rw [if_neg hst] at hsp
   obtain ⟨rfl, hb3⟩ := hsp
   have HUP2 := hid (show ups (ledO n) k (lev s f1 (n + 1) p) = R from by
    have h1 := HSTEP.out f1 p
    rw [if_neg hst] at h1
    rw [← h1]; exact HUP.out)
   have hne : lev s f1 (n + 1) p ≠ .out := by
    intro h0
    have := HUP2.out
    rw [h0, ups_out] at this
    exact hR this.symm
   have HA3 := hid (HAS.out.then (Aside.of hb3))
   have HP3 := hid (HPX.out.onto hb3)
   have HE3 := hid (HE.out.side (HAS.out.then (Aside.of hb3)))
   have HIH2 := hid (fun w2 (h1 : Px w2 b s p) h2 => HIH.out f1 (by omega) p b w2 h1 h2 hps hne)
   clear hb3 hst HUP
   go_wp2_with fail
   refine (HIH2.out w3 HP3.out HE3.out).mono ?_
   intro e w4 hl4
   have hj : ∃ v, e = .returned v ∧ LedJ b s w OP R k v (.int .i64 0) w4 := by
    have hU := HUP2.out
    rw [HOPE.out] at hU
    cases hx : lev s f1 (n + 1) p with
    | out => exact absurd hx hne
    | err q c =>
     rw [hx] at hl4 hU
     rw [ups_err] at hU
     obtain ⟨rfl, h2, h3⟩ := hl4
     exact ⟨_, rfl, 0, _, rfl, rfl, Nat.zero_le _, .inr ⟨rfl, q, c, hU.symm, HA3.out.then h2, h3⟩⟩
    | ok e1 q =>
     have hle := HLE.out f1 p hps e1 q hx
     rw [hx] at hl4 hU
     rw [ups_ok] at hU
     obtain ⟨g, rfl, h2, h3, h4⟩ := hl4
     have := HA3.out.size
     exact ⟨_, rfl, 0, _, rfl, rfl, Nat.zero_le _, .inl ⟨e1, q, g, rfl, hU.symm, by omega, h2.wide fun j hj => ⟨by omega, hj.2⟩, HA3.out.then h3, h4⟩⟩
   obtain ⟨v0, rfl, hj0⟩ := hj
   have HJ := hid hj0
   clear hl4 hj0 HIH2 HUP2 hne
   generalize wr = W0 at *
   go_wp2_with fail
   go_loopw [10, 22] (fun m x wr => LedJ b s w OP R k m x wr) (fun _ x _ => k - (intOf x).toNat)
   case atStart => exact HJ.out
   case round =>
    obtain ⟨j, og, rfl, rfl, hjk, hcase⟩ := hrel
    have hj1 : (0 : Int) ≤ (j : Int) := by omega
    have hj2 : (j : Int) ≤ 50000 := by omega
    by_cases hlt : j < k
    ·
     have v1 : decide (j < k) = true := decide_eq_true hlt
     have v2 : decide ((j : Int) < (k : Int)) = true := decide_eq_true (by omega)
     rcases hcase with ⟨e1, q, g, rfl, hRq, hdq, hpa, ha, hpx⟩ | ⟨rfl, q, c, hRq, ha, hno⟩
     ·
      have HRQ2 := hid hRq
      have HA := hid ha
      have HX := hid hpx
      have hwl := ha.size
      have HPA := hid hpa
      clear hRq ha hpx hpa
      go_wp2_with fail
      refine (xjoin_one OP nix g e1 b wr (fun z => w.heap.size ≤ z ∧ z < wr.heap.size) (fun z hz => hz.2) HPA.out (by omega)).mono ?_
      rintro e w5 ⟨g3, rfl, hpj, hb5⟩
      have hb5' : Below wr.heap.size wr w5 := ((Below.refl wr.heap.size wr).alloc (Nat.le_refl _) _).trans (hb5.mono (by simp))
      have HA5 := hid (HA.out.then (Aside.of hb5'))
      have HP5 := hid (HX.out.onto hb5')
      have HPJ := hid (hpj.wide (S' := fun z => w.heap.size ≤ z ∧ z < w5.heap.size) fun z hz => by
       have := hb5'.size
       rcases hz with hz | hz
       · exact ⟨hz.1, Nat.lt_of_lt_of_le hz.2 this⟩
       ·
        have h5 := hz.1
        simp at h5
        exact ⟨by omega, hz.2⟩)
      have HUE := hid (show R = .ok (upE OP (k - (j + 1)) (.mk OP nix Rd.nulT [e1])) q by
       have h := HRQ2.out
       rw [show k - j = k - (j + 1) + 1 by omega, upE] at h
       exact h)
      have hdd : (E.mk OP nix Rd.nulT [e1]).depth = e1.depth + 1 := by have h0 : (E.mk OP nix Rd.nulT [e1]).depth = 1 + max e1.depth 0 := rfl; rw [h0]; omega
      clear hpj hb5 hb5'
      go_wp2_with fail
      go_roundw
      case rel => exact ⟨j + 1, _, by go_num, rfl, by omega, .inl ⟨_, q, g3, rfl, HUE.out, by rw [hdd]; omega, HPJ.out, HA5.out, HP5.out⟩⟩
      case measure => simp only [intOf, Int.toNat_natCast]; go_num
     ·
      have HRQ2 := hid hRq
      have HA := hid ha
      have HX := hid hno
      have hwl := ha.size
      clear hRq ha hno
      go_wp2_with fail
      refine (xjoin_nil1 OP nix wr).mono ?_
      rintro e w5 ⟨rfl, rfl⟩
      have hb5 : Below wr.heap.size wr (wr.alloc (.cells #[.pointer (padr none)] 74)) := (Below.refl _ _).alloc (Nat.le_refl _) _
      have HA5 := hid (HA.out.then (Aside.of hb5))
      have HN5 := hid (show Noted _ b s q c from by obtain ⟨i2, h⟩ := HX.out; exact ⟨i2, h.onto hb5⟩)
      generalize (wr.alloc (.cells #[.pointer (padr none)] 74)) = W5 at *
      clear hb5
      go_wp2_with fail
      go_roundw
      case rel => exact ⟨j + 1, _, by go_num, rfl, by omega, .inr ⟨rfl, q, c, HRQ2.out, HA5.out, HN5.out⟩⟩
      case measure => simp only [intOf, Int.toNat_natCast]; go_num
    ·
     have v2 : decide ((j : Int) < (k : Int)) = false := decide_eq_false (by omega)
     obtain rfl : j = k := by omega
     have HC := hid hcase
     clear hcase
     go_wp2_with fail
     go_ret
     rcases HC.out with ⟨e1, q, g, rfl, hRq, hdq, hpa, ha, hpx⟩ | ⟨rfl, q, c, hRq, ha, hno⟩
     ·
      rw [Nat.sub_self, upE] at hRq
      rw [hRq]
      exact ⟨g, rfl, hpa, ha, hpx⟩
     ·
      rw [hRq]
      exact ⟨rfl, ha, hno⟩
end Go.Proofs.YtfbipnflgjhaiaaGreatDoor
