/- A call: contract of the program's parser. A word that begins a call: contract of the program's parser. -/
import Derived.Test.YtfbipnflgjhaiaaGreatDoorEJ
set_option linter.unusedVariables false
set_option maxRecDepth 100000
set_option maxHeartbeats 8000000
open Go.Lib (hid)
namespace Go.Proofs.YtfbipnflgjhaiaaGreatDoor
open Go.RowKit
open Tk Ex
def calR (s : ByteArray) (f : Nat) (wo : ByteArray) (i : Nat) : Res := if stands s i opnB = true then cal s f wo [] (past s i opnB) else .err (bl s i) 1
theorem deps_le {l : List (Nat × E)} {m : Nat} (h : ∀ x ∈ l, x.2.depth ≤ m) : E.depths (trees l) ≤ m := by
 induction l with
 | nil => exact Nat.zero_le _
 | cons x r ih =>
  have h1 := h x (by simp)
  have h2 := ih (fun y hy => h y (by simp [hy]))
  show max x.2.depth (E.depths (trees r)) ≤ m
  omega
theorem exR_ptr {R : Res} {b : Nat} {s : ByteArray} {w w' : World} {o : ByteArray} {l : List (Nat × E)} {w1 : World} {e : Ending} {p : Nat} (h : JoinPost (fun q => w.heap.size ≤ q ∧ q < w1.heap.size) (.mk o nix Rd.nulT (trees l)) w1 e w') (ha : Aside b w w1) (hp : Px w1 b s p) (hR : R = .ok (.mk o nix Rd.nulT (trees l)) p) : ∃ v, e = .returned v ∧ LevP R b s w (.returned v) w' := by
 obtain ⟨g, rfl, hpj, hb⟩ := h
 refine ⟨_, rfl, ?_⟩
 rw [hR]
 have := ha.size
 exact ⟨g, rfl, hpj.wide fun k hk => by
  have h3 := hb.size
  rcases hk with hk | hk
  · exact ⟨hk.1, by omega⟩
  · exact ⟨by omega, hk.2⟩, ha.then (Aside.of hb), hp.onto hb⟩
theorem xcall_any (s : ByteArray) (hs : s.size ≤ 50000) (f : Nat) (IE : ∀ f', f' ≤ f → Reads8 s f' 0 21) (wo : ByteArray) (N : Nat) (hN : argsN wo = N) (hN1 : 1 ≤ N) (hN2 : N ≤ 2) (i b : Nat) (w : World) (hp : Px w b s i) (hE : Err8 b w) (hi : i ≤ s.size) (hR : calR s f wo i ≠ .out) :
 Calls Tryz.prog 124 #[.pointer (some ⟨b, 0, none⟩), .string wo, .int .i64 N] w (LevP (calR s f wo i) b s w) := by
 have HRR := hid (show calR s f wo i = if stands s i opnB = true then cal s f wo [] (past s i opnB) else .err (bl s i) 1 from rfl)
 generalize calR s f wo i = R at *
 have HMU := hid (xmust_any b s i opnB w (by omega) hp hi (by decide) (by decide))
 have HIE := hid IE
 have HE := hid hE
 have HNN := hid hN
 have hbl := hp.lt
 have z1 : (1 : Int) ≤ (N : Int) := by omega
 have z2 : (N : Int) ≤ 2 := by omega
 clear hp hE IE
 go_enter Tryz.func124, Tryz.ntmps124
 go_wp2_with fail
 refine HMU.out.mono ?_
 intro e w1 hm
 unfold MustPost at hm
 by_cases hopn : stands s i opnB = true
 ·
  rw [if_pos hopn] at hm
  obtain ⟨rfl, h2, h3⟩ := hm
  obtain ⟨hs1, hs2⟩ := stands_le hi hopn
  have HST := hid (show cal s f wo [] (past s i opnB) = R by rw [HRR.out, if_pos hopn])
  have HA := hid h2
  have HP := hid h3
  have hw1 := h2.size
  clear h2 h3 hopn HMU HRR
  generalize past s i opnB = p0 at *
  go_wp2_with fail
  go_loopw [7] (fun v wr => CalI b s w wo R f v wr) (fun v wr => s.size + 1 - pxAt wr b)
  case atStart => exact ⟨f, [], p0, Row8.nil' _ _, by intro i x hx; simp at hx, by simp, by simp, HA.out, HP.out, hs2, Nat.le_refl f, by rw [if_pos rfl]; exact HST.out⟩
  case round =>
   obtain ⟨f', l, p, hrow, hpts, hdp, hlN, ha, hpx, hps, hff, hst⟩ := hrel
   rw [HNN.out] at hlN
   obtain ⟨A, c, rfl, hlc, hvr⟩ := hrow.reads
   have hkk := heads_len l
   rw [hkk] at hrow hpts hlc
   have HROW := hid hrow
   have HPTS := hid hpts
   have HDP := hid hdp
   have HVR := hid hvr
   have HAS := hid ha
   have HPX := hid hpx
   have hpxat := hpx.at_
   have hwl := ha.size
   have HEW := hid (HE.out.side ha)
   clear hrow hpts hdp hvr ha hpx
   by_cases hlt : l.length < N
   ·
    by_cases hl0 : l = []
    ·
     subst hl0
     rw [if_pos rfl] at hst
     have HV := hid hst
     cases f' with
     | zero => rw [cal] at hst; exact absurd hst.symm hR
     | succ f1 =>
     rw [cal_step] at hst
     have HST2 := hid hst
     have hne : lev s f1 0 p ≠ .out := by intro h0; rw [h0] at hst; exact hR hst.symm
     have q1 : decide ((0 : Int) < (N : Int)) = true := decide_eq_true (by omega)
     have q2 : decide (0 < N) = true := decide_eq_true (by omega)
     clear hst HV hlt
     have hlen : ([] : List (Nat × E)).length = 0 := rfl
     rw [hlen] at HROW HPTS hlc
     change (0 : Nat) ≤ c at hlc
     have HIE2 := hid (HIE.out f1 (by omega) p b wr HPX.out HEW.out hps hne)
     try rw [show ([] : List (Nat × E)).length = 0 from rfl]
     go_wp2_with fail
     refine HIE2.out.mono ?_
     intro e w4 hl4
     cases hx : lev s f1 0 p with
     | out => exact absurd hx hne
     | err q2 c2 =>
      have HR2 := hid (show R = .err q2 c2 by have := HST2.out; rw [hx] at this; exact this.symm)
      rw [hx] at hl4
      obtain ⟨rfl, h2, h3⟩ := hl4
      have HA4 := hid (HAS.out.then h2)
      have HN4 := hid h3
      have n1 := run_nilL none
      have n3 := run_nilR none
      have n2 : (none : Option Nat).isNone = true := rfl
      clear h2 h3 hx HST2 HIE2
      go_wp2_with fail
      go_ret
      rw [HR2.out]
      exact ⟨rfl, HA4.out, HN4.out⟩
     | ok y q =>
      have HR2 := hid (show aft s f1 wo (([] : List E) ++ [y]) q = R by have := HST2.out; rw [hx] at this; exact this)
      have hle := lev_le (by decide) (show p ≤ s.size by omega) hx
      have hdpy := lev_dp (by decide) (show p ≤ s.size by omega) hx
      rw [hx] at hl4
      obtain ⟨g, rfl, h2, h3, h4⟩ := hl4
      have HY := hid h2
      have HA4 := hid h3
      have HP4 := hid h4
      have HROW4 := hid (HROW.out.aside h3 hbl)
      have hw4 := h3.size
      have n1 := run_nilL (some g)
      have n3 := run_nilR (some g)
      have n2 : (some g).isNone = false := rfl
      clear h2 h3 h4 hx HST2 HIE2
      go_wp2_with (at_builtin; refine app_px rfl (.tmp 28) (.tmp 30) rfl w.heap.size _ _ (some g) rfl rfl HROW4.out (by rw [heads_len]; omega) (by omega) ?_; intro v' w5 hrow5 hb5 hg5 ho5)
      have HROW5 := hid (show Row8 w5 w.heap.size v' (heads (([] : List (Nat × E)) ++ [(g, y)])) from by rw [show heads (([] : List (Nat × E)) ++ [(g, y)]) = heads ([] : List (Nat × E)) ++ [some g] by simp [heads]]; exact hrow5)
      have HPTS5 := hid (grown8 HROW.out HPTS.out HA4.out hbl (by omega) HY.out hg5 ho5)
      have hb5' : Below w.heap.size w4 w5 := hb5 w4 (Below.refl _ _)
      have HA5 := hid ((HAS.out.then HA4.out).low hb5')
      have HP5 := hid (HP4.out.low hb5' hbl)
      have HDP5 := hid (show ∀ x ∈ ([] : List (Nat × E)) ++ [(g, y)], x.2.depth ≤ 50000 from by
       intro x hx
       rcases List.mem_append.1 hx with h | h
       · exact HDP.out x h
       · simp only [List.mem_cons, List.not_mem_nil, or_false] at h; subst h; show y.depth ≤ _; omega)
      have hqx := HP5.out.at_
      clear hrow5 hb5 hg5 ho5 hb5'
      go_wp2_with fail
      go_roundw
      case rel => exact ⟨f1, ([] : List (Nat × E)) ++ [(g, y)], q, HROW5.out, HPTS5.out, HDP5.out, by rw [HNN.out, List.length_append]; simp; omega, HA5.out, HP5.out, hle.2, by omega, by rw [if_neg (by simp), show trees (([] : List (Nat × E)) ++ [(g, y)]) = ([] : List E) ++ [y] by simp [trees]]; exact HR2.out⟩
      case measure => rw [hpxat, hqx]; omega
    ·
     have hk1 : 1 ≤ l.length := by cases l with
      | nil => exact absurd rfl hl0
      | cons x r => simp
     rw [if_neg hl0] at hst
     generalize hkl : l.length = k at *
     have hk2 : (k : Int) ≤ 2 := by omega
     have hk3 : (1 : Int) ≤ (k : Int) := by omega
     have q1 : decide ((k : Int) < (N : Int)) = true := decide_eq_true (by omega)
     have q2 : decide (k < N) = true := decide_eq_true (by omega)
     have q3 : decide ((k : Int) > 0) = true := decide_eq_true (by omega)
     have q4 : decide ((0 : Int) < (k : Int)) = true := decide_eq_true (by omega)
     have q5 : decide (0 < k) = true := decide_eq_true (by omega)
     have htl : (trees l).length = k := by rw [← hkl]; simp [trees]
     have HAN := hid (xanother_any b s p wr (by omega) HPX.out hps)
     have hst2 : (if stands s p clsB = true then .err (bl s p) 12 else if stands s p commaB = true then cal s f' wo (trees l) (past s p commaB) else .err (bl s p) 1) = R := by
      rw [← hst]; unfold aft
      rw [htl, HNN.out]; simp only [if_pos hlt]
     have HST2 := hid hst2
     clear hst hst2
     go_wp2_with fail
     refine HAN.out.mono ?_
     intro e w2 han
     unfold AnoP at han
     have hst2 := HST2.out
     by_cases hcl : stands s p clsB = true
     ·
      rw [if_pos hcl] at han hst2
      obtain ⟨rfl, h2, h3⟩ := han
      have HA2 := hid (HAS.out.then h2)
      have HN2 := hid h3
      have HR2 := hid hst2
      clear h2 h3 hst2 HST2 hcl HAN
      go_wp2_with fail
      go_ret
      rw [← HR2.out]
      exact ⟨rfl, HA2.out, HN2.out⟩
     ·
      rw [if_neg hcl] at han hst2
      unfold MustPost at han
      by_cases hco : stands s p commaB = true
      ·
       rw [if_pos hco] at han hst2
       obtain ⟨rfl, h2, h3⟩ := han
       obtain ⟨hs3, hs4⟩ := stands_le hps hco
       have hcz : commaB.size = 1 := rfl
       generalize past s p commaB = pa at *
       cases f' with
       | zero => rw [cal] at hst2; exact absurd hst2.symm hR
       | succ f1 =>
       rw [cal_step] at hst2
       have hne : lev s f1 0 pa ≠ .out := by intro h0; rw [h0] at hst2; exact hR hst2.symm
       have HA2 := hid (HAS.out.then h2)
       have HP2 := hid h3
       have HROW2 := hid (HROW.out.aside h2 hbl)
       have HPTS2 := hid (show PartsAt w2 (fun q => w.heap.size ≤ q ∧ q < w2.heap.size ∧ some q ≠ (Value.slice A k c).ownBlock) l from fun i x hx => ((HPTS.out i x hx).keep fun q hq => h2.block q hq.2.1 (by omega)).wide fun q hq => ⟨hq.1, Nat.lt_of_lt_of_le hq.2.1 h2.size, hq.2.2⟩)
       have HST3 := hid hst2
       have hw2 := h2.size
       have HE2 := hid (HEW.out.side h2)
       have HIE2 := hid (HIE.out f1 (by omega) pa b w2 HP2.out HE2.out hs4 hne)
       clear h2 h3 hst2 HST2 hco hcl HAN HAS HPX HROW HPTS
       go_wp2_with fail
       refine HIE2.out.mono ?_
       intro e w4 hl4
       cases hx : lev s f1 0 pa with
       | out => exact absurd hx hne
       | err q2 c2 =>
        have HR2 := hid (show R = .err q2 c2 by have := HST3.out; rw [hx] at this; exact this.symm)
        rw [hx] at hl4
        obtain ⟨rfl, h2, h3⟩ := hl4
        have HA4 := hid (HA2.out.then h2)
        have HN4 := hid h3
        have n1 := run_nilL none
        have n3 := run_nilR none
        have n2 : (none : Option Nat).isNone = true := rfl
        clear h2 h3 hx HST3 HIE2
        go_wp2_with fail
        go_ret
        rw [HR2.out]
        exact ⟨rfl, HA4.out, HN4.out⟩
       | ok y q =>
        have HR2 := hid (show aft s f1 wo (trees l ++ [y]) q = R by have := HST3.out; rw [hx] at this; exact this)
        have hle := lev_le (by decide) (show pa ≤ s.size by omega) hx
        have hdpy := lev_dp (by decide) (show pa ≤ s.size by omega) hx
        rw [hx] at hl4
        obtain ⟨g, rfl, h2, h3, h4⟩ := hl4
        have HY := hid h2
        have HA4 := hid h3
        have HP4 := hid h4
        have HROW4 := hid (HROW2.out.aside h3 hbl)
        have hw4 := h3.size
        have n1 := run_nilL (some g)
        have n3 := run_nilR (some g)
        have n2 : (some g).isNone = false := rfl
        clear h2 h3 h4 hx HST3 HIE2
        go_wp2_with (at_builtin; refine app_px rfl (.tmp 28) (.tmp 30) rfl w.heap.size _ _ (some g) rfl rfl HROW4.out (by rw [heads_len]; omega) (by omega) ?_; intro v' w5 hrow5 hb5 hg5 ho5)
        have HROW5 := hid (show Row8 w5 w.heap.size v' (heads (l ++ [(g, y)])) from by rw [show heads (l ++ [(g, y)]) = heads l ++ [some g] by simp [heads]]; exact hrow5)
        have HPTS5 := hid (grown8 HROW2.out HPTS2.out HA4.out hbl (by omega) HY.out hg5 ho5)
        have hb5' : Below w.heap.size w4 w5 := hb5 w4 (Below.refl _ _)
        have HA5 := hid ((HA2.out.then HA4.out).low hb5')
        have HP5 := hid (HP4.out.low hb5' hbl)
        have HDP5 := hid (show ∀ x ∈ l ++ [(g, y)], x.2.depth ≤ 50000 from by
         intro x hx
         rcases List.mem_append.1 hx with h | h
         · exact HDP.out x h
         · simp only [List.mem_cons, List.not_mem_nil, or_false] at h; subst h; show y.depth ≤ _; omega)
        have hqx := HP5.out.at_
        clear hrow5 hb5 hg5 ho5 hb5'
        go_wp2_with fail
        go_roundw
        case rel => exact ⟨f1, l ++ [(g, y)], q, HROW5.out, HPTS5.out, HDP5.out, by rw [HNN.out, List.length_append, hkl]; simp; omega, HA5.out, HP5.out, hle.2, by omega, by rw [if_neg (by simp), show trees (l ++ [(g, y)]) = trees l ++ [y] by simp [trees]]; exact HR2.out⟩
        case measure => rw [hpxat, hqx]; omega
      ·
       rw [if_neg hco] at han hst2
       obtain ⟨rfl, h2, h3⟩ := han
       have HA2 := hid (HAS.out.then h2)
       have HN2 := hid h3
       have HR2 := hid hst2
       clear h2 h3 hst2 HST2 hcl hco HAN
       go_wp2_with fail
       go_ret
       rw [← HR2.out]
       exact ⟨rfl, HA2.out, HN2.out⟩
   ·
    have hl0 : l ≠ [] := by intro e; subst e; exact hlt hN1
    rw [if_neg hl0] at hst
    generalize hkl : l.length = k at *
    obtain rfl : k = N := by omega
    have htl : (trees l).length = k := by rw [← hkl]; simp [trees]
    have q1 : decide ((k : Int) < (k : Int)) = false := decide_eq_false (by omega)
    have q2 : decide (k < k) = false := decide_eq_false (by omega)
    have hst2 : (if stands s p clsB = true then .ok (.mk wo nix Rd.nulT (trees l)) (past s p clsB) else if stands s p commaB = true then .err (bl s p) 12 else .err (bl s p) 1) = R := by
     rw [← hst]; unfold aft
     rw [htl, HNN.out]; simp only [if_neg (Nat.lt_irrefl k)]
    have HSTA := hid (xstands_any b s p commaB wr (by omega) HPX.out hps)
    have HL0 := hid hl0
    clear hst hl0
    by_cases hco : stands s p commaB = true
    ·
     rw [not_both hco, if_neg (by decide), if_pos hco] at hst2
     rw [hco] at HSTA
     have HR2 := hid hst2
     have HNX := hid (fun w2 (h : Px w2 b s p) => xnext_any b s p w2 (by omega) h.c0 h.c1 hps)
     clear hst2 hco
     go_wp2_with fail
     refine HSTA.out.mono ?_
     rintro e w2 ⟨rfl, hb2⟩
     have HA2 := hid (HAS.out.then (Aside.of hb2))
     have HP2 := hid (HPX.out.onto hb2)
     clear hb2 HSTA
     go_wp2_with fail
     refine (HNX.out w2 HP2.out).mono ?_
     rintro e w3 ⟨rfl, hb3⟩
     have HA3 := hid (HA2.out.then (Aside.of hb3))
     have HP3 := hid (HP2.out.onto hb3)
     obtain ⟨z, hz⟩ : ∃ z, bl s p = z := ⟨_, rfl⟩
     rw [hz] at HR2
     rw [hz]
     clear hb3 HNX hz
     go_wp2_with fail
     refine (xfail_any b s p z 12 w3 HP3.out).mono ?_
     rintro e w4 ⟨rfl, ha4, hn4⟩
     have HA4 := hid (HA3.out.then ha4)
     have HN4 := hid hn4
     clear ha4 hn4
     go_wp2_with fail
     go_ret
     rw [← HR2.out]
     exact ⟨rfl, HA4.out, HN4.out⟩
    ·
     rw [if_neg hco] at hst2
     rw [Bool.eq_false_iff.2 hco] at HSTA
     have HMU := hid (fun w2 (h : Px w2 b s p) => xmust_any b s p clsB w2 (by omega) h hps (by decide) (by decide))
     have HST2 := hid hst2
     clear hst2 hco
     go_wp2_with fail
     refine HSTA.out.mono ?_
     rintro e w2 ⟨rfl, hb2⟩
     have HA2 := hid (Aside.of (b := b) hb2)
     have HP2 := hid (HPX.out.onto hb2)
     clear hb2 HSTA
     go_wp2_with fail
     refine (HMU.out w2 HP2.out).mono ?_
     intro e w3 hm
     unfold MustPost at hm
     have hst2 := HST2.out
     by_cases hcl : stands s p clsB = true
     ·
      rw [if_pos hcl] at hm hst2
      obtain ⟨rfl, h2, h3⟩ := hm
      have ha3 := HA2.out.then h2
      have HA3 := hid (HAS.out.then ha3)
      have HP3 := hid h3
      have HR2 := hid hst2.symm
      obtain ⟨A2, c2, hv2, _, hvr2⟩ := (HROW.out.aside ha3 hbl).reads
      injection hv2 with hv3 hv5 hv4
      clear hv5
      subst hv3 hv4
      have HVR3 := hid hvr2
      have HPTS3 := hid (show PartsAt w3 (fun q => w.heap.size ≤ q ∧ q < w3.heap.size) l from fun i x hx => ((HPTS.out i x hx).keep fun q hq => ha3.block q hq.2.1 (by omega)).wide fun q hq => ⟨hq.1, Nat.lt_of_lt_of_le hq.2.1 ha3.size⟩)
      clear h2 h3 ha3 hst2 HST2 hcl HMU hvr2 HAS HPX HROW HPTS HVR
      have HJ := hid (show Calls Tryz.prog 46 #[.string wo, .string nix, .slice A k c] w3 (JoinPost (fun q => w.heap.size ≤ q ∧ q < w3.heap.size) (.mk wo nix Rd.nulT (trees l)) w3) from by
       by_cases hd : (E.mk wo nix Rd.nulT (trees l)).depth ≤ 32
       ·
        have := xjoin_ok wo nix l A c w3 (by omega) HL0.out HVR3.out _ (fun q hq => hq.2) HPTS3.out hd
        rw [hkl] at this; exact this
       ·
        have := xjoin_deep wo nix l A c w3 (by omega) HVR3.out _ HPTS3.out (fun x hx => by have := HDP.out x hx; omega) (by omega) (Nat.le_trans (deps_le HDP.out) (by omega))
        rw [hkl] at this; exact this)
      go_wp2_with fail
      refine HJ.out.mono ?_
      intro e w4 hj
      obtain ⟨v, rfl, hv⟩ := exR_ptr hj HA3.out HP3.out HR2.out
      have HV := hid hv
      clear hj hv
      go_wp2_with fail
      go_ret
      exact HV.out
     ·
      rw [if_neg hcl] at hm hst2
      obtain ⟨rfl, h2, h3⟩ := hm
      have HA3 := hid (HAS.out.then (HA2.out.then h2))
      have HN3 := hid h3
      have HR2 := hid hst2
      clear h2 h3 hst2 HST2 hcl HMU
      go_wp2_with fail
      go_ret
      rw [← HR2.out]
      exact ⟨rfl, HA3.out, HN3.out⟩
 ·
  rw [if_neg hopn] at hm
  obtain ⟨rfl, h2, h3⟩ := hm
  have HR2 := hid (show R = .err (bl s i) 1 by rw [HRR.out, if_neg hopn])
  have HA := hid h2
  have HN := hid h3
  clear h2 h3 hopn HMU HRR
  go_wp2_with fail
  go_ret
  rw [HR2.out]
  exact ⟨rfl, HA.out, HN.out⟩
open Go.RowKit
open Tk Ex
theorem xword_call (b : Nat) (s : ByteArray) (i a : Nat) (w : World) (hs : s.size ≤ 50000) (h : Px w b s i) (hE : Err8 b w) (hl : isLt (bt s a) = true) (f : Nat) (IE : ∀ f', f' ≤ f → Reads8 s f' 0 21) (N : Nat) (hc : argsN (sub s a (wE s a)) = N) (hN1 : 1 ≤ N) (hN2 : N ≤ 2) (hR : calR s f (sub s a (wE s a)) (wE s a) ≠ .out) :
 Calls Tryz.prog 115 #[.pointer (some ⟨b, 0, none⟩), .int .i64 a] w (LevP (calR s f (sub s a (wE s a)) (wE s a)) b s w) := by
 have ha := lt_lt hl
 have hz1 := wE_pos hl
 have hz2 := wE_le (s := s) (a := a) (Nat.le_of_lt ha)
 have HBH := hid (fun w1 => xbehind_any s a w1 (by omega) (Nat.le_of_lt ha))
 generalize wE s a = z at *
 rw [show sub s a z = s.extract a z from rfl] at hc hR ⊢
 have HC := hid (xargs_any (s.extract a z))
 rw [hc] at HC
 have h0 : isWord (s.extract a z) = false := by
  rcases word_ways (s.extract a z) with h0 | h0 | h0 | h0 | h0 | h0
  · rcases h0 with h0 | h0 | h0 <;> · rw [h0] at hc; subst hc; exact absurd hN1 (by decide)
  · rw [h0] at hc; subst hc; exact absurd hN1 (by decide)
  · rw [h0] at hc; subst hc; exact absurd hN1 (by decide)
  · rw [h0] at hc; subst hc; exact absurd hN1 (by decide)
  · rw [h0] at hc; subst hc; exact absurd hN1 (by decide)
  · exact h0
 have HCA := hid (fun w1 (h1 : Px w1 b s z) h2 => xcall_any s hs f IE (s.extract a z) N hc hN1 hN2 z b w1 h1 h2 hz2 hR)
 generalize calR s f (s.extract a z) z = R at *
 have k0 := h.c0
 have q1 := h.c1
 have x1 := h.f 1
 have HP := hid h
 have hbl := h.lt
 have i1 : (0 : Int) ≤ (a : Int) := by omega
 have i2 : (a : Int) ≤ (z : Int) := by omega
 have i3 : (z : Int) ≤ (s.size : Int) := by omega
 have j1 : decide ((N : Int) > 0) = true := decide_eq_true (by omega)
 have j2 : decide ((0 : Int) < (N : Int)) = true := decide_eq_true (by omega)
 have j3 : decide (0 < N) = true := decide_eq_true (by omega)
 have k1 : (w.setCell ⟨b, 1, none⟩ (.int .i64 (z : Int))).cell? ⟨b, 0, none⟩ = some (.string s) := (h.move z).c0
 have HPM := hid (h.move z)
 have ham : Aside b w (w.setCell ⟨b, 1, none⟩ (.int .i64 (z : Int))) := (Aside.of (Below.refl w.heap.size w) : Aside b w w).set (o := 1) (.int .i64 (z : Int))
 have HAM := hid ham
 have HEM := hid (hE.side ham)
 obtain ⟨exor, exand, exnot, extrue, exfalse, exnull, exthis⟩ := none_of h0
 have fxor : ((s.extract a z).toList == [111, 114]) = false := tl_lit rfl exor
 have gxor : ((s.extract a z).toList == (⟨#[111, 114]⟩ : ByteArray).toList) = false := by rw [tl_eqb]; exact exor
 have fxand : ((s.extract a z).toList == [97, 110, 100]) = false := tl_lit rfl exand
 have gxand : ((s.extract a z).toList == (⟨#[97, 110, 100]⟩ : ByteArray).toList) = false := by rw [tl_eqb]; exact exand
 have fxnot : ((s.extract a z).toList == [110, 111, 116]) = false := tl_lit rfl exnot
 have gxnot : ((s.extract a z).toList == (⟨#[110, 111, 116]⟩ : ByteArray).toList) = false := by rw [tl_eqb]; exact exnot
 have fxtrue : ((s.extract a z).toList == [116, 114, 117, 101]) = false := tl_lit rfl extrue
 have gxtrue : ((s.extract a z).toList == (⟨#[116, 114, 117, 101]⟩ : ByteArray).toList) = false := by rw [tl_eqb]; exact extrue
 have fxfalse : ((s.extract a z).toList == [102, 97, 108, 115, 101]) = false := tl_lit rfl exfalse
 have gxfalse : ((s.extract a z).toList == (⟨#[102, 97, 108, 115, 101]⟩ : ByteArray).toList) = false := by rw [tl_eqb]; exact exfalse
 have fxnull : ((s.extract a z).toList == [110, 117, 108, 108]) = false := tl_lit rfl exnull
 have gxnull : ((s.extract a z).toList == (⟨#[110, 117, 108, 108]⟩ : ByteArray).toList) = false := by rw [tl_eqb]; exact exnull
 have fxthis : ((s.extract a z).toList == [116, 104, 105, 115]) = false := tl_lit rfl exthis
 have gxthis : ((s.extract a z).toList == (⟨#[116, 104, 105, 115]⟩ : ByteArray).toList) = false := by rw [tl_eqb]; exact exthis
 clear exor exand exnot extrue exfalse exnull exthis h0 hl h hE hc ham IE
 go_enter Tryz.func115, Tryz.ntmps115
 go_wp2_with fail
 refine (HBH.out _).mono ?_
 rintro e w2 ⟨rfl, rfl⟩
 go_wp2_with fail
 generalize w.setCell ⟨b, 1, none⟩ (.int .i64 (z : Int)) = W5 at *
 refine (HC.out W5).mono ?_
 rintro e w6 ⟨rfl, rfl⟩
 go_wp2_with fail
 refine (HCA.out W5 HPM.out HEM.out).mono ?_
 intro e w7 h7
 obtain ⟨v, rfl, h8⟩ := (h7.carry HAM.out).gave hR
 have H8 := hid h8
 clear h7 h8
 go_wp2_with fail
 go_ret
 exact H8.out
end Go.Proofs.YtfbipnflgjhaiaaGreatDoor
