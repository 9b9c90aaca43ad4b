/- The parser's methods of the levels: contracts. What is taken of one: contracts of the program's parser. An index taken of one: contract of the program's parser. A key taken of one: contract of the program's parser. -/
import Derived.Test.YtfbipnflgjhaiaaGreatDoorEH
set_option linter.unusedVariables false
set_option maxRecDepth 100000
set_option maxHeartbeats 8000000
open Go.Lib (hid)
namespace Go.Proofs.YtfbipnflgjhaiaaGreatDoor
open Go.RowKit
open Tk Ex
theorem LevP.gave {R : Res} {b : Nat} {s : ByteArray} {w w' : World} {e : Ending} (h : LevP R b s w e w') (hR : R ≠ .out) : ∃ v, e = .returned v ∧ LevP R b s w (.returned v) w' := by
 cases R with
 | out => exact absurd rfl hR
 | err p c => obtain ⟨rfl, h2⟩ := h; exact ⟨_, rfl, rfl, h2⟩
 | ok x p => obtain ⟨g, rfl, h2⟩ := h; exact ⟨_, rfl, g, rfl, h2⟩
theorem sreadN {w : World} {b g : Nat} {ty : TypeId} {l : List ByteArray} {cs : Array Value} (h : Blk w g ty cs) (hc : cs.toList = l.map Value.string) (hb : g ≠ b) : SReads w (fun q => q ≠ b ∧ q < w.heap.size) (some ⟨g, 0, none⟩) l := by
 intro _
 refine ⟨g, 0, rfl, ⟨hb, h.lt⟩, fun i x hx => ?_⟩
 rw [Nat.zero_add, h.cell, ← Array.getElem?_toList, hc, List.getElem?_map, hx]
 rfl
theorem xlev0 (s : ByteArray) (hs : s.size ≤ 50000) (f : Nat) (IH : ∀ f', f' ≤ f → Reads8 s f' 1 36) : Reads8 s (f + 1) 0 21 := by
 intro i b w hp hE hi hR
 have hW : Below w.heap.size w (w.alloc (.cells ((sg 0).map Value.string).toArray 9)) := (Below.refl _ _).alloc (Nat.le_refl _) _
 have hB : Blk (w.alloc (.cells ((sg 0).map Value.string).toArray 9)) w.heap.size 9 ((sg 0).map Value.string).toArray := Blk.new w _ _
 have hbl := hp.lt
 have HC := hid (xchain_any s hs f 0 36 (by simp) IH (Go.Proofs.enters_of Tryz.func36 (by kernel_rfl) rfl) i b (some ⟨w.heap.size, 0, none⟩) (sg 0).length _ (sreadN hB rfl (by omega)) (hp.onto hW) (hE.side (Aside.of hW)) hi hR)
 have HA := hid (Aside.of (b := b) hW)
 clear hB hW hp hE
 go_enter Tryz.func21, Tryz.ntmps21
 go_wp2_with fail
 refine HC.out.mono ?_
 intro e w' h
 obtain ⟨v, rfl, h2⟩ := h.gave hR
 have H2 := hid (h2.carry HA.out)
 clear h2 h
 go_wp2_with fail
 go_ret
 exact H2.out
theorem xlev1 (s : ByteArray) (hs : s.size ≤ 50000) (f : Nat) (IH : ∀ f', f' ≤ f → Reads8 s f' 2 47) : Reads8 s (f + 1) 1 36 := by
 intro i b w hp hE hi hR
 have hW : Below w.heap.size w (w.alloc (.cells ((sg 1).map Value.string).toArray 9)) := (Below.refl _ _).alloc (Nat.le_refl _) _
 have hB : Blk (w.alloc (.cells ((sg 1).map Value.string).toArray 9)) w.heap.size 9 ((sg 1).map Value.string).toArray := Blk.new w _ _
 have hbl := hp.lt
 have HC := hid (xchain_any s hs f 1 47 (by simp) IH (Go.Proofs.enters_of Tryz.func47 (by kernel_rfl) rfl) i b (some ⟨w.heap.size, 0, none⟩) (sg 1).length _ (sreadN hB rfl (by omega)) (hp.onto hW) (hE.side (Aside.of hW)) hi hR)
 have HA := hid (Aside.of (b := b) hW)
 clear hB hW hp hE
 go_enter Tryz.func36, Tryz.ntmps36
 go_wp2_with fail
 refine HC.out.mono ?_
 intro e w' h
 obtain ⟨v, rfl, h2⟩ := h.gave hR
 have H2 := hid (h2.carry HA.out)
 clear h2 h
 go_wp2_with fail
 go_ret
 exact H2.out
theorem xlev2 (s : ByteArray) (hs : s.size ≤ 50000) (f : Nat) (IH : ∀ f', f' ≤ f → Reads8 s f' 3 69) : Reads8 s (f + 1) 2 47 := by
 intro i b w hp hE hi hR
 have HC := hid (xled_any s hs f 2 69 (by simp) IH (Go.Proofs.enters_of Tryz.func69 (by kernel_rfl) rfl) i b w hp hE hi hR)
 clear hp hE
 go_enter Tryz.func47, Tryz.ntmps47
 go_wp2_with fail
 refine HC.out.mono ?_
 intro e w' h
 obtain ⟨v, rfl, h2⟩ := h.gave hR
 have H2 := hid h2
 clear h2 h
 go_wp2_with fail
 go_ret
 exact H2.out
theorem xlev3 (s : ByteArray) (hs : s.size ≤ 50000) (f : Nat) (IH : ∀ f', f' ≤ f → Reads8 s f' 4 85) : Reads8 s (f + 1) 3 69 := by
 intro i b w hp hE hi hR
 have hW : Below w.heap.size w (w.alloc (.cells ((sg 3).map Value.string).toArray 9)) := (Below.refl _ _).alloc (Nat.le_refl _) _
 have hB : Blk (w.alloc (.cells ((sg 3).map Value.string).toArray 9)) w.heap.size 9 ((sg 3).map Value.string).toArray := Blk.new w _ _
 have hbl := hp.lt
 have HC := hid (xpair_any s hs f 85 IH (Go.Proofs.enters_of Tryz.func85 (by kernel_rfl) rfl) i b (some ⟨w.heap.size, 0, none⟩) (sg 3).length _ (sreadN hB rfl (by omega)) (hp.onto hW) (hE.side (Aside.of hW)) hi hR)
 have HA := hid (Aside.of (b := b) hW)
 clear hB hW hp hE
 go_enter Tryz.func69, Tryz.ntmps69
 go_wp2_with fail
 refine HC.out.mono ?_
 intro e w' h
 obtain ⟨v, rfl, h2⟩ := h.gave hR
 have H2 := hid (h2.carry HA.out)
 clear h2 h
 go_wp2_with fail
 go_ret
 exact H2.out
theorem xlev4 (s : ByteArray) (hs : s.size ≤ 50000) (f : Nat) (IH : ∀ f', f' ≤ f → Reads8 s f' 5 99) : Reads8 s (f + 1) 4 85 := by
 intro i b w hp hE hi hR
 have hW : Below w.heap.size w (w.alloc (.cells ((sg 4).map Value.string).toArray 9)) := (Below.refl _ _).alloc (Nat.le_refl _) _
 have hB : Blk (w.alloc (.cells ((sg 4).map Value.string).toArray 9)) w.heap.size 9 ((sg 4).map Value.string).toArray := Blk.new w _ _
 have hbl := hp.lt
 have HC := hid (xchain_any s hs f 4 99 (by simp) IH (Go.Proofs.enters_of Tryz.func99 (by kernel_rfl) rfl) i b (some ⟨w.heap.size, 0, none⟩) (sg 4).length _ (sreadN hB rfl (by omega)) (hp.onto hW) (hE.side (Aside.of hW)) hi hR)
 have HA := hid (Aside.of (b := b) hW)
 clear hB hW hp hE
 go_enter Tryz.func85, Tryz.ntmps85
 go_wp2_with fail
 refine HC.out.mono ?_
 intro e w' h
 obtain ⟨v, rfl, h2⟩ := h.gave hR
 have H2 := hid (h2.carry HA.out)
 clear h2 h
 go_wp2_with fail
 go_ret
 exact H2.out
theorem xlev5 (s : ByteArray) (hs : s.size ≤ 50000) (f : Nat) (IH : ∀ f', f' ≤ f → Reads8 s f' 6 107) : Reads8 s (f + 1) 5 99 := by
 intro i b w hp hE hi hR
 have hW : Below w.heap.size w (w.alloc (.cells ((sg 5).map Value.string).toArray 9)) := (Below.refl _ _).alloc (Nat.le_refl _) _
 have hB : Blk (w.alloc (.cells ((sg 5).map Value.string).toArray 9)) w.heap.size 9 ((sg 5).map Value.string).toArray := Blk.new w _ _
 have hbl := hp.lt
 have HC := hid (xchain_any s hs f 5 107 (by simp) IH (Go.Proofs.enters_of Tryz.func107 (by kernel_rfl) rfl) i b (some ⟨w.heap.size, 0, none⟩) (sg 5).length _ (sreadN hB rfl (by omega)) (hp.onto hW) (hE.side (Aside.of hW)) hi hR)
 have HA := hid (Aside.of (b := b) hW)
 clear hB hW hp hE
 go_enter Tryz.func99, Tryz.ntmps99
 go_wp2_with fail
 refine HC.out.mono ?_
 intro e w' h
 obtain ⟨v, rfl, h2⟩ := h.gave hR
 have H2 := hid (h2.carry HA.out)
 clear h2 h
 go_wp2_with fail
 go_ret
 exact H2.out
theorem xlev6 (s : ByteArray) (hs : s.size ≤ 50000) (f : Nat) (IH : ∀ f', f' ≤ f → Reads8 s f' 7 109) : Reads8 s (f + 1) 6 107 := by
 intro i b w hp hE hi hR
 have HC := hid (xled_any s hs f 6 109 (by simp) IH (Go.Proofs.enters_of Tryz.func109 (by kernel_rfl) rfl) i b w hp hE hi hR)
 clear hp hE
 go_enter Tryz.func107, Tryz.ntmps107
 go_wp2_with fail
 refine HC.out.mono ?_
 intro e w' h
 obtain ⟨v, rfl, h2⟩ := h.gave hR
 have H2 := hid h2
 clear h2 h
 go_wp2_with fail
 go_ret
 exact H2.out
open Go.RowKit
open Tk Ex
def LevL (lo : Nat) (res : Res) (b : Nat) (s : ByteArray) (w : World) (e : Ending) (w' : World) : Prop := match res with
 | .out => True
 | .err p c => e = .returned (.pointer (padr none)) ∧ Aside b w w' ∧ Noted w' b s p c
 | .ok x p => ∃ g, e = .returned (.pointer (padr (some g))) ∧ PartAt w' (fun q => lo ≤ q ∧ q < w'.heap.size) g x ∧ Aside b w w' ∧ Px w' b s p
theorem LevL.gave {lo : Nat} {R : Res} {b : Nat} {s : ByteArray} {w w' : World} {e : Ending} (h : LevL lo R b s w e w') (hR : R ≠ .out) : ∃ v, e = .returned v ∧ LevL lo R b s w (.returned v) w' := by
 cases R with
 | out => exact absurd rfl hR
 | err p c => obtain ⟨rfl, h2⟩ := h; exact ⟨_, rfl, rfl, h2⟩
 | ok x p => obtain ⟨g, rfl, h2⟩ := h; exact ⟨_, rfl, g, rfl, h2⟩
def AnoP (b : Nat) (s : ByteArray) (i : Nat) (w : World) (e : Ending) (w' : World) : Prop :=
 if stands s i clsB = true then e = .returned (.bool false) ∧ Aside b w w' ∧ Noted w' b s (bl s i) 12
 else MustPost b s i commaB w e w'
theorem xanother_any (b : Nat) (s : ByteArray) (i : Nat) (w : World) (hs : s.size ≤ 1000000) (h : Px w b s i) (hi : i ≤ s.size) : Calls Tryz.prog 129 #[.pointer (some ⟨b, 0, none⟩)] w (AnoP b s i w) := by
 have HST := hid (xstands_any b s i clsB w hs h hi)
 have HP := hid h
 have hbl := h.lt
 by_cases hst : stands s i clsB = true
 ·
  have HQ := hid hst
  rw [hst] at HST
  have HNX := hid (fun w1 (h1 : Px w1 b s i) => xnext_any b s i w1 hs h1.c0 h1.c1 hi)
  clear h hst
  go_enter Tryz.func129, Tryz.ntmps129
  go_wp2_with fail
  refine HST.out.mono ?_
  rintro e w1 ⟨rfl, hb1⟩
  have HA := hid (Aside.of (b := b) hb1)
  have HP1 := hid (HP.out.onto hb1)
  clear hb1 HST
  go_wp2_with fail
  refine (HNX.out w1 HP1.out).mono ?_
  rintro e w2 ⟨rfl, hb2⟩
  have HA2 := hid (HA.out.then (Aside.of (b := b) hb2))
  have HP2 := hid (HP1.out.onto hb2)
  clear hb2
  generalize hbl0 : bl s i = z at *
  have HZ := hid hbl0
  clear hbl0
  go_wp2_with fail
  refine (xfail_any b s i z 12 w2 HP2.out).mono ?_
  rintro e w3 ⟨rfl, ha3, hn3⟩
  have HA3 := hid (HA2.out.then ha3)
  have HN3 := hid hn3
  clear ha3 hn3
  go_wp2_with fail
  go_ret
  unfold AnoP
  rw [if_pos HQ.out, HZ.out]
  exact ⟨rfl, HA3.out, HN3.out⟩
 ·
  have HQ := hid hst
  rw [Bool.eq_false_iff.2 hst] at HST
  have HMU := hid (fun w1 (h1 : Px w1 b s i) => xmust_any b s i commaB w1 hs h1 hi (by decide) (by decide))
  clear h hst
  go_enter Tryz.func129, Tryz.ntmps129
  go_wp2_with fail
  refine HST.out.mono ?_
  rintro e w1 ⟨rfl, hb1⟩
  have HA := hid (Aside.of (b := b) hb1)
  have HP1 := hid (HP.out.onto hb1)
  clear hb1 HST
  go_wp2_with fail
  refine (HMU.out w1 HP1.out).mono ?_
  intro e w2 hm
  have hm2 : ∃ v, e = .returned v ∧ MustPost b s i commaB w (.returned v) w2 := by
   unfold MustPost at hm ⊢
   by_cases hc : stands s i commaB = true
   ·
    rw [if_pos hc] at hm
    obtain ⟨rfl, h2, h3⟩ := hm
    exact ⟨_, rfl, by rw [if_pos hc]; exact ⟨rfl, HA.out.then h2, h3⟩⟩
   ·
    rw [if_neg hc] at hm
    obtain ⟨rfl, h2, h3⟩ := hm
    exact ⟨_, rfl, by rw [if_neg hc]; exact ⟨rfl, HA.out.then h2, h3⟩⟩
  obtain ⟨v, rfl, hm3⟩ := hm2
  have HM := hid hm3
  clear hm hm3
  go_wp2_with fail
  go_ret
  unfold AnoP
  rw [if_neg HQ.out]
  exact HM.out
open Go.RowKit
open Tk Ex
def atR (s : ByteArray) (f : Nat) (e : E) (i : Nat) : Res := match lev s f 0 i with
 | .ok y p => if stands s p csqB = true then .ok (.mk atB nix Rd.nulT [e, y]) (past s p csqB) else .err (bl s p) 1
 | .err p c => .err p c
 | .out => .out
theorem xat_any (s : ByteArray) (hs : s.size ≤ 50000) (f : Nat) (IH : Reads8 s f 0 21) (i b lo g0 : Nat) (e0 : E) (w : World) (hlo : b < lo) (hlw : lo ≤ w.heap.size) (hPA : PartAt w (fun q => lo ≤ q ∧ q < w.heap.size) g0 e0) (hd0 : e0.depth ≤ 100000) (hp : Px w b s i) (hE : Err8 b w) (hi : i ≤ s.size) (hR : atR s f e0 i ≠ .out) :
 Calls Tryz.prog 113 #[.pointer (some ⟨b, 0, none⟩), .pointer (padr (some g0))] w (LevL lo (atR s f e0 i) b s w) := by
 have hne : lev s f 0 i ≠ .out := by intro h0; unfold atR at hR; rw [h0] at hR; exact hR rfl
 have HIH := hid (IH i b w hp hE hi hne)
 have HPA := hid hPA
 have HRR := hid (show atR s f e0 i = match lev s f 0 i with
  | .ok y p => if stands s p csqB = true then .ok (.mk atB nix Rd.nulT [e0, y]) (past s p csqB) else .err (bl s p) 1
  | .err p c => .err p c
  | .out => .out from rfl)
 have HLV := hid (fun y q (h : lev s f 0 i = .ok y q) => (show i < q ∧ q ≤ s.size ∧ y.depth + i ≤ q from ⟨(lev_le (by decide) hi h).1, (lev_le (by decide) hi h).2, lev_dp (by decide) hi h⟩))
 have hbl := hp.lt
 generalize atR s f e0 i = R at *
 clear IH hPA hp hE hR
 go_enter Tryz.func113, Tryz.ntmps113
 go_wp2_with fail
 refine HIH.out.mono ?_
 intro e w1 hl1
 cases hx : lev s f 0 i with
 | out => exact absurd hx hne
 | err p c =>
  have HR2 := hid (show R = .err p c by rw [HRR.out, hx])
  rw [hx] at hl1
  obtain ⟨rfl, h2, h3⟩ := hl1
  have HA1 := hid h2
  have HN1 := hid h3
  have n1 := run_nilL none
  have n2 : (none : Option Nat).isNone = true := rfl
  clear h2 h3 hx hne HIH
  go_wp2_with fail
  go_ret
  rw [HR2.out]
  exact ⟨rfl, HA1.out, HN1.out⟩
 | ok y p =>
  obtain ⟨hp1, hp2, hp3⟩ := HLV.out y p hx
  have HR1 := hid (show R = if stands s p csqB = true then .ok (.mk atB nix Rd.nulT [e0, y]) (past s p csqB) else .err (bl s p) 1 by rw [HRR.out, hx])
  rw [hx] at hl1
  obtain ⟨g, rfl, h2, h3, h4⟩ := hl1
  have n1 := run_nilL (some g)
  have n2 : (some g).isNone = false := rfl
  have HPA1 := hid (HPA.out.aside h3 hlo)
  have HPB1 := hid (h2.wide (S' := fun k => lo ≤ k ∧ k < w1.heap.size) fun k hk => ⟨by omega, hk.2⟩)
  have HA1 := hid h3
  have HMU := hid (xmust_any b s p csqB w1 (by omega) h4 hp2 (by decide) (by decide))
  clear h2 h3 h4 hx HRR HLV HIH HPA hne
  go_wp2_with fail
  refine HMU.out.mono ?_
  intro e w2 hm
  unfold MustPost at hm
  by_cases hst : stands s p csqB = true
  ·
   rw [if_pos hst] at hm
   obtain ⟨rfl, h2, h3⟩ := hm
   have HR2 := hid (show R = .ok (.mk atB nix Rd.nulT [e0, y]) (past s p csqB) by rw [HR1.out, if_pos hst])
   have hw2 := h2.size
   have hw1 := HA1.out.size
   have HA2 := hid (HA1.out.then h2)
   have HP2 := hid h3
   have HPA2 := hid (HPA1.out.aside h2 hlo)
   have HPB2 := hid (HPB1.out.aside h2 hlo)
   clear h2 h3 hst HMU
   go_wp2_with fail
   refine (xjoin_two atB nix g0 g e0 y b w2 (fun k => lo ≤ k ∧ k < w2.heap.size) (fun k hk => hk.2) HPA2.out HPB2.out (by omega) (by omega)).mono ?_
   rintro e w4 ⟨g3, rfl, hpj, hb4⟩
   have hb4' : Below w2.heap.size w2 w4 := ((Below.refl w2.heap.size w2).alloc (Nat.le_refl _) _).trans (hb4.mono (by simp))
   have HA4 := hid (HA2.out.then (Aside.of hb4'))
   have HP4 := hid (HP2.out.onto hb4')
   have HPJ := hid (hpj.wide (S' := fun k => lo ≤ k ∧ k < w4.heap.size) fun k hk => by
    have := hb4'.size
    rcases hk with hk | hk
    · exact ⟨hk.1, Nat.lt_of_lt_of_le hk.2 this⟩
    ·
     have h5 := hk.1
     simp at h5
     exact ⟨by omega, hk.2⟩)
   clear hpj hb4 hb4'
   go_wp2_with fail
   go_ret
   rw [HR2.out]
   exact ⟨g3, rfl, HPJ.out, HA4.out, HP4.out⟩
  ·
   rw [if_neg hst] at hm
   obtain ⟨rfl, h2, h3⟩ := hm
   have HR2 := hid (show R = .err (bl s p) 1 by rw [HR1.out, if_neg hst])
   have HA2 := hid (HA1.out.then h2)
   have HN2 := hid h3
   clear h2 h3 hst HMU
   go_wp2_with fail
   go_ret
   rw [HR2.out]
   exact ⟨rfl, HA2.out, HN2.out⟩
open Go.RowKit
open Tk Ex
theorem has_quote (s : ByteArray) (a : Nat) : has s a ⟨#[34]⟩ = decide (bt s a = 34) := by
 unfold has bt
 generalize s.data.toList = l
 show ([34] : List UInt8).isPrefixOf (l.drop a) = _
 induction l generalizing a with
 | nil => simp
 | cons x r ih =>
  cases a with
  | zero =>
   by_cases h : x = 34
   · subst h; rfl
   ·
    have h2 : ¬ x.toNat = 34 := fun e => h (UInt8.toNat_inj.1 (by rw [e]; rfl))
    simp only [List.drop_zero, List.getD_cons_zero, decide_eq_false h2]
    have h3 : ((34 : UInt8) == x) = false := by simpa using fun e => h e.symm
    show ((34 : UInt8) == x && ([] : List UInt8).isPrefixOf r) = false
    rw [h3]; rfl
  | succ a => simpa using ih a
theorem xget_any (s : ByteArray) (hs : s.size ≤ 50000) (i b lo g0 : Nat) (e0 : E) (w : World) (hlo : b < lo) (hlw : lo ≤ w.heap.size) (hPA : PartAt w (fun q => lo ≤ q ∧ q < w.heap.size) g0 e0) (hd0 : e0.depth ≤ 100000) (hp : Px w b s i) (hE : Err8 b w) (hi : i ≤ s.size) :
 Calls Tryz.prog 112 #[.pointer (some ⟨b, 0, none⟩), .pointer (padr (some g0))] w (LevL lo (key s e0 i) b s w) := by
 have HNX := hid (xnext_any b s i w (by omega) hp.c0 hp.c1 hi)
 have hq := bl_le hi
 have HPA := hid hPA
 have HP := hid hp
 have HE := hid hE
 have HRR := hid (show key s e0 i = if bt s (bl s i) = 34 then (match strAns s (bl s i) with
  | .tok t => .ok (.mk getB t.text Rd.nulT [e0]) t.fin
  | .err p c => .err p c)
 else if isLt (bt s (bl s i)) = true then .ok (.mk getB (sub s (bl s i) (wE s (bl s i))) Rd.nulT [e0]) (wE s (bl s i))
 else .err (bl s i) 1 from rfl)
 generalize key s e0 i = R at *
 have hbl := hp.lt
 generalize bl s i = a at *
 have i1 : (0 : Int) ≤ (a : Int) := by omega
 have i2 : (a : Int) ≤ (s.size : Int) := by omega
 have HPR := hid (fun w1 => xprefix_any s a hq ⟨#[34]⟩ _ (has_quote s a) w1)
 clear hPA hp hE
 by_cases h34 : bt s a = 34
 ·
  have HS := hid (fun w1 (h1 : Px w1 b s i) h2 => xstr_any b s i a w1 hs h1 h2 h34)
  have HR1 := hid (HRR.out.trans (if_pos h34))
  have HPR1 := hid (fun w1 => (HPR.out w1).mono fun e w' h => (show e = .returned (.bool true) ∧ w1 = w' from by rw [decide_eq_true h34] at h; exact h))
  clear HRR HPR h34
  go_enter Tryz.func112, Tryz.ntmps112
  go_wp2_with fail
  refine HNX.out.mono ?_
  rintro e w1 ⟨rfl, hb1⟩
  have HA1 := hid (Aside.of (b := b) hb1)
  have HP1 := hid (HP.out.onto hb1)
  have HE1 := hid (HE.out.side (Aside.of hb1))
  have HPA1 := hid (HPA.out.aside (Aside.of hb1) hlo)
  have k0 : w1.cell? ⟨b, 0, none⟩ = some (.string s) := HP1.out.c0
  clear hb1 HNX HPA
  go_wp2_with fail
  refine (HPR1.out w1).mono ?_
  rintro e w2 ⟨rfl, rfl⟩
  go_wp2_with fail
  refine (HS.out w1 HP1.out HE1.out).mono ?_
  intro e w3 hp3
  cases hans : strAns s a with
  | err p c =>
   have HR2 := hid (show R = .err p c by rw [HR1.out, hans])
   rw [hans] at hp3
   obtain ⟨rfl, h2, h3⟩ := hp3
   have HA3 := hid (HA1.out.then h2)
   have HN3 := hid h3
   clear h2 h3 hans HS HPR1 HR1
   go_wp2_with fail
   go_ret
   rw [HR2.out]
   exact ⟨rfl, HA3.out, HN3.out⟩
  | tok t =>
   have HR2 := hid (show R = .ok (.mk getB t.text Rd.nulT [e0]) t.fin by rw [HR1.out, hans])
   rw [hans] at hp3
   obtain ⟨rfl, h2, h3⟩ := hp3
   have HA3 := hid (HA1.out.then h2)
   have HP3 := hid h3
   have HPA3 := hid (HPA1.out.aside h2 hlo)
   have hw1 := HA1.out.size
   have hw3 := h2.size
   clear h2 h3 hans HS HPR1 HR1
   generalize t.text = tx at *
   generalize t.fin = tf at *
   go_wp2_with fail
   refine (xjoin_one getB tx g0 e0 b w3 (fun k => lo ≤ k ∧ k < w3.heap.size) (fun k hk => hk.2) HPA3.out hd0).mono ?_
   rintro e w4 ⟨g3, rfl, hpj, hb4⟩
   have hb4' : Below w3.heap.size w3 w4 := ((Below.refl w3.heap.size w3).alloc (Nat.le_refl _) _).trans (hb4.mono (by simp))
   have HA4 := hid (HA3.out.then (Aside.of hb4'))
   have HP4 := hid (HP3.out.onto hb4')
   have HPJ := hid (hpj.wide (S' := fun k => lo ≤ k ∧ k < w4.heap.size) fun k hk => by
    have := hb4'.size
    rcases hk with hk | hk
    · exact ⟨hk.1, Nat.lt_of_lt_of_le hk.2 this⟩
    ·
     have h5 := hk.1
     simp at h5
     exact ⟨by omega, hk.2⟩)
   clear hpj hb4 hb4'
   go_wp2_with fail
   go_ret
   rw [HR2.out]
   exact ⟨g3, rfl, HPJ.out, HA4.out, HP4.out⟩
 ·
  have HPR1 := hid (fun w1 => (HPR.out w1).mono fun e w' h => (show e = .returned (.bool false) ∧ w1 = w' from by rw [decide_eq_false h34] at h; exact h))
  have HBH := hid (fun w1 => xbehind_any s a w1 (by omega) hq)
  have HR1 := hid (HRR.out.trans (if_neg h34))
  clear HPR HRR h34
  by_cases hl : isLt (bt s a) = true
  ·
   have hz1 := wE_pos hl
   have hz2 := wE_le hq
   have HR2 := hid (show R = .ok (.mk getB (s.extract a (wE s a)) Rd.nulT [e0]) (wE s a) by rw [HR1.out, if_pos hl]; rfl)
   clear HR1 hl
   generalize wE s a = z at *
   have v1 : decide (z = a) = false := decide_eq_false (by omega)
   have v2 : decide ((z : Int) = (a : Int)) = false := decide_eq_false (by omega)
   have v3 : ((z : Int) == (a : Int)) = false := by simp; omega
   have i3 : (a : Int) ≤ (z : Int) := by omega
   have i4 : (z : Int) ≤ (s.size : Int) := by omega
   go_enter Tryz.func112, Tryz.ntmps112
   go_wp2_with fail
   refine HNX.out.mono ?_
   rintro e w1 ⟨rfl, hb1⟩
   have HP1 := hid (HP.out.onto hb1)
   have HPA1 := hid (HPA.out.aside (Aside.of hb1) hlo)
   have k0 : w1.cell? ⟨b, 0, none⟩ = some (.string s) := HP1.out.c0
   have q1 := HP1.out.c1
   have x1 := HP1.out.f 1
   have k1 : (w1.setCell ⟨b, 1, none⟩ (.int .i64 (z : Int))).cell? ⟨b, 0, none⟩ = some (.string s) := (HP1.out.move z).c0
   have HPM := hid (HP1.out.move z)
   have ha5 : Aside b w1 (w1.setCell ⟨b, 1, none⟩ (.int .i64 (z : Int))) := (Aside.of (Below.refl w1.heap.size w1) : Aside b w1 w1).set (o := 1) (.int .i64 (z : Int))
   have HAM := hid ((Aside.of (b := b) hb1).then ha5)
   have HPA5 := hid (HPA1.out.aside ha5 hlo)
   have hw1 := hb1.size
   clear hb1 HNX HPA ha5
   go_wp2_with fail
   refine (HPR1.out w1).mono ?_
   rintro e w2 ⟨rfl, rfl⟩
   go_wp2_with fail
   refine (HBH.out w1).mono ?_
   rintro e w2 ⟨rfl, rfl⟩
   go_wp2_with fail
   have hw5 : (w1.setCell ⟨b, 1, none⟩ (.int .i64 (z : Int))).heap.size = w1.heap.size := by simp
   rw [← hw5]
   generalize w1.setCell ⟨b, 1, none⟩ (.int .i64 (z : Int)) = w3 at *
   refine (xjoin_one getB (s.extract a z) g0 e0 b w3 (fun k => lo ≤ k ∧ k < w3.heap.size) (fun k hk => hk.2) HPA5.out hd0).mono ?_
   rintro e w4 ⟨g3, rfl, hpj, hb4⟩
   have hb4' : Below w3.heap.size w3 w4 := ((Below.refl w3.heap.size w3).alloc (Nat.le_refl _) _).trans (hb4.mono (by simp))
   have HA4 := hid (HAM.out.then (Aside.of hb4'))
   have HP4 := hid (HPM.out.onto hb4')
   have HPJ := hid (hpj.wide (S' := fun k => lo ≤ k ∧ k < w4.heap.size) fun k hk => by
    have := hb4'.size
    rcases hk with hk | hk
    · exact ⟨hk.1, Nat.lt_of_lt_of_le hk.2 this⟩
    ·
     have h5 := hk.1
     simp at h5
     exact ⟨by omega, hk.2⟩)
   clear hpj hb4 hb4'
   go_wp2_with fail
   go_ret
   rw [HR2.out]
   exact ⟨g3, rfl, HPJ.out, HA4.out, HP4.out⟩
  ·
   rw [wE_no (Bool.eq_false_iff.2 hl)] at HBH
   have HR2 := hid (HR1.out.trans (if_neg hl))
   clear HR1 hl
   go_enter Tryz.func112, Tryz.ntmps112
   go_wp2_with fail
   refine HNX.out.mono ?_
   rintro e w1 ⟨rfl, hb1⟩
   have HP1 := hid (HP.out.onto hb1)
   have HA1 := hid (Aside.of (b := b) hb1)
   have k0 : w1.cell? ⟨b, 0, none⟩ = some (.string s) := HP1.out.c0
   clear hb1 HNX HPA
   go_wp2_with fail
   refine (HPR1.out w1).mono ?_
   rintro e w2 ⟨rfl, rfl⟩
   go_wp2_with fail
   refine (HBH.out w1).mono ?_
   rintro e w2 ⟨rfl, rfl⟩
   go_wp2_with fail
   refine (xfail_any b s i a 1 w1 HP1.out).mono ?_
   rintro e w3 ⟨rfl, ha3, hn3⟩
   have HA3 := hid (HA1.out.then ha3)
   have HN3 := hid hn3
   clear ha3 hn3
   go_wp2_with fail
   go_ret
   rw [HR2.out]
   exact ⟨rfl, HA3.out, HN3.out⟩
end Go.Proofs.YtfbipnflgjhaiaaGreatDoor
