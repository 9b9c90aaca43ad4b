/- Words, but calls: contract of the program's parser. What is put together from the left: contracts of the program's parser. -/
import Derived.Test.YtfbipnflgjhaiaaGreatDoorEF
set_option linter.unusedVariables false
set_option maxRecDepth 100000
set_option maxHeartbeats 8000000
open Go.Lib (hid)
namespace Go.Proofs.YtfbipnflgjhaiaaGreatDoor
open Go.RowKit
open Tk Ex
def wordR (s : ByteArray) (a : Nat) : Res :=
 if isWord (sub s a (wE s a)) = true then
  (if eqb (sub s a (wE s a)) trueB = true then .ok (litE (Rd.truT true)) (wE s a)
  else if eqb (sub s a (wE s a)) falseB = true then .ok (litE (Rd.truT false)) (wE s a)
  else if eqb (sub s a (wE s a)) nullB = true then .ok (litE Rd.nulT) (wE s a)
  else if eqb (sub s a (wE s a)) thisB = true then .ok (.mk thisB nix Rd.nulT []) (wE s a)
  else .err a 1)
 else .ok (.mk varB (sub s a (wE s a)) Rd.nulT []) (wE s a)
theorem word_ways (s : ByteArray) : (s = orB ∨ s = andB ∨ s = notB) ∨ s = trueB ∨ s = falseB ∨ s = nullB ∨ s = thisB ∨ isWord s = false := by
 cases h : isWord s with
 | false => exact .inr (.inr (.inr (.inr (.inr rfl))))
 | true =>
  obtain ⟨x, hx, he⟩ := List.any_eq_true.1 h
  have := eqb_yes he
  subst this
  simp only [words, List.mem_cons, List.not_mem_nil, or_false] at hx
  rcases hx with h | h | h | h | h | h | h
  · exact .inl (.inl h)
  · exact .inl (.inr (.inl h))
  · exact .inl (.inr (.inr h))
  · exact .inr (.inl h)
  · exact .inr (.inr (.inl h))
  · exact .inr (.inr (.inr (.inl h)))
  · exact .inr (.inr (.inr (.inr (.inl h))))
theorem none_of {s : ByteArray} (h : isWord s = false) : eqb s orB = false ∧ eqb s andB = false ∧ eqb s notB = false ∧ eqb s trueB = false ∧ eqb s falseB = false ∧ eqb s nullB = false ∧ eqb s thisB = false := by
 have key : ∀ t ∈ words, eqb s t = false := fun t ht => by
  cases he : eqb s t with
  | false => rfl
  | true =>
   have : isWord s = true := List.any_eq_true.2 ⟨t, ht, he⟩
   rw [this] at h; cases h
 exact ⟨key _ (by simp [words]), key _ (by simp [words]), key _ (by simp [words]), key _ (by simp [words]), key _ (by simp [words]), key _ (by simp [words]), key _ (by simp [words])⟩
theorem xword_leaf (b : Nat) (s : ByteArray) (i a : Nat) (w : World) (hs : s.size ≤ 50000) (h : Px w b s i) (hl : isLt (bt s a) = true) (hc : argsN (sub s a (wE s a)) = 0) : Calls Tryz.prog 115 #[.pointer (some ⟨b, 0, none⟩), .int .i64 a] w (LevP (wordR s a) b s w) := by
 have ha := lt_lt hl
 have hz1 := wE_pos hl
 have hz2 := wE_le (s := s) (a := a) (Nat.le_of_lt ha)
 have HBH := hid (fun w1 => xbehind_any s a w1 (by omega) (Nat.le_of_lt ha))
 have HR := hid (show wordR s a = if isWord (sub s a (wE s a)) = true then
  (if eqb (sub s a (wE s a)) trueB = true then .ok (litE (Rd.truT true)) (wE s a)
  else if eqb (sub s a (wE s a)) falseB = true then .ok (litE (Rd.truT false)) (wE s a)
  else if eqb (sub s a (wE s a)) nullB = true then .ok (litE Rd.nulT) (wE s a)
  else if eqb (sub s a (wE s a)) thisB = true then .ok (.mk thisB nix Rd.nulT []) (wE s a)
  else .err a 1)
 else .ok (.mk varB (sub s a (wE s a)) Rd.nulT []) (wE s a) from rfl)
 generalize wordR s a = R at *
 generalize wE s a = z at *
 rw [show sub s a z = s.extract a z from rfl] at HR hc
 have HC := hid (xargs_any (s.extract a z))
 rw [hc] at HC
 have k0 := h.c0
 have q1 := h.c1
 have x1 := h.f 1
 have HP := hid h
 have hbl := h.lt
 have i1 : (0 : Int) ≤ (a : Int) := by omega
 have i2 : (a : Int) ≤ (z : Int) := by omega
 have i3 : (z : Int) ≤ (s.size : Int) := by omega
 have k1 : (w.setCell ⟨b, 1, none⟩ (.int .i64 (z : Int))).cell? ⟨b, 0, none⟩ = some (.string s) := (h.move z).c0
 have HPM := hid (h.move z)
 have HAM := hid ((Aside.of (Below.refl w.heap.size w) : Aside b w w).set (o := 1) (.int .i64 (z : Int)))
 clear hl h hc
 obtain ⟨b0, hb0⟩ : ∃ b, eqb (s.extract a z) (⟨#[111, 114]⟩ : ByteArray) = b := ⟨_, rfl⟩
 obtain ⟨b1, hb1⟩ : ∃ b, eqb (s.extract a z) (⟨#[97, 110, 100]⟩ : ByteArray) = b := ⟨_, rfl⟩
 obtain ⟨b2, hb2⟩ : ∃ b, eqb (s.extract a z) (⟨#[110, 111, 116]⟩ : ByteArray) = b := ⟨_, rfl⟩
 obtain ⟨b3, hb3⟩ : ∃ b, eqb (s.extract a z) (⟨#[116, 114, 117, 101]⟩ : ByteArray) = b := ⟨_, rfl⟩
 obtain ⟨b4, hb4⟩ : ∃ b, eqb (s.extract a z) (⟨#[102, 97, 108, 115, 101]⟩ : ByteArray) = b := ⟨_, rfl⟩
 obtain ⟨b5, hb5⟩ : ∃ b, eqb (s.extract a z) (⟨#[110, 117, 108, 108]⟩ : ByteArray) = b := ⟨_, rfl⟩
 obtain ⟨b6, hb6⟩ : ∃ b, eqb (s.extract a z) (⟨#[116, 104, 105, 115]⟩ : ByteArray) = b := ⟨_, rfl⟩
 have fxor : ((s.extract a z).toList == [111, 114]) = b0 := tl_lit rfl hb0
 have gxor : ((s.extract a z).toList == (⟨#[111, 114]⟩ : ByteArray).toList) = b0 := by rw [tl_eqb]; exact hb0
 have fxand : ((s.extract a z).toList == [97, 110, 100]) = b1 := tl_lit rfl hb1
 have gxand : ((s.extract a z).toList == (⟨#[97, 110, 100]⟩ : ByteArray).toList) = b1 := by rw [tl_eqb]; exact hb1
 have fxnot : ((s.extract a z).toList == [110, 111, 116]) = b2 := tl_lit rfl hb2
 have gxnot : ((s.extract a z).toList == (⟨#[110, 111, 116]⟩ : ByteArray).toList) = b2 := by rw [tl_eqb]; exact hb2
 have fxtrue : ((s.extract a z).toList == [116, 114, 117, 101]) = b3 := tl_lit rfl hb3
 have gxtrue : ((s.extract a z).toList == (⟨#[116, 114, 117, 101]⟩ : ByteArray).toList) = b3 := by rw [tl_eqb]; exact hb3
 have fxfalse : ((s.extract a z).toList == [102, 97, 108, 115, 101]) = b4 := tl_lit rfl hb4
 have gxfalse : ((s.extract a z).toList == (⟨#[102, 97, 108, 115, 101]⟩ : ByteArray).toList) = b4 := by rw [tl_eqb]; exact hb4
 have fxnull : ((s.extract a z).toList == [110, 117, 108, 108]) = b5 := tl_lit rfl hb5
 have gxnull : ((s.extract a z).toList == (⟨#[110, 117, 108, 108]⟩ : ByteArray).toList) = b5 := by rw [tl_eqb]; exact hb5
 have fxthis : ((s.extract a z).toList == [116, 104, 105, 115]) = b6 := tl_lit rfl hb6
 have gxthis : ((s.extract a z).toList == (⟨#[116, 104, 105, 115]⟩ : ByteArray).toList) = b6 := by rw [tl_eqb]; exact hb6
 rcases word_ways (s.extract a z) with h0 | h0 | h0 | h0 | h0 | h0
 ·
  rcases h0 with h0 | h0 | h0
  ·
   skip
   obtain ⟨rfl, rfl, rfl, rfl, rfl, rfl, rfl⟩ : b0 = true ∧ b1 = false ∧ b2 = false ∧ b3 = false ∧ b4 = false ∧ b5 = false ∧ b6 = false := by rw [← hb0, ← hb1, ← hb2, ← hb3, ← hb4, ← hb5, ← hb6, h0]; decide
   have HR2 := hid (show R = .err a 1 by rw [HR.out, h0]; rfl)
   clear hb0 hb1 hb2 hb3 hb4 hb5 hb6 h0
   go_enter Tryz.func115, Tryz.ntmps115
   go_wp2_with fail
   refine (HBH.out _).mono ?_
   rintro e w2 ⟨rfl, rfl⟩
   go_wp2_with fail
   refine (xfail_any b s i a 1 _ HP.out).mono ?_
   rintro e w4 ⟨rfl, ha4, hn4⟩
   have HA4 := hid ha4
   have HN4 := hid hn4
   clear ha4 hn4
   go_wp2_with fail
   go_ret
   rw [HR2.out]
   exact ⟨rfl, HA4.out, HN4.out⟩
  ·
   skip
   obtain ⟨rfl, rfl, rfl, rfl, rfl, rfl, rfl⟩ : b0 = false ∧ b1 = true ∧ b2 = false ∧ b3 = false ∧ b4 = false ∧ b5 = false ∧ b6 = false := by rw [← hb0, ← hb1, ← hb2, ← hb3, ← hb4, ← hb5, ← hb6, h0]; decide
   have HR2 := hid (show R = .err a 1 by rw [HR.out, h0]; rfl)
   clear hb0 hb1 hb2 hb3 hb4 hb5 hb6 h0
   go_enter Tryz.func115, Tryz.ntmps115
   go_wp2_with fail
   refine (HBH.out _).mono ?_
   rintro e w2 ⟨rfl, rfl⟩
   go_wp2_with fail
   refine (xfail_any b s i a 1 _ HP.out).mono ?_
   rintro e w4 ⟨rfl, ha4, hn4⟩
   have HA4 := hid ha4
   have HN4 := hid hn4
   clear ha4 hn4
   go_wp2_with fail
   go_ret
   rw [HR2.out]
   exact ⟨rfl, HA4.out, HN4.out⟩
  ·
   skip
   obtain ⟨rfl, rfl, rfl, rfl, rfl, rfl, rfl⟩ : b0 = false ∧ b1 = false ∧ b2 = true ∧ b3 = false ∧ b4 = false ∧ b5 = false ∧ b6 = false := by rw [← hb0, ← hb1, ← hb2, ← hb3, ← hb4, ← hb5, ← hb6, h0]; decide
   have HR2 := hid (show R = .err a 1 by rw [HR.out, h0]; rfl)
   clear hb0 hb1 hb2 hb3 hb4 hb5 hb6 h0
   go_enter Tryz.func115, Tryz.ntmps115
   go_wp2_with fail
   refine (HBH.out _).mono ?_
   rintro e w2 ⟨rfl, rfl⟩
   go_wp2_with fail
   refine (xfail_any b s i a 1 _ HP.out).mono ?_
   rintro e w4 ⟨rfl, ha4, hn4⟩
   have HA4 := hid ha4
   have HN4 := hid hn4
   clear ha4 hn4
   go_wp2_with fail
   go_ret
   rw [HR2.out]
   exact ⟨rfl, HA4.out, HN4.out⟩
 ·
  skip
  obtain ⟨rfl, rfl, rfl, rfl, rfl, rfl, rfl⟩ : b0 = false ∧ b1 = false ∧ b2 = false ∧ b3 = true ∧ b4 = false ∧ b5 = false ∧ b6 = false := by rw [← hb0, ← hb1, ← hb2, ← hb3, ← hb4, ← hb5, ← hb6, h0]; decide
  have HR2 := hid (show R = .ok (litE (Rd.truT true)) z by rw [HR.out, h0]; rfl)
  clear hb0 hb1 hb2 hb3 hb4 hb5 hb6 h0
  go_enter Tryz.func115, Tryz.ntmps115
  go_wp2_with fail
  refine (HBH.out _).mono ?_
  rintro e w2 ⟨rfl, rfl⟩
  go_wp2_with fail
  generalize w.setCell ⟨b, 1, none⟩ (.int .i64 (z : Int)) = W5 at *
  refine (xtruth_any true W5).mono ?_
  rintro e w6 ⟨rfl, hb6⟩
  have HAM6 := hid (HAM.out.then (Aside.of hb6))
  have HPM6 := hid (HPM.out.onto hb6)
  clear hb6
  go_wp2_with fail
  refine (xlit_any (.int .i64 1) (.bool true) (.int .i64 0) (.string ⟨#[]⟩) (.slice none 0 0) (.slice none 0 0) w6).mono ?_
  rintro e w7 ⟨g, rfl, hg, hb, hb7⟩
  have HG7 := hid hg
  have HB7 := hid hb
  have H7 := hid hb7
  clear hg hb hb7
  go_wp2_with fail
  go_ret
  rw [HR2.out]
  exact LevP.leaf (o := litB) (n := nix) (v := Rd.truT true) HAM6.out HPM6.out rfl rfl HG7.out HB7.out H7.out
 ·
  skip
  obtain ⟨rfl, rfl, rfl, rfl, rfl, rfl, rfl⟩ : b0 = false ∧ b1 = false ∧ b2 = false ∧ b3 = false ∧ b4 = true ∧ b5 = false ∧ b6 = false := by rw [← hb0, ← hb1, ← hb2, ← hb3, ← hb4, ← hb5, ← hb6, h0]; decide
  have HR2 := hid (show R = .ok (litE (Rd.truT false)) z by rw [HR.out, h0]; rfl)
  clear hb0 hb1 hb2 hb3 hb4 hb5 hb6 h0
  go_enter Tryz.func115, Tryz.ntmps115
  go_wp2_with fail
  refine (HBH.out _).mono ?_
  rintro e w2 ⟨rfl, rfl⟩
  go_wp2_with fail
  generalize w.setCell ⟨b, 1, none⟩ (.int .i64 (z : Int)) = W5 at *
  refine (xtruth_any false W5).mono ?_
  rintro e w6 ⟨rfl, hb6⟩
  have HAM6 := hid (HAM.out.then (Aside.of hb6))
  have HPM6 := hid (HPM.out.onto hb6)
  clear hb6
  go_wp2_with fail
  refine (xlit_any (.int .i64 1) (.bool false) (.int .i64 0) (.string ⟨#[]⟩) (.slice none 0 0) (.slice none 0 0) w6).mono ?_
  rintro e w7 ⟨g, rfl, hg, hb, hb7⟩
  have HG7 := hid hg
  have HB7 := hid hb
  have H7 := hid hb7
  clear hg hb hb7
  go_wp2_with fail
  go_ret
  rw [HR2.out]
  exact LevP.leaf (o := litB) (n := nix) (v := Rd.truT false) HAM6.out HPM6.out rfl rfl HG7.out HB7.out H7.out
 ·
  skip
  obtain ⟨rfl, rfl, rfl, rfl, rfl, rfl, rfl⟩ : b0 = false ∧ b1 = false ∧ b2 = false ∧ b3 = false ∧ b4 = false ∧ b5 = true ∧ b6 = false := by rw [← hb0, ← hb1, ← hb2, ← hb3, ← hb4, ← hb5, ← hb6, h0]; decide
  have HR2 := hid (show R = .ok (litE Rd.nulT) z by rw [HR.out, h0]; rfl)
  clear hb0 hb1 hb2 hb3 hb4 hb5 hb6 h0
  go_enter Tryz.func115, Tryz.ntmps115
  go_wp2_with fail
  refine (HBH.out _).mono ?_
  rintro e w2 ⟨rfl, rfl⟩
  go_wp2_with fail
  generalize w.setCell ⟨b, 1, none⟩ (.int .i64 (z : Int)) = W5 at *
  have HAM6 := HAM
  have HPM6 := HPM
  refine (xlit_any (.int .i64 0) (.bool false) (.int .i64 0) (.string ⟨#[]⟩) (.slice none 0 0) (.slice none 0 0) W5).mono ?_
  rintro e w7 ⟨g, rfl, hg, hb, hb7⟩
  have HG7 := hid hg
  have HB7 := hid hb
  have H7 := hid hb7
  clear hg hb hb7
  go_wp2_with fail
  go_ret
  rw [HR2.out]
  exact LevP.leaf (o := litB) (n := nix) (v := Rd.nulT) HAM6.out HPM6.out rfl rfl HG7.out HB7.out H7.out
 ·
  skip
  obtain ⟨rfl, rfl, rfl, rfl, rfl, rfl, rfl⟩ : b0 = false ∧ b1 = false ∧ b2 = false ∧ b3 = false ∧ b4 = false ∧ b5 = false ∧ b6 = true := by rw [← hb0, ← hb1, ← hb2, ← hb3, ← hb4, ← hb5, ← hb6, h0]; decide
  have HR2 := hid (show R = .ok (.mk thisB nix Rd.nulT []) z by rw [HR.out, h0]; rfl)
  clear hb0 hb1 hb2 hb3 hb4 hb5 hb6 h0
  go_enter Tryz.func115, Tryz.ntmps115
  go_wp2_with fail
  refine (HBH.out _).mono ?_
  rintro e w2 ⟨rfl, rfl⟩
  go_wp2_with fail
  generalize w.setCell ⟨b, 1, none⟩ (.int .i64 (z : Int)) = W5 at *
  have HAM6 := HAM
  have HPM6 := HPM
  refine (xleaf_any (.string thisB) (.string ⟨#[]⟩) (.int .i64 0) (.bool false) (.int .i64 0) (.string ⟨#[]⟩) (.slice none 0 0) (.slice none 0 0) (.slice none 0 0) W5).mono ?_
  rintro e w7 ⟨rfl, hb, hb7⟩
  have hg : W5.heap.size ≤ W5.heap.size + 1 := Nat.le_succ _
  generalize W5.heap.size + 1 = g at *
  have HG7 := hid hg
  have HB7 := hid hb
  have H7 := hid hb7
  clear hg hb hb7
  go_wp2_with fail
  go_ret
  rw [HR2.out]
  exact LevP.leaf (o := thisB) (n := nix) (v := Rd.nulT) HAM6.out HPM6.out rfl rfl HG7.out HB7.out H7.out
 ·
  skip
  obtain ⟨exor, exand, exnot, extrue, exfalse, exnull, exthis⟩ := none_of h0
  have HR2 := hid (show R = .ok (.mk varB (s.extract a z) Rd.nulT []) z by rw [HR.out, if_neg (by rw [h0]; decide)])
  obtain ⟨rfl, rfl, rfl, rfl, rfl, rfl, rfl⟩ : b0 = false ∧ b1 = false ∧ b2 = false ∧ b3 = false ∧ b4 = false ∧ b5 = false ∧ b6 = false := ⟨hb0.symm.trans exor, hb1.symm.trans exand, hb2.symm.trans exnot, hb3.symm.trans extrue, hb4.symm.trans exfalse, hb5.symm.trans exnull, hb6.symm.trans exthis⟩
  clear exor exand exnot extrue exfalse exnull exthis h0
  clear hb0 hb1 hb2 hb3 hb4 hb5 hb6
  go_enter Tryz.func115, Tryz.ntmps115
  go_wp2_with fail
  refine (HBH.out _).mono ?_
  rintro e w2 ⟨rfl, rfl⟩
  go_wp2_with fail
  generalize w.setCell ⟨b, 1, none⟩ (.int .i64 (z : Int)) = W5 at *
  refine (HC.out W5).mono ?_
  rintro e w6 ⟨rfl, rfl⟩
  have HAM6 := HAM
  have HPM6 := HPM
  go_wp2_with fail
  refine (xleaf_any (.string varB) (.string (s.extract a z)) (.int .i64 0) (.bool false) (.int .i64 0) (.string ⟨#[]⟩) (.slice none 0 0) (.slice none 0 0) (.slice none 0 0) W5).mono ?_
  rintro e w7 ⟨rfl, hb, hb7⟩
  have hg : W5.heap.size ≤ W5.heap.size + 1 := Nat.le_succ _
  generalize W5.heap.size + 1 = g at *
  have HG7 := hid hg
  have HB7 := hid hb
  have H7 := hid hb7
  clear hg hb hb7
  go_wp2_with fail
  go_ret
  rw [HR2.out]
  exact LevP.leaf (o := varB) (n := (s.extract a z)) (v := Rd.nulT) HAM6.out HPM6.out rfl rfl HG7.out HB7.out H7.out
open Go.RowKit
open Tk Ex
def meth : Nat → Nat
 | 0 => 21
 | 1 => 36
 | 2 => 47
 | 3 => 69
 | 4 => 85
 | 5 => 99
 | 6 => 107
 | 7 => 109
 | _ => 111
def Reads8 (s : ByteArray) (f n : Nat) (m : Nat) : Prop := ∀ (i b : Nat) (w : World), Px w b s i → Err8 b w → i ≤ s.size → lev s f n i ≠ .out → Calls Tryz.prog m #[.pointer (some ⟨b, 0, none⟩)] w (LevP (lev s f n i) b s w)
def pxAt (w : World) (b : Nat) : Nat := match w.cell? ⟨b, 1, none⟩ with
 | some (.int _ i) => i.toNat
 | _ => 0
theorem Px.at_ {w : World} {b : Nat} {s : ByteArray} {i : Nat} (h : Px w b s i) : pxAt w b = i := by unfold pxAt; rw [h.c1]; simp
def madeN (m : Value) : Nat := match m with
 | .pointer none => 0
 | _ => 1
def ChnI (b : Nat) (s : ByteArray) (w : World) (n : Nat) (R : Res) (f : Nat) (m : Value) (wr : World) : Prop :=
 (∃ (f' : Nat) (e : E) (p g : Nat), m = .pointer (padr (some g)) ∧ f' ≤ f ∧ chn s f' n e p = R ∧ e.depth ≤ p ∧ PartAt wr (fun q => w.heap.size ≤ q ∧ q < wr.heap.size) g e ∧ Aside b w wr ∧ Px wr b s p ∧ p ≤ s.size) ∨ (m = .pointer (padr none) ∧ LevP R b s w (.returned m) wr)
theorem vread2 {w : World} {g : Nat} {ty : TypeId} {x y : Value} (h : Blk w g ty #[x, y]) : VReads w (· < w.heap.size) (some ⟨g, 0, none⟩) [x, y] := by
 intro _
 refine ⟨g, 0, rfl, h.lt, fun i v hv => ?_⟩
 rw [Nat.zero_add, h.cell]
 match i, hv with
 | 0, hv => exact hv
 | 1, hv => exact hv
 | i + 2, hv => cases hv
theorem vread1 {w : World} {g : Nat} {ty : TypeId} {x : Value} (h : Blk w g ty #[x]) : VReads w (· < w.heap.size) (some ⟨g, 0, none⟩) [x] := by
 intro _
 refine ⟨g, 0, rfl, h.lt, fun i v hv => ?_⟩
 rw [Nat.zero_add, h.cell]
 match i, hv with
 | 0, hv => exact hv
 | i + 1, hv => cases hv
theorem xjoin_two (o n : ByteArray) (g1 g2 : Nat) (e1 e2 : E) (b : Nat) (w : World) (S : Nat → Prop) (hS : ∀ q, S q → q < w.heap.size) (h1 : PartAt w S g1 e1) (h2 : PartAt w S g2 e2) (hd1 : e1.depth ≤ 100000) (hd2 : e2.depth ≤ 100000) :
 Calls Tryz.prog 46 #[.string o, .string n, .slice (some ⟨w.heap.size, 0, none⟩) 2 2] (w.alloc (.cells #[.pointer (padr (some g1)), .pointer (padr (some g2))] 74)) (JoinPost S (.mk o n Rd.nulT [e1, e2]) (w.alloc (.cells #[.pointer (padr (some g1)), .pointer (padr (some g2))] 74))) := by
 have hb : Below w.heap.size w (w.alloc (.cells #[.pointer (padr (some g1)), .pointer (padr (some g2))] 74)) := (Below.refl _ _).alloc (Nat.le_refl _) _
 have hB := Blk.new w 74 #[.pointer (padr (some g1)), .pointer (padr (some g2))]
 have hA : VReads (w.alloc (.cells #[.pointer (padr (some g1)), .pointer (padr (some g2))] 74)) (· < (w.alloc (.cells #[.pointer (padr (some g1)), .pointer (padr (some g2))] 74)).heap.size) (some ⟨w.heap.size, 0, none⟩) (ptrs (heads [(g1, e1), (g2, e2)])) := vread2 hB
 have hk : Keeps S w (w.alloc (.cells #[.pointer (padr (some g1)), .pointer (padr (some g2))] 74)) := fun q hq => hb.block q (hS q hq)
 have hP : PartsAt (w.alloc (.cells #[.pointer (padr (some g1)), .pointer (padr (some g2))] 74)) S [(g1, e1), (g2, e2)] := by
  intro i x hx
  match i, hx with
  | 0, hx => injection hx with hx; subst hx; exact h1.keep hk
  | 1, hx => injection hx with hx; subst hx; exact h2.keep hk
  | i + 2, hx => cases hx
 have hl : ∀ x ∈ [(g1, e1), (g2, e2)], x.2.depth ≤ 1000000 := by
  intro x hx
  simp only [List.mem_cons, List.not_mem_nil, or_false] at hx
  rcases hx with rfl | rfl
  · show e1.depth ≤ _; omega
  · show e2.depth ≤ _; omega
 have hdd : E.depths (trees [(g1, e1), (g2, e2)]) ≤ 1000000 := by
  show max e1.depth (max e2.depth 0) ≤ _; omega
 by_cases hd : (E.mk o n Rd.nulT (trees [(g1, e1), (g2, e2)])).depth ≤ 32
 · exact xjoin_ok o n [(g1, e1), (g2, e2)] _ 2 _ (by simp) (by simp) hA S (fun q hq => Nat.lt_of_lt_of_le (hS q hq) hb.size) hP hd
 · exact xjoin_deep o n [(g1, e1), (g2, e2)] _ 2 _ (by simp) hA S hP hl (by omega) hdd
theorem xjoin_one (o n : ByteArray) (g1 : Nat) (e1 : E) (b : Nat) (w : World) (S : Nat → Prop) (hS : ∀ q, S q → q < w.heap.size) (h1 : PartAt w S g1 e1) (hd1 : e1.depth ≤ 100000) :
 Calls Tryz.prog 46 #[.string o, .string n, .slice (some ⟨w.heap.size, 0, none⟩) 1 1] (w.alloc (.cells #[.pointer (padr (some g1))] 74)) (JoinPost S (.mk o n Rd.nulT [e1]) (w.alloc (.cells #[.pointer (padr (some g1))] 74))) := by
 have hb : Below w.heap.size w (w.alloc (.cells #[.pointer (padr (some g1))] 74)) := (Below.refl _ _).alloc (Nat.le_refl _) _
 have hB := Blk.new w 74 #[.pointer (padr (some g1))]
 have hA : VReads (w.alloc (.cells #[.pointer (padr (some g1))] 74)) (· < (w.alloc (.cells #[.pointer (padr (some g1))] 74)).heap.size) (some ⟨w.heap.size, 0, none⟩) (ptrs (heads [(g1, e1)])) := vread1 hB
 have hk : Keeps S w (w.alloc (.cells #[.pointer (padr (some g1))] 74)) := fun q hq => hb.block q (hS q hq)
 have hP : PartsAt (w.alloc (.cells #[.pointer (padr (some g1))] 74)) S [(g1, e1)] := by
  intro i x hx
  match i, hx with
  | 0, hx => injection hx with hx; subst hx; exact h1.keep hk
  | i + 1, hx => cases hx
 have hl : ∀ x ∈ [(g1, e1)], x.2.depth ≤ 1000000 := by
  intro x hx
  simp only [List.mem_cons, List.not_mem_nil, or_false] at hx
  subst hx
  show e1.depth ≤ _; omega
 have hdd : E.depths (trees [(g1, e1)]) ≤ 1000000 := by
  show max e1.depth 0 ≤ _; omega
 by_cases hd : (E.mk o n Rd.nulT (trees [(g1, e1)])).depth ≤ 32
 · exact xjoin_ok o n [(g1, e1)] _ 1 _ (by simp) (by simp) hA S (fun q hq => Nat.lt_of_lt_of_le (hS q hq) hb.size) hP hd
 · exact xjoin_deep o n [(g1, e1)] _ 1 _ (by simp) hA S hP hl (by omega) hdd
theorem xjoin_nil2 (o n : ByteArray) (x : Option Nat) (w : World) :
 Calls Tryz.prog 46 #[.string o, .string n, .slice (some ⟨w.heap.size, 0, none⟩) 2 2] (w.alloc (.cells #[.pointer (padr x), .pointer (padr none)] 74)) fun e w' => e = .returned (.pointer (padr none)) ∧ w.alloc (.cells #[.pointer (padr x), .pointer (padr none)] 74) = w' := by
 have hB := Blk.new w 74 #[.pointer (padr x), .pointer (padr none)]
 have hA : VReads (w.alloc (.cells #[.pointer (padr x), .pointer (padr none)] 74)) (· < (w.alloc (.cells #[.pointer (padr x), .pointer (padr none)] 74)).heap.size) (some ⟨w.heap.size, 0, none⟩) (ptrs [x, none]) := vread2 hB
 exact xjoin_none o n [x, none] _ 2 _ (by simp) (by cases x <;> rfl) hA
theorem xjoin_nil1 (o n : ByteArray) (w : World) :
 Calls Tryz.prog 46 #[.string o, .string n, .slice (some ⟨w.heap.size, 0, none⟩) 1 1] (w.alloc (.cells #[.pointer (padr none)] 74)) fun e w' => e = .returned (.pointer (padr none)) ∧ w.alloc (.cells #[.pointer (padr none)] 74) = w' := by
 have hB := Blk.new w 74 #[.pointer (padr none)]
 have hA : VReads (w.alloc (.cells #[.pointer (padr none)] 74)) (· < (w.alloc (.cells #[.pointer (padr none)] 74)).heap.size) (some ⟨w.heap.size, 0, none⟩) (ptrs [none]) := vread1 hB
 exact xjoin_none o n [none] _ 1 _ (by simp) rfl hA
end Go.Proofs.YtfbipnflgjhaiaaGreatDoor
