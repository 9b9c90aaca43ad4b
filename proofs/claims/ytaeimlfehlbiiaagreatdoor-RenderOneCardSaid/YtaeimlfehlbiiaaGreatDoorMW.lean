/- The law's own way to write a value: what is no array and no object. The law's own way to write a value: arrays, when their items are written so. The law's own way to write an array: its walk. The law's own way to write an object: plain mathematics. -/
import Derived.Test.YtaeimlfehlbiiaaGreatDoorMU
import Derived.Test.YtaeimlfehlbiiaaGreatDoorMN
import Derived.Test.YtaeimlfehlbiiaaGreatDoorMT
import Derived.Test.YtaeimlfehlbiiaaGreatDoorNA
import Derived.Test.YtaeimlfehlbiiaaGreatDoorMZ
import Derived.Outline
import Derived.Deep.DeepCutAuto
namespace Go.Proofs.YtaeimlfehlbiiaaGreatDoor
open Go.RowKit
open Tk
open Pl
set_option linter.unusedVariables false
def WtGives (t : T) (w : World) (e : Ending) (w' : World) : Prop := ∃ r : ByteArray, e = .returned (.string r) ∧ Rd.Written t r.data.toList ∧ r.size + 800 ≤ 1600 * t.size ∧ Below w.heap.size w w'
def Said6 (t : T) (S : ByteArray) : Prop := Rd.Leads (Rd.said t) S.data.toList ∧ S.size ≤ 722
theorem Said6.gives {t : T} {S G C : ByteArray} {w w' : World} (h : Said6 t S) (hn : t.Nice) (hk : t.kind < 4) (hk0 : 0 ≤ t.kind) (hG : Rd.Bls G.data.toList) (hC : Rd.Bls C.data.toList) (hGs : G.size ≤ 3) (hCs : C.size ≤ 3) (hb : Below w.heap.size w w') : WtGives t w (.returned (.string (G ++ S ++ C))) w' := by
 have hi : t.items = [] := hn.good.here.items (by omega) (by omega)
 have hno : Rd.norm Rd.Ob t = t := Rd.norm_good Rd.Ob_good t hn.good
 refine ⟨_, rfl, ?_, ?_, hb⟩
 ·
  have := Rd.written_leaf (v := t) ⟨by omega, by omega⟩ hno hi h.1 hG hC
  simpa only [ByteArray.data_append, Array.toList_append] using this
 ·
  have h1 := t.size_eq
  have h2 := h.2
  simp only [ByteArray.size_append]
  omega
theorem said6_null {t : T} (h : t.kind = 0) : Said6 t ⟨#[110, 117, 108, 108]⟩ := by
 cases t with
 | mk k tr n s l ks =>
  obtain rfl : k = 0 := h
  exact ⟨by rw [show Rd.said (.mk 0 tr n s l ks) = [⟨6, nix, 0⟩] by unfold Rd.said; rfl]; exact Rd.leads_null, by decide⟩
theorem said6_true {t : T} (h : t.kind = 1) (h2 : t.tr = true) : Said6 t ⟨#[116, 114, 117, 101]⟩ := by
 cases t with
 | mk k tr n s l ks =>
  obtain rfl : k = 1 := h
  obtain rfl : tr = true := h2
  exact ⟨by rw [show Rd.said (.mk 1 true n s l ks) = [⟨4, nix, 0⟩] by unfold Rd.said; rfl]; exact Rd.leads_true, by decide⟩
theorem said6_false {t : T} (h : t.kind = 1) (h2 : t.tr = false) : Said6 t ⟨#[102, 97, 108, 115, 101]⟩ := by
 cases t with
 | mk k tr n s l ks =>
  obtain rfl : k = 1 := h
  obtain rfl : tr = false := h2
  exact ⟨by rw [show Rd.said (.mk 1 false n s l ks) = [⟨5, nix, 0⟩] by unfold Rd.said; rfl]; exact Rd.leads_false, by decide⟩
theorem said6_num {t : T} (h : t.kind = 2) (hn : In64 t.num) : Said6 t ⟨(Lib.itoa t.num).toArray⟩ := by
 have hl := De.itoa_len (n := t.num) hn
 cases t with
 | mk k tr n s l ks =>
  obtain rfl : k = 2 := h
  refine ⟨by rw [show Rd.said (.mk 2 tr n s l ks) = [⟨3, nix, n⟩] by unfold Rd.said; rfl]; exact Rd.leads_num hn, ?_⟩
  show (Lib.itoa n).toArray.size ≤ 722
  rw [List.size_toArray]
  exact Nat.le_trans hl (by decide)
theorem said6_str {t : T} {r : ByteArray} (h : t.kind = 3) (hr : Rd.StrL t.str r.data.toList) (hs : r.size ≤ 722) : Said6 t r := by
 cases t with
 | mk k tr n s l ks =>
  obtain rfl : k = 3 := h
  exact ⟨by rw [show Rd.said (.mk 3 tr n s l ks) = [⟨2, s, 0⟩] by unfold Rd.said; rfl]; exact (Rd.leadsS_str hr).weak, hs⟩
set_option maxRecDepth 100000 in
set_option maxHeartbeats 8000000 in
theorem write_leaf (t : T) (A : Option Addr) (c : Nat) (A' : Option Addr) (c' : Nat) (B : Option Addr) (m mc : Nat) (at_ : Int) (w : World) (hn : t.Nice) (hk : t.kind < 4) (hk0 : 0 ≤ t.kind)
 (hv : TV w (· < w.heap.size) t A c A' c') (hW : Bytes8 w (· < w.heap.size) B m) (hm : m ≤ 60) (h0 : 0 ≤ at_) (h1 : at_ ≤ 100000) :
 Calls Tryz.prog 15 #[.agg #[.int .i64 t.kind, .bool t.tr, .int .i64 t.num, .string t.str, .slice A t.items.length c, .slice A' t.keys.length c'], .slice B m mc, .int .i64 at_] w (WtGives t w) := by
 have HV := Lib.hid hv
 have HN := Lib.hid hn
 clear hv hn
 have hba : Below w.heap.size w (w.alloc (.cells #[.int .i64 t.kind, .bool t.tr, .int .i64 t.num, .string t.str, .slice A t.items.length c, .slice A' t.keys.length c'] 27)) := (Below.refl _ _).alloc (Nat.le_refl _) _
 have HX := Lib.hid (Blk.new w 27 #[.int .i64 t.kind, .bool t.tr, .int .i64 t.num, .string t.str, .slice A t.items.length c, .slice A' t.keys.length c'])
 have HB := Lib.hid hba
 have HW := Lib.hid (show Bytes8 (w.alloc (.cells #[.int .i64 t.kind, .bool t.tr, .int .i64 t.num, .string t.str, .slice A t.items.length c, .slice A' t.keys.length c'] 27)) (· < w.heap.size) B m from hW.keep fun i hi => hba.block i hi)
 have hwl : w.heap.size < (w.alloc (.cells #[.int .i64 t.kind, .bool t.tr, .int .i64 t.num, .string t.str, .slice A t.items.length c, .slice A' t.keys.length c'] 27)).heap.size := by simp
 clear hba hW
 go_enter Tryz.func15, Tryz.ntmps15
 go_upto_region 1 with fail
 change Code.wp _ _ _ _ (w.alloc (.cells #[.int .i64 t.kind, .bool t.tr, .int .i64 t.num, .string t.str, .slice A t.items.length c, .slice A' t.keys.length c'] 27))
 generalize (w.alloc (.cells #[.int .i64 t.kind, .bool t.tr, .int .i64 t.num, .string t.str, .slice A t.items.length c, .slice A' t.keys.length c'] 27)) = W at *
 generalize hG : w.heap.size = P at *
 go_upto_if 19 with fail
 go_cut [7] (fun s7 wy => ∃ d : Int, 0 ≤ d ∧ d ≤ 255 ∧ s7 = .int .u8 d ∧ wy = W)
 case first =>
  by_cases hlt : at_ < (m : Int)
  ·
   have u1 : decide (at_ < (m : Int)) = true := decide_eq_true hlt
   obtain ⟨k, rfl⟩ : ∃ k : Nat, at_ = (k : Int) := ⟨at_.toNat, by omega⟩
   have u2 : decide (k < m) = true := decide_eq_true (by omega)
   obtain ⟨b, o, d, rfl, hb, hd0, hd1, hc⟩ := HW.out k (by omega)
   go_wp2_with fail
   go_meet
   exact ⟨d, hd0, by omega, rfl, rfl⟩
  ·
   have u1 : decide (at_ < (m : Int)) = false := decide_eq_false hlt
   go_wp2_with fail
   go_meet
   exact ⟨_, by omega, by omega, rfl, rfl⟩
 case rest =>
  obtain ⟨d, hd0, hd1, rfl, rfl⟩ := hcut
  have q0 : wc.cell? ⟨P, 0, none⟩ = some (.int .i64 t.kind) := HX.out.cell 0
  have q1 : wc.cell? ⟨P, 1, none⟩ = some (.bool t.tr) := HX.out.cell 1
  have q2 : wc.cell? ⟨P, 2, none⟩ = some (.int .i64 t.num) := HX.out.cell 2
  have q3 : wc.cell? ⟨P, 3, none⟩ = some (.string t.str) := HX.out.cell 3
  go_wp2_with fail
  refine (l6blanks_any d wc hd0 hd1).mono ?_
  rintro e w2 ⟨G, rfl, hGb, hGs, rfl⟩
  have HGB := Lib.hid hGb
  clear hGb
  have ed : (d.tdiv 3) = d / 3 := Int.tdiv_eq_ediv_of_nonneg hd0
  have ed0 : 0 ≤ d / 3 := by omega
  have ed1 : d / 3 ≤ 255 := by omega
  have hcase : t.kind = 0 ∨ t.kind = 1 ∨ t.kind = 2 ∨ t.kind = 3 := by omega
  have HKK := Lib.hid hcase
  clear hcase
  by_cases hk00 : t.kind = 0
  ·
   have u0 : (t.kind == 0) = true := by rw [hk00]; rfl
   have HS := Lib.hid (show Said6 t ⟨#[110, 117, 108, 108]⟩ from said6_null hk00)
   clear hk00
   go_wp2_with fail
   refine (l6blanks_any (d / 3) wc ed0 ed1).mono ?_
   rintro e w2 ⟨C, rfl, hCb, hCs, rfl⟩
   have HCB := Lib.hid hCb
   clear hCb
   go_wp2_with fail
   go_ret
   exact HS.out.gives HN.out hk hk0 HGB.out HCB.out hGs hCs (hG ▸ HB.out)
  ·
   have u0 : (t.kind == 0) = false := by rw [beq_eq_false_iff_ne]; exact hk00
   by_cases hk1 : t.kind = 1
   ·
    have v0 : (t.kind == 1) = true := by rw [hk1]; rfl
    by_cases htr : t.tr = true
    ·
     have HS := Lib.hid (said6_true hk1 htr)
     clear hk1 hk00
     generalize hTR : t.tr = tr at *
     subst htr
     clear hTR
     go_wp2_with fail
     refine (l6blanks_any (d / 3) wc ed0 ed1).mono ?_
     rintro e w2 ⟨C, rfl, hCb, hCs, rfl⟩
     have HCB := Lib.hid hCb
     clear hCb
     go_wp2_with fail
     go_ret
     exact HS.out.gives HN.out hk hk0 HGB.out HCB.out hGs hCs (hG ▸ HB.out)
    ·
     have htr' : t.tr = false := by simpa using htr
     have HS := Lib.hid (said6_false hk1 htr')
     clear hk1 hk00 htr
     generalize hTR : t.tr = tr at *
     subst htr'
     clear hTR
     go_wp2_with fail
     refine (l6blanks_any (d / 3) wc ed0 ed1).mono ?_
     rintro e w2 ⟨C, rfl, hCb, hCs, rfl⟩
     have HCB := Lib.hid hCb
     clear hCb
     go_wp2_with fail
     go_ret
     exact HS.out.gives HN.out hk hk0 HGB.out HCB.out hGs hCs (hG ▸ HB.out)
   ·
    have v0 : (t.kind == 1) = false := by rw [beq_eq_false_iff_ne]; exact hk1
    by_cases hk2 : t.kind = 2
    ·
     have v1 : (t.kind == 2) = true := by rw [hk2]; rfl
     have HIN := Lib.hid (show In64 t.num from ⟨HN.out.fit.here.n0, HN.out.fit.here.n1⟩)
     have HS := Lib.hid (said6_num hk2 HIN.out)
     clear hk00 hk1 hk2
     go_wp2_with fail
     refine (W2.of_any t.num wc HIN.out).mono ?_
     rintro e w3 ⟨x, rfl, hx, hb3⟩
     have H3 := Lib.hid (HB.out.trans (hb3.mono (by omega)))
     have HNZ := Lib.hid hx
     clear hx hb3
     go_wp2_with fail
     refine (W2.rtext_any x t.num w3 HNZ.out ((W2.sm_in HIN.out).mono (by decide))).mono ?_
     rintro e w4 ⟨rfl, hb4⟩
     have H4 := Lib.hid (H3.out.trans (hb4.mono (by have := H3.out.size; omega)))
     clear hb4
     generalize (⟨(Lib.itoa t.num).toArray⟩ : ByteArray) = r at *
     have hr7 : r.size ≤ 722 := HS.out.2
     go_wp2_with fail
     refine (l6blanks_any (d / 3) w4 ed0 ed1).mono ?_
     rintro e w2 ⟨C, rfl, hCb, hCs, rfl⟩
     have HCB := Lib.hid hCb
     clear hCb
     go_wp2_with fail
     go_ret
     exact HS.out.gives HN.out hk hk0 HGB.out HCB.out hGs hCs (hG ▸ H4.out)
    ·
     have v1 : (t.kind == 2) = false := by rw [beq_eq_false_iff_ne]; exact hk2
     have hk3 : t.kind = 3 := by omega
     have v2 : (t.kind == 3) = true := by rw [hk3]; rfl
     have HK3 := Lib.hid hk3
     have HOK := Lib.hid HN.out.good.here.txt
     have HSZ := Lib.hid (show t.str.size ≤ 60 from HN.out.fit.here.str)
     clear hk00 hk1 hk2 hk3
     go_wp2_with fail
     refine (l6text_any t.str d wc HOK.out HSZ.out hd0 hd1).mono ?_
     rintro e w3 ⟨r, rfl, hr, hrs, hb3⟩
     have H3 := Lib.hid (HB.out.trans (hb3.mono (by omega)))
     have hr7 : r.size ≤ 722 := by have := HSZ.out; omega
     have HS := Lib.hid (said6_str HK3.out hr hr7)
     clear hb3 hr hrs
     go_wp2_with fail
     refine (l6blanks_any (d / 3) w3 ed0 ed1).mono ?_
     rintro e w2 ⟨C, rfl, hCb, hCs, rfl⟩
     have HCB := Lib.hid hCb
     clear hCb
     go_wp2_with fail
     go_ret
     exact HS.out.gives HN.out hk hk0 HGB.out HCB.out hGs hCs (hG ▸ H3.out)
end Go.Proofs.YtaeimlfehlbiiaaGreatDoor
namespace Go.Proofs.YtaeimlfehlbiiaaGreatDoor
open Go.RowKit
open Tk
open Pl
set_option linter.unusedVariables false
def WSays (x : T) : Prop := ∀ (A : Option Addr) (c : Nat) (A' : Option Addr) (c' : Nat) (B : Option Addr) (m mc : Nat) (at_ : Int) (w : World), TV w (· < w.heap.size) x A c A' c' → Bytes8 w (· < w.heap.size) B m → m ≤ 60 → 0 ≤ at_ → at_ + 50 * x.size ≤ 5000 →
 Calls Tryz.prog 15 #[.agg #[.int .i64 x.kind, .bool x.tr, .int .i64 x.num, .string x.str, .slice A x.items.length c, .slice A' x.keys.length c'], .slice B m mc, .int .i64 at_] w (WtGives x w)
def Wr7 (l : List T) (O : ByteArray) : Prop := Rd.WrA l O.data.toList ∧ O.size ≤ 1600 * T.sizes l
theorem Wr7.step {t : T} {k : Nat} {x : T} {O S r : ByteArray} (h : Wr7 (t.items.take k) O) (hx : t.items[k]? = some x) (hS : S.data.toList = if k = 0 then [] else [44]) (hr : Rd.Written x r.data.toList) (hrs : r.size + 800 ≤ 1600 * x.size) : Wr7 (t.items.take (k + 1)) (O ++ S ++ r) := by
 have hk : k < t.items.length := by
  rw [List.getElem?_eq_some_iff] at hx
  exact hx.1
 have e : t.items.take (k + 1) = t.items.take k ++ [x] := by rw [List.take_add_one, hx]; rfl
 have hl : (t.items.take k).length = k := by rw [List.length_take]; omega
 refine ⟨?_, ?_⟩
 ·
  rw [e]
  have := Rd.wrA_snoc h.1 hr
  rw [hl] at this
  simpa only [ByteArray.data_append, Array.toList_append, hS, List.append_assoc] using this
 ·
  have h2 := h.2
  have hSs : S.size ≤ 1 := by
   rw [← size_toList, hS]
   split <;> simp
  have hs : T.sizes (t.items.take k ++ [x]) = T.sizes (t.items.take k) + x.size := by
   generalize t.items.take k = l
   induction l with
   | nil => simp [T.sizes]
   | cons a l ih => simp [T.sizes, ih]; omega
  rw [e, hs]
  simp only [ByteArray.size_append]
  omega
theorem Wr7.done {t : T} {O G C : ByteArray} (h : Wr7 t.items O) (hn : t.Nice) (hk : t.kind = 4) {w w' : World} (hG : Rd.Bls G.data.toList) (hC : Rd.Bls C.data.toList) (hGs : G.size ≤ 3) (hCs : C.size ≤ 3) (hb : Below w.heap.size w w') : WtGives t w (.returned (.string (G ++ (⟨#[91]⟩ ++ O ++ G ++ ⟨#[93]⟩) ++ C))) w' := by
 have e : Rd.arrT t.items = t := by
  have g := hn.good.here
  cases t with
  | mk k tr n s l ks =>
   obtain rfl : k = 4 := hk
   obtain rfl : tr = false := g.tr (by show ¬ (4 : Int) = 1; decide)
   obtain rfl : n = 0 := g.num (by show ¬ (4 : Int) = 2; decide)
   obtain rfl : s = ⟨#[]⟩ := g.str (by show ¬ (4 : Int) = 3; decide)
   obtain rfl : ks = [] := g.keys (by show ¬ (4 : Int) = 5; decide)
   rfl
 refine ⟨_, rfl, ?_, ?_, hb⟩
 ·
  have := Rd.wrA_end h.1 hG hG hC
  rw [e] at this
  simpa only [ByteArray.data_append, Array.toList_append] using this
 ·
  have h1 := t.size_eq
  have h2 := h.2
  simp only [ByteArray.size_append]
  show G.size + (1 + O.size + G.size + 1) + C.size + 800 ≤ _
  omega
end Go.Proofs.YtaeimlfehlbiiaaGreatDoor
namespace Go.Proofs.YtaeimlfehlbiiaaGreatDoor
open Go.RowKit
open Tk
open Pl
set_option linter.unusedVariables false
theorem sizes_take7 : ∀ (l : List T) (k : Nat), T.sizes (l.take k) ≤ T.sizes l
 | [], k => by simp
 | a :: l, 0 => by simp [T.sizes]
 | a :: l, k + 1 => by
  have := sizes_take7 l k
  simp only [List.take_succ_cons, T.sizes]; omega
theorem app_nil7 (O : ByteArray) : O = O ++ ⟨#[]⟩ := by
 apply ba_ext
 rw [ByteArray.data_append, Array.toList_append]; simp
set_option maxRecDepth 100000 in
set_option maxHeartbeats 8000000 in
theorem write_arr (t : T) (A : Option Addr) (c : Nat) (A' : Option Addr) (c' : Nat) (B : Option Addr) (m mc : Nat) (at_ : Int) (w : World) (hn : t.Nice) (hk : t.kind = 4)
 (ih : ∀ x : T, x.size < t.size → x.Nice → WSays x)
 (hv : TV w (· < w.heap.size) t A c A' c') (hW : Bytes8 w (· < w.heap.size) B m) (hm : m ≤ 60) (h0 : 0 ≤ at_) (h1 : at_ + 50 * t.size ≤ 5000) :
 Calls Tryz.prog 15 #[.agg #[.int .i64 t.kind, .bool t.tr, .int .i64 t.num, .string t.str, .slice A t.items.length c, .slice A' t.keys.length c'], .slice B m mc, .int .i64 at_] w (WtGives t w) := by
 have HV := Lib.hid hv
 have HN := Lib.hid hn
 have IH := Lib.hid ih
 have hsz := hn.size
 have hls := t.len_size
 have hse := t.size_eq
 have hlc := hv.lens.1
 have HK := Lib.hid hk
 have n0 : (t.kind == 0) = false := by rw [hk]; rfl
 have n1 : (t.kind == 1) = false := by rw [hk]; rfl
 have n2 : (t.kind == 2) = false := by rw [hk]; rfl
 have n3 : (t.kind == 3) = false := by rw [hk]; rfl
 have n4 : (t.kind == 4) = true := by rw [hk]; rfl
 clear hv hn ih hk
 have hba : Below w.heap.size w (w.alloc (.cells #[.int .i64 t.kind, .bool t.tr, .int .i64 t.num, .string t.str, .slice A t.items.length c, .slice A' t.keys.length c'] 27)) := (Below.refl _ _).alloc (Nat.le_refl _) _
 have HX := Lib.hid (Blk.new w 27 #[.int .i64 t.kind, .bool t.tr, .int .i64 t.num, .string t.str, .slice A t.items.length c, .slice A' t.keys.length c'])
 have HB := Lib.hid hba
 have HW0 := Lib.hid hW
 have HW := Lib.hid (show Bytes8 (w.alloc (.cells #[.int .i64 t.kind, .bool t.tr, .int .i64 t.num, .string t.str, .slice A t.items.length c, .slice A' t.keys.length c'] 27)) (· < w.heap.size) B m from hW.keep fun i hi => hba.block i hi)
 have hwl : w.heap.size < (w.alloc (.cells #[.int .i64 t.kind, .bool t.tr, .int .i64 t.num, .string t.str, .slice A t.items.length c, .slice A' t.keys.length c'] 27)).heap.size := by simp
 clear hba hW
 go_enter Tryz.func15, Tryz.ntmps15
 go_upto_region 1 with fail
 change Code.wp _ _ _ _ (w.alloc (.cells #[.int .i64 t.kind, .bool t.tr, .int .i64 t.num, .string t.str, .slice A t.items.length c, .slice A' t.keys.length c'] 27))
 generalize (w.alloc (.cells #[.int .i64 t.kind, .bool t.tr, .int .i64 t.num, .string t.str, .slice A t.items.length c, .slice A' t.keys.length c'] 27)) = W at *
 generalize hG : w.heap.size = P at *
 go_upto_if 19 with fail
 go_cut [7] (fun s7 wy => ∃ d : Int, 0 ≤ d ∧ d ≤ 255 ∧ s7 = .int .u8 d ∧ wy = W)
 case first =>
  by_cases hlt : at_ < (m : Int)
  ·
   have u1 : decide (at_ < (m : Int)) = true := decide_eq_true hlt
   obtain ⟨k, rfl⟩ : ∃ k : Nat, at_ = (k : Int) := ⟨at_.toNat, by omega⟩
   have u2 : decide (k < m) = true := decide_eq_true (by omega)
   obtain ⟨b, o, d, rfl, hb, hd0, hd1, hc⟩ := HW.out k (by omega)
   go_wp2_with fail
   go_meet
   exact ⟨d, hd0, by omega, rfl, rfl⟩
  ·
   have u1 : decide (at_ < (m : Int)) = false := decide_eq_false hlt
   go_wp2_with fail
   go_meet
   exact ⟨_, by omega, by omega, rfl, rfl⟩
 case rest =>
  obtain ⟨d, hd0, hd1, rfl, rfl⟩ := hcut
  have q0 : wc.cell? ⟨P, 0, none⟩ = some (.int .i64 t.kind) := HX.out.cell 0
  have q4 : wc.cell? ⟨P, 4, none⟩ = some (.slice A t.items.length c) := HX.out.cell 4
  go_wp2_with fail
  refine (l6blanks_any d wc hd0 hd1).mono ?_
  rintro e w2 ⟨G, rfl, hGb, hGs, rfl⟩
  have HGB := Lib.hid hGb
  clear hGb
  have ed : (d.tdiv 3) = d / 3 := Int.tdiv_eq_ediv_of_nonneg hd0
  have ed0 : 0 ≤ d / 3 := by omega
  have ed1 : d / 3 ≤ 255 := by omega
  go_wp2_with fail
  go_loopw [9, 105] (fun s i wr => ∃ (k : Nat) (O : ByteArray), k ≤ t.items.length ∧ i = .int .i64 k ∧ s = .string O ∧ Wr7 (t.items.take k) O ∧ Below P w wr) (fun _ i _ => t.items.length - (intOf i).toNat)
  case atStart => exact ⟨0, ⟨#[]⟩, Nat.zero_le _, rfl, rfl, ⟨Rd.wrA_nil, Nat.zero_le _⟩, HB.out⟩
  case round =>
   obtain ⟨k, O, hk, rfl, rfl, hO, hbel⟩ := hrel
   have HO := Lib.hid hO
   have Hbel := Lib.hid hbel
   have hOs : O.size ≤ 64000 := by
    have h2 := hO.2
    have h3 := sizes_take7 t.items k
    omega
   clear hO hbel
   by_cases hlt : k < t.items.length
   ·
    have u1 : decide (k < t.items.length) = true := decide_eq_true hlt
    have u1' : decide ((k : Int) < (t.items.length : Int)) = true := decide_eq_true (by omega)
    obtain ⟨b, o, x, D, g, D', g', rfl, hb, hx, h6, hX⟩ := HV.out.at_ hlt
    have hxs := T.at_size hx
    have HXE := Lib.hid hx
    have HXN := Lib.hid (HN.out.at_ hx)
    have HXV := Lib.hid hX
    obtain ⟨e0, e1, e2, e3, e4, e5⟩ := h6.keep hb (.of_below Hbel.out)
    clear hX h6 hx
    have hbe : Below wr.heap.size wr (wr.alloc (.cells #[.int .i64 x.kind, .bool x.tr, .int .i64 x.num, .string x.str, .slice D x.items.length g, .slice D' x.keys.length g'] 27)) := (Below.refl _ _).alloc (Nat.le_refl _) _
    have HY := Lib.hid (Blk.new wr 27 #[.int .i64 x.kind, .bool x.tr, .int .i64 x.num, .string x.str, .slice D x.items.length g, .slice D' x.keys.length g'])
    have HPW := Hbel.out.size
    have HB2 := Lib.hid (Hbel.out.trans (hbe.mono (by omega)))
    have HV2 := Lib.hid (show TV (wr.alloc (.cells #[.int .i64 x.kind, .bool x.tr, .int .i64 x.num, .string x.str, .slice D x.items.length g, .slice D' x.keys.length g'] 27)) (· < (wr.alloc (.cells #[.int .i64 x.kind, .bool x.tr, .int .i64 x.num, .string x.str, .slice D x.items.length g, .slice D' x.keys.length g'] 27)).heap.size) x D g D' g' from (HXV.out.keep fun i hi => HB2.out.block i hi).wide fun i hi => by have := HB2.out.size; have : i < P := hi; show i < _; omega)
    have HW2 := Lib.hid (show Bytes8 (wr.alloc (.cells #[.int .i64 x.kind, .bool x.tr, .int .i64 x.num, .string x.str, .slice D x.items.length g, .slice D' x.keys.length g'] 27)) (· < (wr.alloc (.cells #[.int .i64 x.kind, .bool x.tr, .int .i64 x.num, .string x.str, .slice D x.items.length g, .slice D' x.keys.length g'] 27)).heap.size) B m from fun j hj => by
     obtain ⟨b1, o1, d1, e1, hs1, h01, h11, hc1⟩ := HW0.out j hj
     have hbb := HB2.out.block b1 (by have : b1 < P := hs1; omega)
     exact ⟨b1, o1, d1, e1, by have := HB2.out.size; have : b1 < P := hs1; omega, h01, h11, (HB2.out.cell (p := ⟨b1, o1 + j, none⟩) (by have : b1 < P := hs1; omega)).trans hc1⟩)
    go_upto_region 30 with fail
    change Code.wp _ _ _ _ (wr.alloc (.cells #[.int .i64 x.kind, .bool x.tr, .int .i64 x.num, .string x.str, .slice D x.items.length g, .slice D' x.keys.length g'] 27))
    generalize (wr.alloc (.cells #[.int .i64 x.kind, .bool x.tr, .int .i64 x.num, .string x.str, .slice D x.items.length g, .slice D' x.keys.length g'] 27)) = W2 at *
    go_upto_if 111 with fail
    go_cut [9] (fun s9 wy => ∃ S : ByteArray, s9 = .string (O ++ S) ∧ S.data.toList = (if k = 0 then [] else [44]) ∧ S.size ≤ 1 ∧ wy = W2)
    case first =>
     by_cases hk0 : k = 0
     ·
      have v0 : decide ((k : Int) > 0) = false := decide_eq_false (by omega)
      have v1 : decide ((0 : Int) < (k : Int)) = false := decide_eq_false (by omega)
      have v2 : decide (0 < k) = false := decide_eq_false (by omega)
      go_wp2_with fail
      go_meet
      exact ⟨⟨#[]⟩, congrArg Value.string (app_nil7 O), by rw [if_pos hk0], Nat.zero_le _, rfl⟩
     ·
      have v0 : decide ((k : Int) > 0) = true := decide_eq_true (by omega)
      have v1 : decide ((0 : Int) < (k : Int)) = true := decide_eq_true (by omega)
      have v2 : decide (0 < k) = true := decide_eq_true (by omega)
      go_wp2_with fail
      go_meet
      exact ⟨⟨#[44]⟩, rfl, by rw [if_neg hk0], Nat.le_refl _, rfl⟩
    case rest =>
     obtain ⟨S, rfl, hS, hSs, rfl⟩ := hcut
     have HS := Lib.hid hS
     clear hS
     obtain ⟨a0, a1, a2, a3, a4, a5⟩ : wc.cell? ⟨wr.heap.size, 0, none⟩ = some (.int .i64 x.kind) ∧ wc.cell? ⟨wr.heap.size, 1, none⟩ = some (.bool x.tr) ∧ wc.cell? ⟨wr.heap.size, 2, none⟩ = some (.int .i64 x.num) ∧ wc.cell? ⟨wr.heap.size, 3, none⟩ = some (.string x.str) ∧ wc.cell? ⟨wr.heap.size, 4, none⟩ = some (.slice D x.items.length g) ∧ wc.cell? ⟨wr.heap.size, 5, none⟩ = some (.slice D' x.keys.length g') := ⟨HY.out.cell 0, HY.out.cell 1, HY.out.cell 2, HY.out.cell 3, HY.out.cell 4, HY.out.cell 5⟩
     have w1 : IntKind.i64.wrap (at_ + (k : Int)) = at_ + (k : Int) := IntWalk.i64_in _ (by omega)
     have w1' : wrap64 (at_ + (k : Int)) = at_ + (k : Int) := IntWalk.wrap64_in _ (by omega)
     have w2 : IntKind.i64.wrap (at_ + (k : Int) + 1) = at_ + (k : Int) + 1 := IntWalk.i64_in _ (by omega)
     have w2' : wrap64 (at_ + (k : Int) + 1) = at_ + (k : Int) + 1 := IntWalk.wrap64_in _ (by omega)
     clear e0 e1 e2 e3 e4 e5
     go_wp2_with fail
     refine (IH.out x (by omega) HXN.out D g D' g' B m mc (at_ + (k : Int) + 1) wc HV2.out HW2.out hm (by omega) (by omega)).mono ?_
     rintro e w3 ⟨r, rfl, hr, hrs, hb3⟩
     have HR3 := Lib.hid hr
     have H3 := Lib.hid (HB2.out.trans (hb3.mono (by have := HB2.out.size; omega)))
     have hrs' : r.size ≤ 64000 := by omega
     clear hr hb3
     go_wp2_with fail
     go_roundw
     case rel => exact ⟨k + 1, _, hlt, by go_num, rfl, HO.out.step HXE.out HS.out HR3.out hrs, H3.out⟩
     case measure => simp [intOf]; omega
   ·
    obtain rfl : k = t.items.length := by omega
    have u1 : decide (t.items.length < t.items.length) = false := decide_eq_false (by omega)
    have u1' : decide ((t.items.length : Int) < (t.items.length : Int)) = false := decide_eq_false (by omega)
    have HOD := Lib.hid (show Wr7 t.items O from by have := HO.out; rwa [List.take_length] at this)
    go_wp2_with fail
    refine (l6blanks_any (d / 3) wr ed0 ed1).mono ?_
    rintro e w2 ⟨C, rfl, hCb, hCs, rfl⟩
    have HCB := Lib.hid hCb
    clear hCb
    go_wp2_with fail
    go_ret
    exact HOD.out.done HN.out HK.out HGB.out HCB.out hGs hCs (hG ▸ Hbel.out)
end Go.Proofs.YtaeimlfehlbiiaaGreatDoor
namespace Go.Proofs.YtaeimlfehlbiiaaGreatDoor
open Go.RowKit
open Tk
open Pl
set_option linter.unusedVariables false
theorem sizes_app9 (l : List T) (x : T) : T.sizes (l ++ [x]) = T.sizes l + x.size := by
 induction l with
 | nil => simp [T.sizes]
 | cons a l ih => simp [T.sizes, ih]; omega
theorem sizes_perm9 {a b : List T} (h : a.Perm b) : T.sizes a = T.sizes b := by
 induction h with
 | nil => rfl
 | cons x _ ih => simp only [T.sizes, ih]
 | swap x y l => simp only [T.sizes]; omega
 | trans _ _ h1 h2 => rw [h1, h2]
def Wo9 (t : T) (n k : Nat) (O : ByteArray) : Prop := Rd.WrO ((Rd.rot (t.keys.zip t.items) n).take k) O.data.toList ∧ O.size ≤ 1600 * T.sizes (((Rd.rot (t.keys.zip t.items) n).take k).map Prod.snd)
theorem Wo9.start (t : T) (n : Nat) : Wo9 t n 0 ⟨#[]⟩ := ⟨by rw [List.take_zero]; exact Rd.wrO_nil, Nat.zero_le _⟩
theorem Wo9.small {t : T} {n k : Nat} {O : ByteArray} (h : Wo9 t n k O) (hl : t.keys.length = t.items.length) : O.size ≤ 1600 * T.sizes t.items := by
 have h1 := h.2
 rw [List.map_take] at h1
 have h2 := sizes_take7 ((Rd.rot (t.keys.zip t.items) n).map Prod.snd) k
 have h3 := sizes_perm9 ((Rd.rot_perm (t.keys.zip t.items) n).map Prod.snd)
 rw [List.map_snd_zip (by omega)] at h3
 omega
theorem Wo9.step {t : T} {n k j : Nat} {q : ByteArray} {x : T} {O S B K G r : ByteArray} (h : Wo9 t n k O) (hl : t.keys.length = t.items.length) (hk : k < t.items.length) (hj : j = (k + n) % t.items.length) (hq : t.keys[j]? = some q) (hx : t.items[j]? = some x)
 (hS : S.data.toList = if k = 0 then [] else G.data.toList ++ [44]) (hB : Rd.Bls B.data.toList) (hBs : B.size ≤ 3) (hG : Rd.Bls G.data.toList) (hGs : G.size ≤ 3) (hK : Rd.StrL q K.data.toList) (hKs : K.size ≤ 722) (hr : Rd.Written x r.data.toList) (hrs : r.size + 800 ≤ 1600 * x.size) :
 Wo9 t n (k + 1) (O ++ S ++ (B ++ K ++ G ++ ⟨#[58]⟩ ++ r)) := by
 have hzl : (t.keys.zip t.items).length = t.items.length := by rw [List.length_zip]; omega
 have hrl : (Rd.rot (t.keys.zip t.items) n).length = t.items.length := by rw [Rd.rot_len, hzl]
 have hat : (Rd.rot (t.keys.zip t.items) n)[k]? = some (q, x) := by
  rw [Rd.rot_at _ _ _ (by omega), hzl, ← hj, List.getElem?_zip_eq_some]
  exact ⟨hq, hx⟩
 have e : (Rd.rot (t.keys.zip t.items) n).take (k + 1) = (Rd.rot (t.keys.zip t.items) n).take k ++ [(q, x)] := by rw [List.take_add_one, hat]; rfl
 have hlk : ((Rd.rot (t.keys.zip t.items) n).take k).length = k := by rw [List.length_take]; omega
 refine ⟨?_, ?_⟩
 ·
  rw [e]
  have := Rd.wrO_snoc h.1 hB hG hK hr
  rw [hlk] at this
  simpa only [ByteArray.data_append, Array.toList_append, hS, List.append_assoc] using this
 ·
  have h2 := h.2
  have hSs : S.size ≤ 4 := by
   rw [← size_toList, hS]
   split
   · simp
   · rw [List.length_append, size_toList]; show _ + 1 ≤ 4; omega
  rw [e, List.map_append, List.map_cons, List.map_nil, sizes_app9]
  simp only [ByteArray.size_append]
  show O.size + S.size + (B.size + K.size + G.size + 1 + r.size) ≤ _
  omega
theorem Wo9.done {t : T} {n : Nat} {O G C : ByteArray} (h : Wo9 t n t.items.length O) (hn : t.Nice) (hk : t.kind = 5) {w w' : World} (hG : Rd.Bls G.data.toList) (hC : Rd.Bls C.data.toList) (hGs : G.size ≤ 3) (hCs : C.size ≤ 3) (hb : Below w.heap.size w w') : WtGives t w (.returned (.string (G ++ (⟨#[123]⟩ ++ O ++ G ++ ⟨#[125]⟩) ++ C))) w' := by
 have g := hn.good.here
 have hl := g.lens hk
 have hzl : (t.keys.zip t.items).length = t.items.length := by rw [List.length_zip]; omega
 have hrl : (Rd.rot (t.keys.zip t.items) n).length = t.items.length := by rw [Rd.rot_len, hzl]
 have hO : Rd.WrO (Rd.rot (t.keys.zip t.items) n) O.data.toList := by have := h.1; rwa [← hrl, List.take_length] at this
 have hs := h.small hl
 have e : T.mk 5 false 0 nix t.items t.keys = t := by
  cases t with
  | mk k tr nn s l ks =>
   obtain rfl : k = 5 := hk
   obtain rfl : tr = false := g.tr (by show ¬ (5 : Int) = 1; decide)
   obtain rfl : nn = 0 := g.num (by show ¬ (5 : Int) = 2; decide)
   obtain rfl : s = ⟨#[]⟩ := g.str (by show ¬ (5 : Int) = 3; decide)
   rfl
 refine ⟨_, rfl, ?_, ?_, hb⟩
 ·
  have := Rd.wrO_end hO (Rd.rot_perm _ _) hl g.kris hG hG hC
  rw [e] at this
  simpa only [ByteArray.data_append, Array.toList_append] using this
 ·
  have h1 := t.size_eq
  simp only [ByteArray.size_append]
  show G.size + (1 + O.size + G.size + 1) + C.size + 800 ≤ _
  omega
end Go.Proofs.YtaeimlfehlbiiaaGreatDoor
