/- Behind the blanks: the contract. The lexer's reader of a word: its contract. The lexer's reader of one escape's number: its contract. The lexer's reader of an escape: its contract. -/
import Derived.Shelf.Strings.SlTrimAscii
import Derived.Deep.QuietTactic
import Derived.BigQuiet
import Derived.WalkSmall
import Derived.KernelRfl
import Derived.Deep.RegionHeld3
import Derived.Deep.DeepCutAuto
import Derived.Below
import Derived.Test.YtgblenoaeanogaaGreatDoorMC
import Derived.Laws.BytesArg
set_option linter.unusedVariables false
set_option maxRecDepth 100000
set_option maxHeartbeats 8000000
open Go.Lib (hid)
namespace Go.Proofs.YtgblenoaeanogaaGreatDoor
open Go.RowKit
open Tk
def blankB : ByteArray := ⟨#[32, 9, 10, 13]⟩
theorem blank_has (c : UInt8) : blankB.data.toList.contains c = isBl c.toNat := by
 show List.contains [32, 9, 10, 13] c = _
 have key : ∀ k : UInt8, (c == k) = (c.toNat == k.toNat) := by
  intro k
  by_cases h : c = k
  · rw [h]; simp
  ·
   have : c.toNat ≠ k.toNat := fun e => h (UInt8.toNat_inj.1 e)
   rw [beq_eq_false_iff_ne.2 h, beq_eq_false_iff_ne.2 this]
 simp only [List.contains_cons, List.contains_nil, key, Bool.or_false, isBl]
 simp [Bool.or_assoc]
theorem trim_span (s : ByteArray) (i : Nat) (hi : i ≤ s.size) : Lib.trimLeftS (s.extract i s.size).data.toList blankB.data.toList = s.data.toList.drop (span isBl s i) := by
 rw [show (s.extract i s.size).data.toList = (s.data.toList.drop i).take (s.size - i) from sub_list s i s.size]
 rw [List.take_of_length_le (by rw [List.length_drop, size_toList]; exact Nat.le_refl _)]
 have h1 := span_ge isBl s i
 have h2 := span_le isBl hi
 have hg : ∀ (k : Nat) (b : UInt8), s.data.toList[k]? = some b → b.toNat = bt s k := by
  intro k b hk
  unfold bt
  rw [List.getD_eq_getElem?_getD, hk]; rfl
 rw [Lib.trimLeftS_drop _ _ (span isBl s i - i) (by rw [List.length_drop, size_toList]; omega) ?_ ?_, List.drop_drop]
 · congr 1; omega
 ·
  intro j b hj hb
  rw [List.getElem?_drop] at hb
  rw [blank_has, hg _ _ hb]
  exact span_in (i := i) (by omega) (by omega)
 ·
  intro b hb
  rw [List.getElem?_drop, show i + (span isBl s i - i) = span isBl s i by omega] at hb
  rw [blank_has, hg _ _ hb]
  apply span_out
  rcases Nat.lt_or_ge (span isBl s i) s.size with h | h
  · exact h
  · rw [List.getElem?_eq_none (by rw [size_toList]; exact h)] at hb; cases hb
theorem trim_any (s : ByteArray) (i : Nat) (hi : i ≤ s.size) (w : World) :
 Calls Tryz.prog 84 #[.string (s.extract i s.size), .string blankB] w fun e w' => e = .returned (.string ⟨(s.data.toList.drop (span isBl s i)).toArray⟩) ∧ Below w.heap.size w w' := by
 have h := Any.strings_TrimLeft_laid Tryz.lays161 (by kernel_rfl) (s.extract i s.size) blankB w (by decide) (by
  intro j b hj
  have : b ∈ [32, 9, 10, 13] := List.mem_of_getElem? hj
  simp at this
  rcases this with rfl | rfl | rfl | rfl <;> decide)
 rw [trim_span s i hi] at h
 exact h
theorem blanks_any5 (b : Nat) (s : ByteArray) (i : Nat) (w : World) (hs : s.size ≤ 1000000) (hc : w.cell? ⟨b, 0, none⟩ = some (.string s)) (hc2 : w.cell? ⟨b, 1, none⟩ = some (.int .i64 i)) (hi : i ≤ s.size) : Calls Tryz.prog 63 #[.pointer (some ⟨b, 0, none⟩)] w fun e w' => e = .returned (.int .i64 (span isBl s i : Nat)) ∧ Below w.heap.size w w' := by
 have i2 : (0 : Int) ≤ (i : Int) := by omega
 have i1 : (i : Int) ≤ (s.size : Int) := by omega
 have hz := span_le isBl hi
 have HC := hid (fun w1 : World => trim_any s i hi w1)
 have hsz : (⟨(s.data.toList.drop (span isBl s i)).toArray⟩ : ByteArray).size = s.size - span isBl s i := by
  show (s.data.toList.drop (span isBl s i)).toArray.size = _
  rw [List.size_toArray, List.length_drop, size_toList]
 generalize (⟨(s.data.toList.drop (span isBl s i)).toArray⟩ : ByteArray) = t at *
 generalize span isBl s i = q at *
 have hbl : b < w.heap.size := by
  rcases Nat.lt_or_ge b w.heap.size with h | h
  · exact h
  · unfold World.cell? at hc; rw [Array.getElem?_eq_none h] at hc; cases hc
 go_enter Tryz.func63, Tryz.ntmps63
 go_wp2_with fail
 have HBW := hid (Below.refl w.heap.size w)
 have e1 : IntKind.i64.wrap ((s.size : Int) - (t.size : Int)) = (q : Int) := by rw [hsz]; rw [IntWalk.i64_in _ (by omega)]; omega
 clear hz hsz
 go_region_held3 (fun w' => w'.cell? ⟨b, 0, none⟩ = some (.string s) ∧ w'.cell? ⟨b, 1, none⟩ = some (.int .i64 i))
  (go_keep)
  (first
   | (
    go_at_call 84; refine (HC.out _).mono ?_
    rintro e w2 ⟨rfl, hb2⟩
    have hb3 : Below w.heap.size w w2 := (Below.refl w.heap.size w).drew.trans hb2
    have k0 : w2.cell? ⟨b, 0, none⟩ = some (.string s) := (hb3.cell (p := ⟨b, 0, none⟩) hbl).trans hc
    have k1 : w2.cell? ⟨b, 1, none⟩ = some (.int .i64 i) := (hb3.cell (p := ⟨b, 1, none⟩) hbl).trans hc2
    have HB3 := hid hb3
    clear hb2 hb3))
 go_wp2_with fail
 go_ret
 exact ⟨rfl, HB3.out⟩
open Go.RowKit
open Tk
theorem wordE_stop {s : ByteArray} {c : Nat} {r : List Nat} {i : Nat} (h : bt s i ≠ c) : wordE s (c :: r) i = i := by unfold wordE; rw [if_neg h]
theorem wordE_go {s : ByteArray} {c : Nat} {r : List Nat} {i : Nat} (h : bt s i = c) : wordE s (c :: r) i = wordE s r (i + 1) := by rw [wordE, if_pos h]
theorem word_ok {s : ByteArray} {a : Nat} {L : List Nat} {k : Int} (h1 : wordOf (bt s a) = L) (h2 : kindOf (bt s a) = k) (h : wordE s L a = a + L.length) : wordAns s a = .tok ⟨k, nix, 0, a, a + L.length⟩ := by unfold wordAns; rw [h1, h2, if_pos h]
theorem word_no {s : ByteArray} {a : Nat} {L : List Nat} (h1 : wordOf (bt s a) = L) {p : Nat} (h : wordE s L a = p) (hp : p < a + L.length) : wordAns s a = .err p 1 := by unfold wordAns; rw [h1, h, if_neg (by omega)]
theorem drop_at (L : List Nat) (k : Nat) (h : k < L.length) : L.drop k = L.getD k 0 :: L.drop (k + 1) := by
 rw [List.drop_eq_getElem_cons h, List.getD_eq_getElem?_getD, List.getElem?_eq_getElem h]; rfl
def wt : List Nat := [116, 114, 117, 101]
def wf : List Nat := [102, 97, 108, 115, 101]
def wn : List Nat := [110, 117, 108, 108]
theorem word_bd (L : List Nat) (h : L = wt ∨ L = wf ∨ L = wn) (k : Nat) (hk : k < L.length) : 0 < L.getD k 0 ∧ L.getD k 0 < 256 := by
 rcases h with rfl | rfl | rfl
 · rcases (by simp [wt] at hk; omega : k = 0 ∨ k = 1 ∨ k = 2 ∨ k = 3) with rfl | rfl | rfl | rfl <;> decide
 · rcases (by simp [wf] at hk; omega : k = 0 ∨ k = 1 ∨ k = 2 ∨ k = 3 ∨ k = 4) with rfl | rfl | rfl | rfl | rfl <;> decide
 · rcases (by simp [wn] at hk; omega : k = 0 ∨ k = 1 ∨ k = 2 ∨ k = 3) with rfl | rfl | rfl | rfl <;> decide
theorem word_t (b : Nat) (s : ByteArray) (a : Nat) (w : World) (hs : s.size ≤ 90000) (hc : w.cell? ⟨b, 0, none⟩ = some (.string s)) (ha : a < s.size) (hk : bt s a = 116) : Calls Tryz.prog 89 #[.pointer (some ⟨b, 0, none⟩), .int .i64 a] w fun e w' => e = .returned (wordAns s a).val ∧ Below w.heap.size w w' := by
 have hb := cell_lt5 hc
 have hx := bt_at s a ha
 have HO := hid (fun h => word_ok (s := s) (a := a) (L := wt) (k := 4) (by rw [hk]; rfl) (by rw [hk]; rfl) h)
 have HN := hid (fun p h hp => word_no (s := s) (a := a) (L := wt) (by rw [hk]; rfl) (p := p) h hp)
 have HL := hid (word_bd wt (by simp))
 have HD := hid (drop_at wt)
 have hn : wt.length = 4 := rfl
 have i1 : (a : Int) < (s.size : Int) := by omega
 have i2 : (0 : Int) ≤ (a : Int) := by omega
 have v : (s[a].toNat : Int) = 116 := by omega
 have v0 : ((s[a].toNat : Int) == 116) = true := beq_iff_eq.2 v
 generalize hres : wordAns s a = res at *
 clear hx hres hk
 go_enter Tryz.func89, Tryz.ntmps89
 go_upto_region 8 with fail
 refine alloc_gn (fun W hW hB => ?_)
 have hcv := Lib.run_convert_string_bytes (P := Tryz.prog) W 9 33 5 (⟨#[116, 114, 117, 101]⟩ : ByteArray) (u := .string) Tryz.underlying9 Tryz.underlying33 Tryz.underlying5
 have hbc : ∀ k, k < wt.length → (Lib.bytesWorld W 5 (⟨#[116, 114, 117, 101]⟩ : ByteArray)).cell? ⟨W.heap.size, k, none⟩ = some (.int .u8 (wt.getD k 0 : Nat)) := fun k hk => by
  rw [Lib.bytesWorld_cell W 5 (⟨#[116, 114, 117, 101]⟩ : ByteArray) k (show k < 4 by rw [hn] at hk; exact hk)]
  have : ((⟨#[116, 114, 117, 101]⟩ : ByteArray).data.toList.getD k 0).toNat = wt.getD k 0 := by
   rw [hn] at hk
   rcases (by omega : k = 0 ∨ k = 1 ∨ k = 2 ∨ k = 3) with rfl | rfl | rfl | rfl <;> rfl
  rw [this]
 have hB1 := hB.onto (Lib.bytesWorld_below W 5 (⟨#[116, 114, 117, 101]⟩ : ByteArray))
 have hW1 := hW.trans ((Lib.bytesWorld_below W 5 (⟨#[116, 114, 117, 101]⟩ : ByteArray)).mono hW.size)
 have hsz : (⟨#[116, 114, 117, 101]⟩ : ByteArray).size = 4 := rfl
 rw [hsz] at hcv
 generalize grownCap W 4 0 5 = cap at hcv
 generalize Lib.bytesWorld W 5 (⟨#[116, 114, 117, 101]⟩ : ByteArray) = W1 at *
 generalize W.heap.size = G at *
 have hc1 : W1.cell? ⟨b, 0, none⟩ = some (.string s) := (hW1.cell (p := ⟨b, 0, none⟩) hb).trans hc
 have HW := hid hW1
 have HC := hid hbc
 have c0 := hB1.cell 0
 have c1 := hB1.cell 1
 have c2 := hB1.cell 2
 have c3 := hB1.cell 3
 have c4 := hB1.cell 4
 have f0 := hB1.free 0
 have f1 := hB1.free 1
 have f2 := hB1.free 2
 have f3 := hB1.free 3
 have f4 := hB1.free 4
 clear hW hW1 hB hB1 hbc hsz hc
 go_wp2_with fail
 go_loop [9, 26] (fun x y => ∃ k : Nat, k ≤ 4 ∧ a + k ≤ s.size ∧ wordE s wt a = wordE s (wt.drop k) (a + k) ∧ x = .int .i64 (a + k : Nat) ∧ y = .int .i64 k) (fun x y => 4 - (intOf y).toNat)
 case atStart => exact ⟨0, by omega, by omega, rfl, rfl, rfl⟩
 case round =>
  obtain ⟨k, h1, h2, h3, rfl, rfl⟩ := hrel
  have H3 := hid h3
  clear h3
  by_cases hlt : k < 4
  ·
   have t1 : (k : Int) < 4 := by omega
   have t2 : decide ((k : Int) < 4) = true := decide_eq_true t1
   have t3 : (0 : Int) ≤ (k : Int) := by omega
   have hck := HC.out k (by rw [hn]; exact hlt)
   have hdr := HD.out k (by rw [hn]; exact hlt)
   have hbd := HL.out k (by rw [hn]; exact hlt)
   generalize wt.getD k 0 = ch at *
   have HDR := hid hdr
   clear hdr
   generalize hq : a + k = q at *
   have i3 : (0 : Int) ≤ (q : Int) := by omega
   by_cases hqs : q < s.size
   ·
    have u1 : (q : Int) < (s.size : Int) := by omega
    have u2 : ((q : Int) == (s.size : Int)) = false := by rw [beq_eq_false_iff_ne]; omega
    have u3 : ¬ (q : Int) = (s.size : Int) := by omega
    have hy := bt_at s q hqs
    by_cases hh : bt s q = ch
    ·
     have v1 : (s[q].toNat : Int) = (ch : Int) := by omega
     have v2 : ((s[q].toNat : Int) != (ch : Int)) = false := by simp [v1]
     have HG := hid (show wordE s wt a = wordE s (wt.drop (k + 1)) (q + 1) by rw [H3.out, HDR.out, wordE_go hh])
     clear hy hh
     go_wp2_with fail
     go_round
     case rel => exact ⟨k + 1, hlt, by omega, by rw [HG.out]; congr 1; omega, by go_num, by go_num⟩
     case measure => simp [intOf]; omega
    ·
     have v1 : ¬ (s[q].toNat : Int) = (ch : Int) := by omega
     have v2 : ((s[q].toNat : Int) != (ch : Int)) = true := by simp [v1]
     have HE := hid (HN.out q (by rw [H3.out, HDR.out, wordE_stop hh]) (by rw [hn]; omega))
     clear hy hh
     go_wp2_with fail
     refine bodyPost_ret (v := (Ans.err q 1).val) (by simp [results, Tryz.results89, go_sem, Ans.val, c0, c1, c2, c3, c4]) rfl ⟨by rw [HE.out], ?_⟩
     exact below_put5 HW.out (Nat.le_refl _) _ _ _ _ _
   ·
    obtain rfl : q = s.size := by omega
    have u2 : ((s.size : Int) == (s.size : Int)) = true := by simp
    have HE := hid (HN.out s.size (by rw [H3.out, HDR.out, wordE_stop (by rw [bt_end (Nat.le_refl _)]; omega)]) (by rw [hn]; omega))
    go_wp2_with fail
    refine bodyPost_ret (v := (Ans.err s.size 1).val) (by simp [results, Tryz.results89, go_sem, Ans.val, c0, c1, c2, c3, c4]) rfl ⟨by rw [HE.out], ?_⟩
    exact below_put5 HW.out (Nat.le_refl _) _ _ _ _ _
  ·
   obtain rfl : k = 4 := by omega
   have HE := hid (show res = Ans.tok ⟨4, nix, 0, a, a + 4⟩ from HO.out (by rw [H3.out]; rfl))
   go_wp2_with fail
   refine bodyPost_ret (v := (Ans.tok ⟨4, nix, 0, a, a + 4⟩).val) (by simp [results, Tryz.results89, go_sem, Ans.val, nix, c0, c1, c2, c3, c4]) rfl ⟨by rw [HE.out], ?_⟩
   exact below_put5 HW.out (Nat.le_refl _) _ _ _ _ _
theorem word_f (b : Nat) (s : ByteArray) (a : Nat) (w : World) (hs : s.size ≤ 90000) (hc : w.cell? ⟨b, 0, none⟩ = some (.string s)) (ha : a < s.size) (hk : bt s a = 102) : Calls Tryz.prog 89 #[.pointer (some ⟨b, 0, none⟩), .int .i64 a] w fun e w' => e = .returned (wordAns s a).val ∧ Below w.heap.size w w' := by
 have hb := cell_lt5 hc
 have hx := bt_at s a ha
 have HO := hid (fun h => word_ok (s := s) (a := a) (L := wf) (k := 5) (by rw [hk]; rfl) (by rw [hk]; rfl) h)
 have HN := hid (fun p h hp => word_no (s := s) (a := a) (L := wf) (by rw [hk]; rfl) (p := p) h hp)
 have HL := hid (word_bd wf (by simp))
 have HD := hid (drop_at wf)
 have hn : wf.length = 5 := rfl
 have i1 : (a : Int) < (s.size : Int) := by omega
 have i2 : (0 : Int) ≤ (a : Int) := by omega
 have v : (s[a].toNat : Int) = 102 := by omega
 have v0 : ((s[a].toNat : Int) == 116) = false := by rw [v]; rfl
 have v9 : ((s[a].toNat : Int) == 102) = true := beq_iff_eq.2 v
 generalize hres : wordAns s a = res at *
 clear hx hres hk
 go_enter Tryz.func89, Tryz.ntmps89
 go_upto_region 8 with fail
 refine alloc_gn (fun W hW hB => ?_)
 have hcv := Lib.run_convert_string_bytes (P := Tryz.prog) W 9 33 5 (⟨#[102, 97, 108, 115, 101]⟩ : ByteArray) (u := .string) Tryz.underlying9 Tryz.underlying33 Tryz.underlying5
 have hbc : ∀ k, k < wf.length → (Lib.bytesWorld W 5 (⟨#[102, 97, 108, 115, 101]⟩ : ByteArray)).cell? ⟨W.heap.size, k, none⟩ = some (.int .u8 (wf.getD k 0 : Nat)) := fun k hk => by
  rw [Lib.bytesWorld_cell W 5 (⟨#[102, 97, 108, 115, 101]⟩ : ByteArray) k (show k < 5 by rw [hn] at hk; exact hk)]
  have : ((⟨#[102, 97, 108, 115, 101]⟩ : ByteArray).data.toList.getD k 0).toNat = wf.getD k 0 := by
   rw [hn] at hk
   rcases (by omega : k = 0 ∨ k = 1 ∨ k = 2 ∨ k = 3 ∨ k = 4) with rfl | rfl | rfl | rfl | rfl <;> rfl
  rw [this]
 have hB1 := hB.onto (Lib.bytesWorld_below W 5 (⟨#[102, 97, 108, 115, 101]⟩ : ByteArray))
 have hW1 := hW.trans ((Lib.bytesWorld_below W 5 (⟨#[102, 97, 108, 115, 101]⟩ : ByteArray)).mono hW.size)
 have hsz : (⟨#[102, 97, 108, 115, 101]⟩ : ByteArray).size = 5 := rfl
 rw [hsz] at hcv
 generalize grownCap W 5 0 5 = cap at hcv
 generalize Lib.bytesWorld W 5 (⟨#[102, 97, 108, 115, 101]⟩ : ByteArray) = W1 at *
 generalize W.heap.size = G at *
 have hc1 : W1.cell? ⟨b, 0, none⟩ = some (.string s) := (hW1.cell (p := ⟨b, 0, none⟩) hb).trans hc
 have HW := hid hW1
 have HC := hid hbc
 have c0 := hB1.cell 0
 have c1 := hB1.cell 1
 have c2 := hB1.cell 2
 have c3 := hB1.cell 3
 have c4 := hB1.cell 4
 have f0 := hB1.free 0
 have f1 := hB1.free 1
 have f2 := hB1.free 2
 have f3 := hB1.free 3
 have f4 := hB1.free 4
 clear hW hW1 hB hB1 hbc hsz hc
 go_wp2_with fail
 go_loop [9, 26] (fun x y => ∃ k : Nat, k ≤ 5 ∧ a + k ≤ s.size ∧ wordE s wf a = wordE s (wf.drop k) (a + k) ∧ x = .int .i64 (a + k : Nat) ∧ y = .int .i64 k) (fun x y => 5 - (intOf y).toNat)
 case atStart => exact ⟨0, by omega, by omega, rfl, rfl, rfl⟩
 case round =>
  obtain ⟨k, h1, h2, h3, rfl, rfl⟩ := hrel
  have H3 := hid h3
  clear h3
  by_cases hlt : k < 5
  ·
   have t1 : (k : Int) < 5 := by omega
   have t2 : decide ((k : Int) < 5) = true := decide_eq_true t1
   have t3 : (0 : Int) ≤ (k : Int) := by omega
   have hck := HC.out k (by rw [hn]; exact hlt)
   have hdr := HD.out k (by rw [hn]; exact hlt)
   have hbd := HL.out k (by rw [hn]; exact hlt)
   generalize wf.getD k 0 = ch at *
   have HDR := hid hdr
   clear hdr
   generalize hq : a + k = q at *
   have i3 : (0 : Int) ≤ (q : Int) := by omega
   by_cases hqs : q < s.size
   ·
    have u1 : (q : Int) < (s.size : Int) := by omega
    have u2 : ((q : Int) == (s.size : Int)) = false := by rw [beq_eq_false_iff_ne]; omega
    have u3 : ¬ (q : Int) = (s.size : Int) := by omega
    have hy := bt_at s q hqs
    by_cases hh : bt s q = ch
    ·
     have v1 : (s[q].toNat : Int) = (ch : Int) := by omega
     have v2 : ((s[q].toNat : Int) != (ch : Int)) = false := by simp [v1]
     have HG := hid (show wordE s wf a = wordE s (wf.drop (k + 1)) (q + 1) by rw [H3.out, HDR.out, wordE_go hh])
     clear hy hh
     go_wp2_with fail
     go_round
     case rel => exact ⟨k + 1, hlt, by omega, by rw [HG.out]; congr 1; omega, by go_num, by go_num⟩
     case measure => simp [intOf]; omega
    ·
     have v1 : ¬ (s[q].toNat : Int) = (ch : Int) := by omega
     have v2 : ((s[q].toNat : Int) != (ch : Int)) = true := by simp [v1]
     have HE := hid (HN.out q (by rw [H3.out, HDR.out, wordE_stop hh]) (by rw [hn]; omega))
     clear hy hh
     go_wp2_with fail
     refine bodyPost_ret (v := (Ans.err q 1).val) (by simp [results, Tryz.results89, go_sem, Ans.val, c0, c1, c2, c3, c4]) rfl ⟨by rw [HE.out], ?_⟩
     exact below_put5 HW.out (Nat.le_refl _) _ _ _ _ _
   ·
    obtain rfl : q = s.size := by omega
    have u2 : ((s.size : Int) == (s.size : Int)) = true := by simp
    have HE := hid (HN.out s.size (by rw [H3.out, HDR.out, wordE_stop (by rw [bt_end (Nat.le_refl _)]; omega)]) (by rw [hn]; omega))
    go_wp2_with fail
    refine bodyPost_ret (v := (Ans.err s.size 1).val) (by simp [results, Tryz.results89, go_sem, Ans.val, c0, c1, c2, c3, c4]) rfl ⟨by rw [HE.out], ?_⟩
    exact below_put5 HW.out (Nat.le_refl _) _ _ _ _ _
  ·
   obtain rfl : k = 5 := by omega
   have HE := hid (show res = Ans.tok ⟨5, nix, 0, a, a + 5⟩ from HO.out (by rw [H3.out]; rfl))
   go_wp2_with fail
   refine bodyPost_ret (v := (Ans.tok ⟨5, nix, 0, a, a + 5⟩).val) (by simp [results, Tryz.results89, go_sem, Ans.val, nix, c0, c1, c2, c3, c4]) rfl ⟨by rw [HE.out], ?_⟩
   exact below_put5 HW.out (Nat.le_refl _) _ _ _ _ _
theorem word_n (b : Nat) (s : ByteArray) (a : Nat) (w : World) (hs : s.size ≤ 90000) (hc : w.cell? ⟨b, 0, none⟩ = some (.string s)) (ha : a < s.size) (hk : bt s a = 110) : Calls Tryz.prog 89 #[.pointer (some ⟨b, 0, none⟩), .int .i64 a] w fun e w' => e = .returned (wordAns s a).val ∧ Below w.heap.size w w' := by
 have hb := cell_lt5 hc
 have hx := bt_at s a ha
 have HO := hid (fun h => word_ok (s := s) (a := a) (L := wn) (k := 6) (by rw [hk]; rfl) (by rw [hk]; rfl) h)
 have HN := hid (fun p h hp => word_no (s := s) (a := a) (L := wn) (by rw [hk]; rfl) (p := p) h hp)
 have HL := hid (word_bd wn (by simp))
 have HD := hid (drop_at wn)
 have hn : wn.length = 4 := rfl
 have i1 : (a : Int) < (s.size : Int) := by omega
 have i2 : (0 : Int) ≤ (a : Int) := by omega
 have v : (s[a].toNat : Int) = 110 := by omega
 have v0 : ((s[a].toNat : Int) == 116) = false := by rw [v]; rfl
 have v9 : ((s[a].toNat : Int) == 102) = false := by rw [v]; rfl
 generalize hres : wordAns s a = res at *
 clear hx hres hk
 go_enter Tryz.func89, Tryz.ntmps89
 go_upto_region 8 with fail
 refine alloc_gn (fun W hW hB => ?_)
 have hcv := Lib.run_convert_string_bytes (P := Tryz.prog) W 9 33 5 (⟨#[110, 117, 108, 108]⟩ : ByteArray) (u := .string) Tryz.underlying9 Tryz.underlying33 Tryz.underlying5
 have hbc : ∀ k, k < wn.length → (Lib.bytesWorld W 5 (⟨#[110, 117, 108, 108]⟩ : ByteArray)).cell? ⟨W.heap.size, k, none⟩ = some (.int .u8 (wn.getD k 0 : Nat)) := fun k hk => by
  rw [Lib.bytesWorld_cell W 5 (⟨#[110, 117, 108, 108]⟩ : ByteArray) k (show k < 4 by rw [hn] at hk; exact hk)]
  have : ((⟨#[110, 117, 108, 108]⟩ : ByteArray).data.toList.getD k 0).toNat = wn.getD k 0 := by
   rw [hn] at hk
   rcases (by omega : k = 0 ∨ k = 1 ∨ k = 2 ∨ k = 3) with rfl | rfl | rfl | rfl <;> rfl
  rw [this]
 have hB1 := hB.onto (Lib.bytesWorld_below W 5 (⟨#[110, 117, 108, 108]⟩ : ByteArray))
 have hW1 := hW.trans ((Lib.bytesWorld_below W 5 (⟨#[110, 117, 108, 108]⟩ : ByteArray)).mono hW.size)
 have hsz : (⟨#[110, 117, 108, 108]⟩ : ByteArray).size = 4 := rfl
 rw [hsz] at hcv
 generalize grownCap W 4 0 5 = cap at hcv
 generalize Lib.bytesWorld W 5 (⟨#[110, 117, 108, 108]⟩ : ByteArray) = W1 at *
 generalize W.heap.size = G at *
 have hc1 : W1.cell? ⟨b, 0, none⟩ = some (.string s) := (hW1.cell (p := ⟨b, 0, none⟩) hb).trans hc
 have HW := hid hW1
 have HC := hid hbc
 have c0 := hB1.cell 0
 have c1 := hB1.cell 1
 have c2 := hB1.cell 2
 have c3 := hB1.cell 3
 have c4 := hB1.cell 4
 have f0 := hB1.free 0
 have f1 := hB1.free 1
 have f2 := hB1.free 2
 have f3 := hB1.free 3
 have f4 := hB1.free 4
 clear hW hW1 hB hB1 hbc hsz hc
 go_wp2_with fail
 go_loop [9, 26] (fun x y => ∃ k : Nat, k ≤ 4 ∧ a + k ≤ s.size ∧ wordE s wn a = wordE s (wn.drop k) (a + k) ∧ x = .int .i64 (a + k : Nat) ∧ y = .int .i64 k) (fun x y => 4 - (intOf y).toNat)
 case atStart => exact ⟨0, by omega, by omega, rfl, rfl, rfl⟩
 case round =>
  obtain ⟨k, h1, h2, h3, rfl, rfl⟩ := hrel
  have H3 := hid h3
  clear h3
  by_cases hlt : k < 4
  ·
   have t1 : (k : Int) < 4 := by omega
   have t2 : decide ((k : Int) < 4) = true := decide_eq_true t1
   have t3 : (0 : Int) ≤ (k : Int) := by omega
   have hck := HC.out k (by rw [hn]; exact hlt)
   have hdr := HD.out k (by rw [hn]; exact hlt)
   have hbd := HL.out k (by rw [hn]; exact hlt)
   generalize wn.getD k 0 = ch at *
   have HDR := hid hdr
   clear hdr
   generalize hq : a + k = q at *
   have i3 : (0 : Int) ≤ (q : Int) := by omega
   by_cases hqs : q < s.size
   ·
    have u1 : (q : Int) < (s.size : Int) := by omega
    have u2 : ((q : Int) == (s.size : Int)) = false := by rw [beq_eq_false_iff_ne]; omega
    have u3 : ¬ (q : Int) = (s.size : Int) := by omega
    have hy := bt_at s q hqs
    by_cases hh : bt s q = ch
    ·
     have v1 : (s[q].toNat : Int) = (ch : Int) := by omega
     have v2 : ((s[q].toNat : Int) != (ch : Int)) = false := by simp [v1]
     have HG := hid (show wordE s wn a = wordE s (wn.drop (k + 1)) (q + 1) by rw [H3.out, HDR.out, wordE_go hh])
     clear hy hh
     go_wp2_with fail
     go_round
     case rel => exact ⟨k + 1, hlt, by omega, by rw [HG.out]; congr 1; omega, by go_num, by go_num⟩
     case measure => simp [intOf]; omega
    ·
     have v1 : ¬ (s[q].toNat : Int) = (ch : Int) := by omega
     have v2 : ((s[q].toNat : Int) != (ch : Int)) = true := by simp [v1]
     have HE := hid (HN.out q (by rw [H3.out, HDR.out, wordE_stop hh]) (by rw [hn]; omega))
     clear hy hh
     go_wp2_with fail
     refine bodyPost_ret (v := (Ans.err q 1).val) (by simp [results, Tryz.results89, go_sem, Ans.val, c0, c1, c2, c3, c4]) rfl ⟨by rw [HE.out], ?_⟩
     exact below_put5 HW.out (Nat.le_refl _) _ _ _ _ _
   ·
    obtain rfl : q = s.size := by omega
    have u2 : ((s.size : Int) == (s.size : Int)) = true := by simp
    have HE := hid (HN.out s.size (by rw [H3.out, HDR.out, wordE_stop (by rw [bt_end (Nat.le_refl _)]; omega)]) (by rw [hn]; omega))
    go_wp2_with fail
    refine bodyPost_ret (v := (Ans.err s.size 1).val) (by simp [results, Tryz.results89, go_sem, Ans.val, c0, c1, c2, c3, c4]) rfl ⟨by rw [HE.out], ?_⟩
    exact below_put5 HW.out (Nat.le_refl _) _ _ _ _ _
  ·
   obtain rfl : k = 4 := by omega
   have HE := hid (show res = Ans.tok ⟨6, nix, 0, a, a + 4⟩ from HO.out (by rw [H3.out]; rfl))
   go_wp2_with fail
   refine bodyPost_ret (v := (Ans.tok ⟨6, nix, 0, a, a + 4⟩).val) (by simp [results, Tryz.results89, go_sem, Ans.val, nix, c0, c1, c2, c3, c4]) rfl ⟨by rw [HE.out], ?_⟩
   exact below_put5 HW.out (Nat.le_refl _) _ _ _ _ _
theorem word_any5 (b : Nat) (s : ByteArray) (a : Nat) (w : World) (hs : s.size ≤ 90000) (hc : w.cell? ⟨b, 0, none⟩ = some (.string s)) (ha : a < s.size) (hk : bt s a = 116 ∨ bt s a = 102 ∨ bt s a = 110) : Calls Tryz.prog 89 #[.pointer (some ⟨b, 0, none⟩), .int .i64 a] w fun e w' => e = .returned (wordAns s a).val ∧ Below w.heap.size w w' := by
 rcases hk with h | h | h
 · exact word_t b s a w hs hc ha h
 · exact word_f b s a w hs hc ha h
 · exact word_n b s a w hs hc ha h
open Go.RowKit
open Tk
def Tk.Uni.val (n : Int) (p : Nat) (k : Bool) : Value := .tuple #[.int .i64 n, .int .i64 p, .bool k]
def Tk.isEsc (s : ByteArray) (a : Nat) : Bool := bt s a == 92 && bt s (a + 1) == 117
def Tk.unitV (s : ByteArray) (a : Nat) : Value :=
 if isEsc s a = true then (if (four s (a + 2)).1 < 0 then Uni.val 0 (four s (a + 2)).2 false else Uni.val (four s (a + 2)).1 (four s (a + 2)).2 true) else Uni.val 0 a false
def escB : ByteArray := ⟨#[92, 117]⟩
theorem esc_pre (s : ByteArray) (a : Nat) (ha : a ≤ s.size) : Lib.hasPrefix (s.extract a s.size).data.toList escB.data.toList = isEsc s a := by
 rw [show (s.extract a s.size).data.toList = (s.data.toList.drop a).take (s.size - a) from sub_list s a s.size]
 rw [List.take_of_length_le (by rw [List.length_drop, size_toList]; exact Nat.le_refl _)]
 show List.isPrefixOf [92, 117] _ = _
 unfold isEsc
 by_cases h1 : a < s.size
 ·
  rw [drop_cons h1]
  have e1 := bt_at s a h1
  by_cases h2 : a + 1 < s.size
  ·
   rw [drop_cons h2]
   have e2 := bt_at s (a + 1) h2
   rw [← e1, ← e2]
   simp only [List.isPrefixOf, Bool.and_true]
   congr 1
   ·
    by_cases h : s[a] = 92
    · rw [h]; rfl
    ·
     have : s[a].toNat ≠ 92 := fun e => h (UInt8.toNat_inj.1 e)
     have h' : ¬ (92 : UInt8) = s[a] := fun e => h e.symm
     rw [beq_eq_false_iff_ne.2 this, beq_eq_false_iff_ne.2 h']
   ·
    by_cases h : s[a + 1] = 117
    · rw [h]; rfl
    ·
     have : s[a + 1].toNat ≠ 117 := fun e => h (UInt8.toNat_inj.1 e)
     have h' : ¬ (117 : UInt8) = s[a + 1] := fun e => h e.symm
     rw [beq_eq_false_iff_ne.2 this, beq_eq_false_iff_ne.2 h']
  ·
   rw [List.drop_eq_nil_of_le (by rw [size_toList]; omega), bt_end (i := a + 1) (by omega)]
   simp [List.isPrefixOf]
 ·
  rw [List.drop_eq_nil_of_le (by rw [size_toList]; omega), bt_end (by omega)]
  simp [List.isPrefixOf]
theorem pre_any (s : ByteArray) (a : Nat) (ha : a ≤ s.size) (w : World) :
 Calls Tryz.prog 110 #[.string (s.extract a s.size), .string escB] w fun e w' => e = .returned (.bool (isEsc s a)) ∧ w = w' := by
 have h := Tryz.strings_HasPrefix (s.extract a s.size) escB w
 rw [esc_pre s a ha] at h
 exact h.mono fun e w' ⟨a, b⟩ => ⟨a, b.symm⟩
theorem unit_any5 (b : Nat) (s : ByteArray) (a : Nat) (w : World) (hs : s.size ≤ 1000000) (hc : w.cell? ⟨b, 0, none⟩ = some (.string s)) (ha : a ≤ s.size) : Calls Tryz.prog 151 #[.pointer (some ⟨b, 0, none⟩), .int .i64 a] w fun e w' => e = .returned (unitV s a) ∧ w = w' := by
 have i1 : (a : Int) ≤ (s.size : Int) := by omega
 have i2 : (0 : Int) ≤ (a : Int) := by omega
 cases hz : isEsc s a with
 | false =>
  have HV := hid (show unitV s a = Uni.val 0 a false by unfold unitV; rw [hz]; rfl)
  have HZ := hid hz
  generalize unitV s a = v at *
  clear hz
  go_enter Tryz.func151, Tryz.ntmps151
  go_wp2_with fail
  refine (pre_any s a ha _).mono ?_
  rintro e w2 ⟨rfl, rfl⟩
  rw [HZ.out]
  go_wp2_with fail
  go_ret3
  exact ⟨by rw [HV.out]; rfl, rfl⟩
 | true =>
  have hsz : a + 2 ≤ s.size := by
   unfold isEsc at hz
   simp only [Bool.and_eq_true, beq_iff_eq] at hz
   have := lt_of_bt (s := s) (i := a + 1) (by omega)
   omega
  have HV := hid (show unitV s a = if (four s (a + 2)).1 < 0 then Uni.val 0 (four s (a + 2)).2 false else Uni.val (four s (a + 2)).1 (four s (a + 2)).2 true by unfold unitV; rw [if_pos hz])
  have HZ := hid hz
  have HF := hid (show fourF s 4 (a + 2) 0 = four s (a + 2) from rfl)
  generalize unitV s a = v at *
  generalize four s (a + 2) = fr at *
  clear hz
  go_enter Tryz.func151, Tryz.ntmps151
  go_wp2_with fail
  refine (pre_any s a ha _).mono ?_
  rintro e w2 ⟨rfl, rfl⟩
  rw [HZ.out]
  go_wp2_with fail
  go_loop [7, 8, 20] (fun i j k => ∃ (n : Int) (r : Nat), r ≤ 4 ∧ 0 ≤ n ∧ n < 16 ^ r ∧ a + 2 + r ≤ s.size ∧ fourF s (4 - r) (a + 2 + r) n = fr ∧ i = .int .i64 n ∧ j = .int .i64 (a + 2 + r : Nat) ∧ k = .int .i64 r) (fun i j k => 4 - (intOf k).toNat)
  case atStart => exact ⟨0, 0, by omega, by omega, by decide, hsz, HF.out, rfl, by go_num, rfl⟩
  case round =>
   obtain ⟨n, r, h1, h2, h3, h4, h5, rfl, rfl, rfl⟩ := hrel
   by_cases hr : r < 4
   ·
    have v0 : (r : Int) < 4 := by omega
    have h16 : (n + 1) * 16 ≤ 65536 := by
     have : r = 0 ∨ r = 1 ∨ r = 2 ∨ r = 3 := by omega
     rcases this with rfl | rfl | rfl | rfl <;> simp at h3 <;> omega
    obtain ⟨m, hm⟩ : ∃ m, 4 - r = m + 1 := ⟨3 - r, by omega⟩
    have hm2 : 4 - (r + 1) = m := by omega
    rw [hm] at h5
    generalize hq : a + 2 + r = q at *
    have hq1 : a + 2 + (r + 1) = q + 1 := by omega
    by_cases hk : q < s.size
    ·
     have u1 : decide (q < s.size) = true := decide_eq_true hk
     have j1 : (q : Int) < (s.size : Int) := by omega
     have j2 : (0 : Int) ≤ (q : Int) := by omega
     have j3 : ¬ (q : Int) = (s.size : Int) := by omega
     have hx : hexOf (bt s q) = hexOf s[q].toNat := by rw [bt_at s q hk]
     have hle := hexOf_le s[q].toNat
     by_cases h0 : hexOf s[q].toNat < 0
     ·
      have HR := hid (show v = Uni.val 0 q false by rw [fourF_no (by rw [hx]; exact h0)] at h5; rw [HV.out, ← h5]; rfl)
      clear h5 hx HV HF h3
      go_wp2_with fail
      refine (hex_any5 _ _ (UInt8.toNat_lt _)).mono ?_
      rintro e w2 ⟨rfl, rfl⟩
      go_wp2_with fail
      go_ret3
      exact ⟨by rw [HR.out]; rfl, rfl⟩
     ·
      have h0' : 0 ≤ hexOf s[q].toNat := by omega
      have u3 : ((q : Int) == (s.size : Int)) = false := beq_eq_false_iff_ne.2 j3
      have u4 : decide (hexOf s[q].toNat < 0) = false := decide_eq_false h0
      have HR := hid (show fourF s m (q + 1) (n * 16 + hexOf s[q].toNat) = fr by rw [fourF_yes (by rw [hx]; exact h0'), hx] at h5; exact h5)
      have HP := hid (show n * 16 + hexOf s[q].toNat < 16 ^ (r + 1) by rw [Int.pow_succ]; omega)
      clear h5 hx HV HF h3
      go_wp2_with fail
      refine (hex_any5 _ _ (UInt8.toNat_lt _)).mono ?_
      rintro e w2 ⟨rfl, rfl⟩
      go_wp2_with fail
      refine (hex_any5 _ _ (UInt8.toNat_lt _)).mono ?_
      rintro e w2 ⟨rfl, rfl⟩
      go_wp2_with fail
      go_round
      case rel =>
       refine ⟨n * 16 + hexOf s[q].toNat, r + 1, hr, by omega, HP.out, by omega, by rw [hm2, hq1]; exact HR.out, ?_, by rw [hq1]; go_num, by go_num⟩
       go_num
      case measure => simp [intOf]; omega
    ·
     obtain rfl : q = s.size := by omega
     have HR := hid (show v = Uni.val 0 s.size false by rw [fourF_no (by rw [hexOf_end (Nat.le_refl _)]; decide)] at h5; rw [HV.out, ← h5]; rfl)
     clear h5 HV HF h3
     go_wp2_with fail
     go_ret3
     exact ⟨by rw [HR.out]; rfl, rfl⟩
   ·
    obtain rfl : r = 4 := by omega
    have HR := hid (show v = Uni.val n (a + 2 + 4) true by rw [HV.out, ← h5]; simp [fourF]; omega)
    clear h5 HV HF h3
    go_wp2_with fail
    go_ret3
    exact ⟨by rw [HR.out]; rfl, rfl⟩
open Go.RowKit
open Tk
open Pl
theorem unitV_no {s : ByteArray} {a : Nat} (h : isEsc s a = false) : unitV s a = Uni.val 0 a false := by unfold unitV; rw [h]; rfl
theorem unitV_bad {s : ByteArray} {a : Nat} (h : isEsc s a = true) (k : (four s (a + 2)).1 < 0) : unitV s a = Uni.val 0 (four s (a + 2)).2 false := by unfold unitV; rw [if_pos h, if_pos k]
theorem unitV_yes {s : ByteArray} {a : Nat} (h : isEsc s a = true) (k : ¬ (four s (a + 2)).1 < 0) : unitV s a = Uni.val (four s (a + 2)).1 (a + 6 : Nat) true := by
 unfold unitV; rw [if_pos h, if_neg k]
 rcases four_range s (a + 2) with ⟨x, _⟩ | ⟨_, _, x, _⟩
 · omega
 · rw [x]
theorem isPt_pt (n : Int) : isPt n = pt n := by
 rw [Bool.eq_iff_iff, isPt_iff, pt_iff]
theorem uni_two {s : ByteArray} {a : Nat} (k : ¬ (four s (a + 2)).1 < 0) (kp : pt (four s (a + 2)).1 = false) :
 (∃ l : Int, (unitV s (a + 6) = Uni.val l (a + 12 : Nat) true) ∧ (55296 ≤ (four s (a + 2)).1 ∧ (four s (a + 2)).1 < 56320) ∧ (56320 ≤ l ∧ l < 57344) ∧ uniCh s a = .pt (65536 + ((four s (a + 2)).1 - 55296) * 1024 + (l - 56320)) (a + 12)) ∨
 (∃ (l : Int) (q : Nat) (z : Bool), unitV s (a + 6) = Uni.val l q z ∧ (z = false ∨ ¬ ((55296 ≤ (four s (a + 2)).1 ∧ (four s (a + 2)).1 < 56320) ∧ (56320 ≤ l ∧ l < 57344))) ∧ uniCh s a = .bad a 3) := by
 have hno : ¬ pt (four s (a + 2)).1 = true := by rw [kp]; decide
 cases h : isEsc s (a + 6) with
 | false =>
  right
  refine ⟨0, a + 6, false, unitV_no h, .inl rfl, ?_⟩
  unfold uniCh
  rw [if_neg k, if_neg hno, if_neg]
  rintro ⟨_, x, y, _⟩
  unfold isEsc at h
  rw [x, show a + 6 + 1 = a + 7 from rfl, y] at h
  cases h
 | true =>
  by_cases k2 : (four s (a + 6 + 2)).1 < 0
  ·
   right
   refine ⟨0, _, false, unitV_bad h k2, .inl rfl, ?_⟩
   unfold uniCh
   rw [if_neg k, if_neg hno, if_neg]
   rintro ⟨_, _, _, x⟩
   simp only [isLow, decide_eq_true_eq] at x
   rw [show a + 6 + 2 = a + 8 from rfl] at k2
   omega
  ·
   have hy := unitV_yes h k2
   rw [show a + 6 + 6 = a + 12 from rfl, show a + 6 + 2 = a + 8 from rfl] at hy
   unfold isEsc at h
   simp only [Bool.and_eq_true, beq_iff_eq] at h
   by_cases hh : (55296 ≤ (four s (a + 2)).1 ∧ (four s (a + 2)).1 < 56320) ∧ (56320 ≤ (four s (a + 8)).1 ∧ (four s (a + 8)).1 < 57344)
   ·
    left
    refine ⟨_, hy, hh.1, hh.2, ?_⟩
    unfold uniCh
    rw [if_neg k, if_neg hno, if_pos ⟨by simp only [isHigh, decide_eq_true_eq]; exact hh.1, h.1, h.2, by simp only [isLow, decide_eq_true_eq]; exact hh.2⟩]
   ·
    right
    refine ⟨_, _, true, hy, .inr hh, ?_⟩
    unfold uniCh
    rw [if_neg k, if_neg hno, if_neg]
    rintro ⟨x, _, _, y⟩
    simp only [isHigh, isLow, decide_eq_true_eq] at x y
    exact hh ⟨x, y⟩
theorem escaped_any5 (b : Nat) (s : ByteArray) (a : Nat) (w : World) (hs : s.size ≤ 1000000) (hc : w.cell? ⟨b, 0, none⟩ = some (.string s)) (ha : a ≤ s.size) (he : isEsc s a = true) : Calls Tryz.prog 132 #[.pointer (some ⟨b, 0, none⟩), .int .i64 a] w fun e w' => e = .returned (uniCh s a).val ∧ w = w' := by
 have i2 : (0 : Int) ≤ (a : Int) := by omega
 have HU := hid (unit_any5 b s a w hs hc ha)
 by_cases k : (four s (a + 2)).1 < 0
 ·
  have HR := hid (show uniCh s a = .bad (four s (a + 2)).2 1 by unfold uniCh; rw [if_pos k])
  have HV := hid (unitV_bad he k)
  generalize uniCh s a = v at *
  generalize unitV s a = uv at *
  generalize four s (a + 2) = fr at *
  clear he k
  go_enter Tryz.func132, Tryz.ntmps132
  go_wp2_with fail
  refine HU.out.mono ?_
  rintro e w2 ⟨rfl, rfl⟩
  rw [HV.out]
  unfold Uni.val
  go_wp2_with fail
  go_ret3
  exact ⟨by rw [HR.out]; rfl, rfl⟩
 ·
  have hr := four_range s (a + 2)
  have ha6 : a + 6 ≤ s.size := by omega
  have HU2 := hid (unit_any5 b s (a + 6) w hs hc ha6)
  have HV := hid (unitV_yes he k)
  cases kp : pt (four s (a + 2)).1 with
  | true =>
   have HR := hid (show uniCh s a = .pt (four s (a + 2)).1 (a + 6) by
    unfold uniCh; rw [if_neg k, if_pos kp]
    rcases hr with ⟨x, _⟩ | ⟨_, _, x, _⟩
    · omega
    · rw [x])
   have HP := hid (show isPt (four s (a + 2)).1 = true by rw [isPt_pt]; exact kp)
   generalize uniCh s a = v at *
   generalize unitV s a = uv at *
   generalize (four s (a + 2)).1 = fr at *
   clear he k kp hr HU2
   go_enter Tryz.func132, Tryz.ntmps132
   go_wp2_with fail
   refine HU.out.mono ?_
   rintro e w2 ⟨rfl, rfl⟩
   rw [HV.out]
   unfold Uni.val
   go_wp2_with fail
   refine (gis_yes _ _ HP.out).mono ?_
   rintro e w2 ⟨rfl, rfl⟩
   go_wp2_with fail
   go_ret3
   exact ⟨by rw [HR.out]; rfl, rfl⟩
  | false =>
   have HP := hid (show isPt (four s (a + 2)).1 = false by rw [isPt_pt]; exact kp)
   rcases uni_two k kp with ⟨l, g1, g2, g3, g4⟩ | ⟨l, q, z, g1, g2, g4⟩
   ·
    have HG := hid g1
    have HR := hid g4
    have HA := hid g2
    have HB := hid g3
    have v1 : ¬ 65536 + ((four s (a + 2)).1 - 55296) * 1024 + (l - 56320) < 0 := by omega
    generalize uniCh s a = v at *
    generalize unitV s a = uv at *
    generalize unitV s (a + 6) = uw at *
    generalize (four s (a + 2)).1 = fr at *
    clear he k kp hr g1 g2 g3 g4
    go_enter Tryz.func132, Tryz.ntmps132
    go_wp2_with fail
    refine HU.out.mono ?_
    rintro e w2 ⟨rfl, rfl⟩
    rw [HV.out]
    unfold Uni.val
    go_wp2_with fail
    refine (gis_no _ _ HP.out).mono ?_
    rintro e w2 ⟨rfl, rfl⟩
    go_wp2_with fail
    refine HU2.out.mono ?_
    rintro e w2 ⟨rfl, rfl⟩
    rw [HG.out]
    unfold Uni.val
    go_wp2_with fail
    refine (pair_yes _ _ _ HA.out HB.out).mono ?_
    rintro e w2 ⟨rfl, rfl⟩
    go_wp2_with fail
    go_ret3
    exact ⟨by rw [HR.out]; rfl, rfl⟩
   ·
    have HG := hid g1
    have HR := hid g4
    have HX := hid (show ∃ y : Int, (z = false ∨ y = -1) ∧ ∀ w : World, Calls Tryz.prog 153 #[.int .i64 (four s (a + 2)).1, .int .i64 l] w fun e w' => e = .returned (.int .i64 y) ∧ w = w' by
     by_cases hh : (55296 ≤ (four s (a + 2)).1 ∧ (four s (a + 2)).1 < 56320) ∧ (56320 ≤ l ∧ l < 57344)
     · exact ⟨_, g2.imp id (fun x => absurd hh x), fun w => pair_yes _ _ w hh.1 hh.2⟩
     · exact ⟨-1, .inr rfl, fun w => pair_no _ _ w hh⟩)
    generalize uniCh s a = v at *
    generalize unitV s a = uv at *
    generalize unitV s (a + 6) = uw at *
    generalize (four s (a + 2)).1 = fr at *
    clear he k kp hr g1 g2 g4
    obtain ⟨y, hy1, hy2⟩ := HX.out
    have HY := hid hy2
    clear hy2 HX
    go_enter Tryz.func132, Tryz.ntmps132
    go_wp2_with fail
    refine HU.out.mono ?_
    rintro e w2 ⟨rfl, rfl⟩
    rw [HV.out]
    unfold Uni.val
    go_wp2_with fail
    refine (gis_no _ _ HP.out).mono ?_
    rintro e w2 ⟨rfl, rfl⟩
    go_wp2_with fail
    refine HU2.out.mono ?_
    rintro e w2 ⟨rfl, rfl⟩
    rw [HG.out]
    unfold Uni.val
    cases z with
    | false =>
     clear hy1
     go_wp2_with fail
     refine (HY.out _).mono ?_
     rintro e w2 ⟨rfl, rfl⟩
     go_wp2_with fail
     go_ret3
     exact ⟨by rw [HR.out]; rfl, rfl⟩
    | true =>
     obtain rfl : y = -1 := by rcases hy1 with h | h; cases h; exact h
     clear hy1
     go_wp2_with fail
     refine (HY.out _).mono ?_
     rintro e w2 ⟨rfl, rfl⟩
     go_wp2_with fail
     go_ret3
     exact ⟨by rw [HR.out]; rfl, rfl⟩
end Go.Proofs.YtgblenoaeanogaaGreatDoor
