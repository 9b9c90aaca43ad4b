/- The lexer's reader of a text: its contract. -/
import Derived.Test.YtnenipgpncomeaaDoorLexF
import Derived.Test.YtnenipgpncomeaaDoorLexH
import Derived.Test.YtnenipgpncomeaaDoorRefText
namespace Go.Proofs.YtnenipgpncomeaaDoor
open Go.RowKit
open Tk
open Pl
set_option linter.unusedVariables false

def quoteB : ByteArray := ⟨#[34]⟩
theorem quote_pre (s : ByteArray) (a : Nat) (ha : a ≤ s.size) : Lib.hasPrefix (s.extract a s.size).data.toList quoteB.data.toList = (bt s a == 34) := by
  rw [show (s.extract a s.size).data.toList = (s.data.toList.drop a).take (s.size - a) from sub_list s a s.size]
  rw [List.take_of_length_le (by rw [List.length_drop, size_toList]; exact Nat.le_refl _)]
  show List.isPrefixOf [34] _ = _
  by_cases h1 : a < s.size
  · rw [drop_cons h1, ← bt_at s a h1]
    simp only [List.isPrefixOf, Bool.and_true]
    by_cases h : s[a] = 34
    · rw [h]; rfl
    · have : s[a].toNat ≠ 34 := fun e => h (UInt8.toNat_inj.1 e)
      have h' : ¬ (34 : UInt8) = s[a] := fun e => h e.symm
      rw [beq_eq_false_iff_ne.2 this, beq_eq_false_iff_ne.2 h']
  · rw [List.drop_eq_nil_of_le (by rw [size_toList]; omega), bt_end (by omega)]
    rfl
theorem quote_any (s : ByteArray) (a : Nat) (ha : a ≤ s.size) (r : Bool) (h : (bt s a == 34) = r) (w : World) :
    Calls Tryd.prog 35 #[.string (s.extract a s.size), .string quoteB] w fun e w' => e = .returned (.bool r) ∧ w = w' := by
  have h2 := Tryd.strings_HasPrefix (s.extract a s.size) quoteB w
  rw [quote_pre s a ha, h] at h2
  exact h2.mono fun e w' ⟨a, b⟩ => ⟨a, b.symm⟩
theorem strAns_pts {s : ByteArray} {a : Nat} {l : List Int} {e : Nat} (h : str s (a + 1) [] = .pts l e) : strAns s a = .tok ⟨2, textOf l, 0, a, e⟩ := by unfold strAns; rw [h]
theorem strAns_bad {s : ByteArray} {a : Nat} {q : Nat} {c : Int} (h : str s (a + 1) [] = .bad q c) : strAns s a = .err q c := by unfold strAns; rw [h]
/-- an error's number isn't 0 -/
theorem chAt_err {s : ByteArray} {p q : Nat} {c : Int} (h : chAt s p = .bad q c) : c = 1 ∨ c = 2 ∨ c = 3 := by
  unfold chAt at h
  split at h
  · injection h with _ h; omega
  · split at h
    · unfold escCh at h
      split at h
      · cases h
      · split at h
        · unfold uniCh at h
          split at h
          · injection h with _ h; omega
          · split at h
            · cases h
            · split at h
              · cases h
              · injection h with _ h; omega
        · injection h with _ h; omega
    · unfold rawCh at h
      split at h
      · cases h
      · injection h with _ h; omega
theorem flat_snoc (l : List Int) (x : Int) : flat (l ++ [x]) = flat l ++ Lib.encodeRune x := by rw [flat_append]; simp [flat]
/-- a builder stays one where what lay lies -/
theorem bld_on {T e : TypeId} {B b : Nat} {l : List Value} {W W' : World} (h : Lib.IsBuilderF T e B b l W) (hb : Below W.heap.size W W') : Lib.IsBuilderF T e B b l W' := by
  have go : ∀ p, Lib.BuilderAtF T e B b p l W → Lib.BuilderAtF T e B b p l W' := by
    rintro p ⟨h0, v, hv, ho, hn⟩
    have hlt : b < W.heap.size := (Array.getElem?_eq_some_iff.1 hv).1
    refine ⟨h0, v, (hb.block b hlt).trans hv, ?_, hn⟩
    exact World.ownsRowF.kept ho (row := none) ⟨hb.os, hb.tape, hb.output, hb.size, fun k hk _ => hb.block k hk⟩ (Classical.em _)
  exact h.imp (go _) (go _)
set_option maxRecDepth 100000 in
set_option maxHeartbeats 8000000 in
theorem str_any5 (b : Nat) (s : ByteArray) (a : Nat) (w : World) (hs : s.size ≤ 90000) (hc : w.cell? ⟨b, 0, none⟩ = some (.string s)) (ha : a < s.size) : Calls Tryd.prog 27 #[.pointer (some ⟨b, 0, none⟩), .int .i64 a] w fun e w' => e = .returned (strAns s a).val ∧ Below w.heap.size w w' := by
  have hb := cell_lt5 hc
  have HP := Lib.hid (fun l e h => strAns_pts (s := s) (a := a) (l := l) (e := e) h)
  have HN := Lib.hid (fun q c h => strAns_bad (s := s) (a := a) (q := q) (c := c) h)
  generalize hfr : str s (a + 1) [] = fr at *
  have HF := Lib.hid hfr
  generalize strAns s a = res at *
  clear hfr
  go_enter Tryd.func27, Tryd.ntmps27
  go_upto_region 2 with fail
  have hB : Blk (w.alloc (.cells #[.int .i64 0, .string ⟨#[]⟩, .int .i64 0, .int .i64 0, .int .i64 0] 28)) w.heap.size 28 #[.int .i64 0, .string ⟨#[]⟩, .int .i64 0, .int .i64 0, .int .i64 0] := Blk.new w _ _
  have hW : Below w.heap.size w (w.alloc (.cells #[.int .i64 0, .string ⟨#[]⟩, .int .i64 0, .int .i64 0, .int .i64 0] 28)) := (Below.refl _ _).alloc (Nat.le_refl _) _
  have hsz : (w.alloc (.cells #[.int .i64 0, .string ⟨#[]⟩, .int .i64 0, .int .i64 0, .int .i64 0] 28)).heap.size = w.heap.size + 1 := by simp
  rw [← hsz]
  change Code.wp _ _ _ _ ((w.alloc (.cells #[.int .i64 0, .string ⟨#[]⟩, .int .i64 0, .int .i64 0, .int .i64 0] 28)).alloc _)
  generalize (w.alloc (.cells #[.int .i64 0, .string ⟨#[]⟩, .int .i64 0, .int .i64 0, .int .i64 0] 28)) = W at *
  have HW := Lib.hid hW
  have HB := Lib.hid hB
  have HSZ := Lib.hid hsz
  have hcW : W.cell? ⟨b, 0, none⟩ = some (.string s) := (hW.cell (p := ⟨b, 0, none⟩) hb).trans hc
  have HC := Lib.hid hcW
  have Hb0 := Lib.hid (Lib.IsBuilderF.of (Lib.fresh_isBuilder 72 5 W))
  have hbW : b < W.heap.size := by omega
  generalize hG : w.heap.size = G at *
  have HGW := Lib.hid hG
  clear hB hW hsz hc hcW hG
  go_wp2_with fail
  go_loopw [8] (fun i wr => ∃ (p : Nat) (l : List Int), p ≤ s.size ∧ l.length ≤ p ∧ i = .int .i64 p ∧ str s p l = fr ∧ Lib.IsBuilderF 72 5 W.heap.size W.heap.size (Lib.byteCells (flat l)) wr ∧ Below W.heap.size W wr) (fun i _ => s.size + 1 - (intOf i).toNat)
  case atStart => exact ⟨a + 1, [], ha, by simp, by go_num, HF.out, Hb0.out, (Below.refl _ _).alloc (Nat.le_refl _) _⟩
  case round =>
    obtain ⟨p, l, hp, hl, rfl, hst, hI, hbel⟩ := hrel
    have HST := Lib.hid hst
    have HI := Lib.hid hI
    have Hbel := Lib.hid hbel
    have hcr : wr.cell? ⟨b, 0, none⟩ = some (.string s) := (hbel.cell (p := ⟨b, 0, none⟩) hbW).trans HC.out
    have Hcr := Lib.hid hcr
    have i1 : (p : Int) ≤ (s.size : Int) := by omega
    have i2 : (0 : Int) ≤ (p : Int) := by omega
    have hfl : (flat l).length ≤ 400000 := by
      have h1 := len4 l
      omega
    clear hst hI hbel
    by_cases h34 : bt s p = 34
    · have HE := Lib.hid (HP.out l (p + 1) (by rw [← HST.out, str_end hp h34]))
      have HQ := Lib.hid (beq_iff_eq.2 h34)
      have Hsz := Lib.hid (show W.heap.size ≤ wr.heap.size from Hbel.out.size)
      clear h34
      go_wp2_with fail
      refine (quote_any s p hp true HQ.out _).mono ?_
      rintro e w2 ⟨rfl, rfl⟩
      go_wp2_with fail
      refine (Tryd.Builder_String_any_k W.heap.size W.heap.size (flat l) _ HI.out Hsz.out).mono ?_
      rintro e w3 ⟨rfl, _, b1, _⟩
      have hb3 := Hbel.out.trans b1
      have HW3 := Lib.hid (HW.out.trans (hb3.mono (show G ≤ W.heap.size by have := HSZ.out; omega)))
      have hB3 := HB.out.onto hb3
      have c0 := hB3.cell 0
      have c1 := hB3.cell 1
      have c2 := hB3.cell 2
      have c3 := hB3.cell 3
      have c4 := hB3.cell 4
      have f0 := hB3.free 0
      have f1 := hB3.free 1
      have f2 := hB3.free 2
      have f3 := hB3.free 3
      have f4 := hB3.free 4
      clear b1 hb3 hB3
      go_wp2_with fail
      refine bodyPost_ret (v := (Ans.tok ⟨2, textOf l, 0, a, p + 1⟩).val) (by simp [results, Tryd.results27, go_sem, Ans.val, textOf, c0, c1, c2, c3, c4]) rfl ⟨by rw [HE.out], ?_⟩
      exact (below_put5 HW3.out (Nat.le_refl G) _ _ _ _ _).mono (Nat.le_of_eq HGW.out)
    · have HQ := Lib.hid (beq_eq_false_iff_ne.2 h34)
      have HX := Lib.hid (character_any5 b s p wr (by omega) hcr hp)
      cases hch : chAt s p with
      | bad q c =>
        rw [hch] at HX
        have HE := Lib.hid (HN.out q c (by rw [← HST.out, str_bad hp h34 hch]))
        have hcc := chAt_err hch
        have v1 : (c != 0) = true := by rw [bne_iff_ne]; omega
        have v2 : ¬ c = 0 := by omega
        clear h34 hch hcc
        go_wp2_with fail
        refine (quote_any s p hp false HQ.out _).mono ?_
        rintro e w2 ⟨rfl, rfl⟩
        go_wp2_with fail
        refine HX.out.mono ?_
        rintro e w2 ⟨rfl, b1⟩
        have hb3 := Hbel.out.trans (b1.mono Hbel.out.size)
        have HW3 := Lib.hid (HW.out.trans (hb3.mono (show G ≤ W.heap.size by have := HSZ.out; omega)))
        have hB3 := HB.out.onto hb3
        have c0 := hB3.cell 0
        have c1 := hB3.cell 1
        have c2 := hB3.cell 2
        have c3 := hB3.cell 3
        have c4 := hB3.cell 4
        have f0 := hB3.free 0
        have f1 := hB3.free 1
        have f2 := hB3.free 2
        have f3 := hB3.free 3
        have f4 := hB3.free 4
        clear b1 hb3 hB3 HX
        unfold Ch.val
        go_wp2_with fail
        refine bodyPost_ret (v := (Ans.err q c).val) (by simp [results, Tryd.results27, go_sem, Ans.val, c0, c1, c2, c3, c4]) rfl ⟨by rw [HE.out], ?_⟩
        exact (below_put5 HW3.out (Nat.le_refl G) _ _ _ _ _).mono (Nat.le_of_eq HGW.out)
      | pt n e =>
        rw [hch] at HX
        have hcp := chAt_pt hch
        have hpt := (pt_iff n).1 hcp.1
        have hx0 : 0 ≤ n := by omega
        have hx1 : n ≤ 1114111 := by omega
        have he1 := hcp.2.1
        have he2 := hcp.2.2
        have HS := Lib.hid (show str s e (l ++ [n]) = fr by rw [← HST.out, str_pt hp h34 hch])
        clear h34 hch hcp hpt
        go_wp2_with fail
        refine (quote_any s p hp false HQ.out _).mono ?_
        rintro e0 w2 ⟨rfl, rfl⟩
        go_wp2_with fail
        refine HX.out.mono ?_
        rintro e0 w2 ⟨rfl, b1⟩
        have hb3 := Hbel.out.trans (b1.mono Hbel.out.size)
        have HB3 := Lib.hid hb3
        have Hsz := Lib.hid hb3.size
        have HI2 := Lib.hid (bld_on HI.out b1)
        clear b1 hb3 HX
        unfold Ch.val
        go_wp2_with fail
        refine (Tryd.Builder_WriteRune_k W.heap.size W.heap.size _ n (by omega) (by omega) _ HI2.out (by rw [Lib.byteCells_length]; omega) Hsz.out).mono ?_
        rintro e0 w4 ⟨rfl, h1, b2, k1⟩
        have H1 := Lib.hid h1
        have B1 := Lib.hid (HB3.out.trans b2)
        clear h1 b2 k1
        go_wp2_with fail
        go_roundw
        case rel =>
          refine ⟨e, l ++ [n], he2, by rw [List.length_append, List.length_singleton]; omega, rfl, HS.out, ?_, B1.out⟩
          rw [flat_snoc, Lib.byteCells_append, Lib.byteCells_encodeRune]
          exact Or.inr H1.out
        case measure => simp [intOf]; omega
end Go.Proofs.YtnenipgpncomeaaDoor
