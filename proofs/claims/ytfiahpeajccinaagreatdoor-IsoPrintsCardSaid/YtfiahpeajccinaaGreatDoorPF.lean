/- The lexer's reader of a text: its contract. The lexer's Next: its contract. Isos' parser: what stands behind bytes of a kind. Isos' parser: the number behind a name. Isos' parser: one iso. Rows of isos that grow. Isos' parser: isos, with a bar between each two. Isos' parser: what begins at a place. Isos' parser: the fixed text. -/
import Derived.Deep.DeepCutAuto
import Derived.Test.YtfiahpeajccinaaGreatDoorPE
import Derived.Test.YtfiahpeajccinaaGreatDoorPD
import Derived.Test.YtfiahpeajccinaaGreatDoorPA
import Derived.Deep.RegionLaw
import Derived.Test.YtfiahpeajccinaaGreatDoorPG
namespace Go.Proofs.YtfiahpeajccinaaGreatDoor
open Go.RowKit
open Tk
open Pl
set_option linter.unusedVariables false

def quoteB : ByteArray := ⟨#[34]⟩
theorem quote_pre (s : ByteArray) (a : Nat) (ha : a ≤ s.size) : Lib.hasPrefix (s.extract a s.size).data.toList quoteB.data.toList = (bt s a == 34) := by
  rw [show (s.extract a s.size).data.toList = (s.data.toList.drop a).take (s.size - a) from sub_list s a s.size]
  rw [List.take_of_length_le (by rw [List.length_drop, size_toList]; exact Nat.le_refl _)]
  show List.isPrefixOf [34] _ = _
  by_cases h1 : a < s.size
  · rw [drop_cons h1, ← bt_at s a h1]
    simp only [List.isPrefixOf, Bool.and_true]
    by_cases h : s[a] = 34
    · rw [h]; rfl
    · have : s[a].toNat ≠ 34 := fun e => h (UInt8.toNat_inj.1 e)
      have h' : ¬ (34 : UInt8) = s[a] := fun e => h e.symm
      rw [beq_eq_false_iff_ne.2 this, beq_eq_false_iff_ne.2 h']
  · rw [List.drop_eq_nil_of_le (by rw [size_toList]; omega), bt_end (by omega)]
    rfl
theorem quote_any (s : ByteArray) (a : Nat) (ha : a ≤ s.size) (r : Bool) (h : (bt s a == 34) = r) (w : World) :
    Calls Tryz.prog 61 #[.string (s.extract a s.size), .string quoteB] w fun e w' => e = .returned (.bool r) ∧ w = w' := by
  have h2 := Tryz.strings_HasPrefix (s.extract a s.size) quoteB w
  rw [quote_pre s a ha, h] at h2
  exact h2.mono fun e w' ⟨a, b⟩ => ⟨a, b.symm⟩
theorem strAns_pts {s : ByteArray} {a : Nat} {l : List Int} {e : Nat} (h : str s (a + 1) [] = .pts l e) : strAns s a = .tok ⟨2, textOf l, 0, a, e⟩ := by unfold strAns; rw [h]
theorem strAns_bad {s : ByteArray} {a : Nat} {q : Nat} {c : Int} (h : str s (a + 1) [] = .bad q c) : strAns s a = .err q c := by unfold strAns; rw [h]
/-- an error's number isn't 0 -/
theorem chAt_err {s : ByteArray} {p q : Nat} {c : Int} (h : chAt s p = .bad q c) : c = 1 ∨ c = 2 ∨ c = 3 := by
  unfold chAt at h
  split at h
  · injection h with _ h; omega
  · split at h
    · unfold escCh at h
      split at h
      · cases h
      · split at h
        · unfold uniCh at h
          split at h
          · injection h with _ h; omega
          · split at h
            · cases h
            · split at h
              · cases h
              · injection h with _ h; omega
        · injection h with _ h; omega
    · unfold rawCh at h
      split at h
      · cases h
      · injection h with _ h; omega
theorem flat_snoc (l : List Int) (x : Int) : flat (l ++ [x]) = flat l ++ Lib.encodeRune x := by rw [flat_append]; simp [flat]
/-- a builder stays one where what lay lies -/
theorem bld_on {T e : TypeId} {B b : Nat} {l : List Value} {W W' : World} (h : Lib.IsBuilderF T e B b l W) (hb : Below W.heap.size W W') : Lib.IsBuilderF T e B b l W' := by
  have go : ∀ p, Lib.BuilderAtF T e B b p l W → Lib.BuilderAtF T e B b p l W' := by
    rintro p ⟨h0, v, hv, ho, hn⟩
    have hlt : b < W.heap.size := (Array.getElem?_eq_some_iff.1 hv).1
    refine ⟨h0, v, (hb.block b hlt).trans hv, ?_, hn⟩
    exact World.ownsRowF.kept ho (row := none) ⟨hb.os, hb.tape, hb.output, hb.size, fun k hk _ => hb.block k hk⟩ (Classical.em _)
  exact h.imp (go _) (go _)
set_option maxRecDepth 100000 in
set_option maxHeartbeats 8000000 in
theorem str_any5 (b : Nat) (s : ByteArray) (a : Nat) (w : World) (hs : s.size ≤ 90000) (hc : w.cell? ⟨b, 0, none⟩ = some (.string s)) (ha : a < s.size) : Calls Tryz.prog 172 #[.pointer (some ⟨b, 0, none⟩), .int .i64 a] w fun e w' => e = .returned (strAns s a).val ∧ Below w.heap.size w w' := by
  have hb := cell_lt5 hc
  have HP := Lib.hid (fun l e h => strAns_pts (s := s) (a := a) (l := l) (e := e) h)
  have HN := Lib.hid (fun q c h => strAns_bad (s := s) (a := a) (q := q) (c := c) h)
  generalize hfr : str s (a + 1) [] = fr at *
  have HF := Lib.hid hfr
  generalize strAns s a = res at *
  clear hfr
  go_enter Tryz.func172, Tryz.ntmps172
  go_upto_region 2 with fail
  have hB : Blk (w.alloc (.cells #[.int .i64 0, .string ⟨#[]⟩, .int .i64 0, .int .i64 0, .int .i64 0] 168)) w.heap.size 168 #[.int .i64 0, .string ⟨#[]⟩, .int .i64 0, .int .i64 0, .int .i64 0] := Blk.new w _ _
  have hW : Below w.heap.size w (w.alloc (.cells #[.int .i64 0, .string ⟨#[]⟩, .int .i64 0, .int .i64 0, .int .i64 0] 168)) := (Below.refl _ _).alloc (Nat.le_refl _) _
  have hsz : (w.alloc (.cells #[.int .i64 0, .string ⟨#[]⟩, .int .i64 0, .int .i64 0, .int .i64 0] 168)).heap.size = w.heap.size + 1 := by simp
  rw [← hsz]
  change Code.wp _ _ _ _ ((w.alloc (.cells #[.int .i64 0, .string ⟨#[]⟩, .int .i64 0, .int .i64 0, .int .i64 0] 168)).alloc _)
  generalize (w.alloc (.cells #[.int .i64 0, .string ⟨#[]⟩, .int .i64 0, .int .i64 0, .int .i64 0] 168)) = W at *
  have HW := Lib.hid hW
  have HB := Lib.hid hB
  have HSZ := Lib.hid hsz
  have hcW : W.cell? ⟨b, 0, none⟩ = some (.string s) := (hW.cell (p := ⟨b, 0, none⟩) hb).trans hc
  have HC := Lib.hid hcW
  have Hb0 := Lib.hid (Lib.IsBuilderF.of (Lib.fresh_isBuilder 74 5 W))
  have hbW : b < W.heap.size := by omega
  generalize hG : w.heap.size = G at *
  have HGW := Lib.hid hG
  clear hB hW hsz hc hcW hG
  go_wp2_with fail
  go_loopw [8] (fun i wr => ∃ (p : Nat) (l : List Int), p ≤ s.size ∧ l.length ≤ p ∧ i = .int .i64 p ∧ str s p l = fr ∧ Lib.IsBuilderF 74 5 W.heap.size W.heap.size (Lib.byteCells (flat l)) wr ∧ Below W.heap.size W wr) (fun i _ => s.size + 1 - (intOf i).toNat)
  case atStart => exact ⟨a + 1, [], ha, by simp, by go_num, HF.out, Hb0.out, (Below.refl _ _).alloc (Nat.le_refl _) _⟩
  case round =>
    obtain ⟨p, l, hp, hl, rfl, hst, hI, hbel⟩ := hrel
    have HST := Lib.hid hst
    have HI := Lib.hid hI
    have Hbel := Lib.hid hbel
    have hcr : wr.cell? ⟨b, 0, none⟩ = some (.string s) := (hbel.cell (p := ⟨b, 0, none⟩) hbW).trans HC.out
    have Hcr := Lib.hid hcr
    have i1 : (p : Int) ≤ (s.size : Int) := by omega
    have i2 : (0 : Int) ≤ (p : Int) := by omega
    have hfl : (flat l).length ≤ 400000 := by
      have h1 := len4 l
      omega
    clear hst hI hbel
    by_cases h34 : bt s p = 34
    · have HE := Lib.hid (HP.out l (p + 1) (by rw [← HST.out, str_end hp h34]))
      have HQ := Lib.hid (beq_iff_eq.2 h34)
      have Hsz := Lib.hid (show W.heap.size ≤ wr.heap.size from Hbel.out.size)
      clear h34
      go_wp2_with fail
      refine (quote_any s p hp true HQ.out _).mono ?_
      rintro e w2 ⟨rfl, rfl⟩
      go_wp2_with fail
      refine (Tryz.Builder_String_any_k W.heap.size W.heap.size (flat l) _ HI.out Hsz.out).mono ?_
      rintro e w3 ⟨rfl, _, b1, _⟩
      have hb3 := Hbel.out.trans b1
      have HW3 := Lib.hid (HW.out.trans (hb3.mono (show G ≤ W.heap.size by have := HSZ.out; omega)))
      have hB3 := HB.out.onto hb3
      have c0 := hB3.cell 0
      have c1 := hB3.cell 1
      have c2 := hB3.cell 2
      have c3 := hB3.cell 3
      have c4 := hB3.cell 4
      have f0 := hB3.free 0
      have f1 := hB3.free 1
      have f2 := hB3.free 2
      have f3 := hB3.free 3
      have f4 := hB3.free 4
      clear b1 hb3 hB3
      go_wp2_with fail
      refine bodyPost_ret (v := (Ans.tok ⟨2, textOf l, 0, a, p + 1⟩).val) (by simp [results, Tryz.results172, go_sem, Ans.val, textOf, c0, c1, c2, c3, c4]) rfl ⟨by rw [HE.out], ?_⟩
      exact (below_put5 HW3.out (Nat.le_refl G) _ _ _ _ _).mono (Nat.le_of_eq HGW.out)
    · have HQ := Lib.hid (beq_eq_false_iff_ne.2 h34)
      have HX := Lib.hid (character_any5 b s p wr (by omega) hcr hp)
      cases hch : chAt s p with
      | bad q c =>
        rw [hch] at HX
        have HE := Lib.hid (HN.out q c (by rw [← HST.out, str_bad hp h34 hch]))
        have hcc := chAt_err hch
        have v1 : (c != 0) = true := by rw [bne_iff_ne]; omega
        have v2 : ¬ c = 0 := by omega
        clear h34 hch hcc
        go_wp2_with fail
        refine (quote_any s p hp false HQ.out _).mono ?_
        rintro e w2 ⟨rfl, rfl⟩
        go_wp2_with fail
        refine HX.out.mono ?_
        rintro e w2 ⟨rfl, b1⟩
        have hb3 := Hbel.out.trans (b1.mono Hbel.out.size)
        have HW3 := Lib.hid (HW.out.trans (hb3.mono (show G ≤ W.heap.size by have := HSZ.out; omega)))
        have hB3 := HB.out.onto hb3
        have c0 := hB3.cell 0
        have c1 := hB3.cell 1
        have c2 := hB3.cell 2
        have c3 := hB3.cell 3
        have c4 := hB3.cell 4
        have f0 := hB3.free 0
        have f1 := hB3.free 1
        have f2 := hB3.free 2
        have f3 := hB3.free 3
        have f4 := hB3.free 4
        clear b1 hb3 hB3 HX
        unfold Ch.val
        go_wp2_with fail
        refine bodyPost_ret (v := (Ans.err q c).val) (by simp [results, Tryz.results172, go_sem, Ans.val, c0, c1, c2, c3, c4]) rfl ⟨by rw [HE.out], ?_⟩
        exact (below_put5 HW3.out (Nat.le_refl G) _ _ _ _ _).mono (Nat.le_of_eq HGW.out)
      | pt n e =>
        rw [hch] at HX
        have hcp := chAt_pt hch
        have hpt := (pt_iff n).1 hcp.1
        have hx0 : 0 ≤ n := by omega
        have hx1 : n ≤ 1114111 := by omega
        have he1 := hcp.2.1
        have he2 := hcp.2.2
        have HS := Lib.hid (show str s e (l ++ [n]) = fr by rw [← HST.out, str_pt hp h34 hch])
        clear h34 hch hcp hpt
        go_wp2_with fail
        refine (quote_any s p hp false HQ.out _).mono ?_
        rintro e0 w2 ⟨rfl, rfl⟩
        go_wp2_with fail
        refine HX.out.mono ?_
        rintro e0 w2 ⟨rfl, b1⟩
        have hb3 := Hbel.out.trans (b1.mono Hbel.out.size)
        have HB3 := Lib.hid hb3
        have Hsz := Lib.hid hb3.size
        have HI2 := Lib.hid (bld_on HI.out b1)
        clear b1 hb3 HX
        unfold Ch.val
        go_wp2_with fail
        refine (Tryz.Builder_WriteRune_k W.heap.size W.heap.size _ n (by omega) (by omega) _ HI2.out (by rw [Lib.byteCells_length]; omega) Hsz.out).mono ?_
        rintro e0 w4 ⟨rfl, h1, b2, k1⟩
        have H1 := Lib.hid h1
        have B1 := Lib.hid (HB3.out.trans b2)
        clear h1 b2 k1
        go_wp2_with fail
        go_roundw
        case rel =>
          refine ⟨e, l ++ [n], he2, by rw [List.length_append, List.length_singleton]; omega, rfl, HS.out, ?_, B1.out⟩
          rw [flat_snoc, Lib.byteCells_append, Lib.byteCells_encodeRune]
          exact Or.inr H1.out
        case measure => simp [intOf]; omega
end Go.Proofs.YtfiahpeajccinaaGreatDoor
namespace Go.Proofs.YtfiahpeajccinaaGreatDoor
open Go.RowKit
open Tk
open Pl
set_option linter.unusedVariables false

/-- all but the block b is kept -/
structure Aside (b : Nat) (w w' : World) : Prop where
  os : w'.os = w.os
  tape : w'.tape = w.tape
  output : w'.output = w.output
  size : w.heap.size ≤ w'.heap.size
  block : ∀ k, k < w.heap.size → k ≠ b → w'.heap[k]? = w.heap[k]?
theorem Aside.of {b : Nat} {w w' : World} (h : Below w.heap.size w w') : Aside b w w' := ⟨h.os, h.tape, h.output, h.size, fun k hk _ => h.block k hk⟩
theorem Aside.set {b o : Nat} {w w' : World} (h : Aside b w w') (v : Value) : Aside b w (w'.setCell ⟨b, o, none⟩ v) :=
  ⟨h.os, h.tape, h.output, by simpa [World.setCell] using h.size, fun k hk hne => (Below.heap_setCell w' ⟨b, o, none⟩ v k hne).trans (h.block k hk hne)⟩
theorem Aside.far {b g o : Nat} {w w' : World} (h : Aside b w w') (hg : w.heap.size ≤ g) (v : Value) : Aside b w (w'.setCell ⟨g, o, none⟩ v) :=
  ⟨h.os, h.tape, h.output, by simpa [World.setCell] using h.size, fun k hk hne => (Below.heap_setCell w' ⟨g, o, none⟩ v k (by show k ≠ g; omega)).trans (h.block k hk hne)⟩
theorem Aside.put5 {b g : Nat} {w w' : World} (h : Aside b w w') (hg : w.heap.size ≤ g) (v0 v1 v2 v3 v4 : Value) :
    Aside b w (((((w'.setCell ⟨g, 0, none⟩ v0).setCell ⟨g, 1, none⟩ v1).setCell ⟨g, 2, none⟩ v2).setCell ⟨g, 3, none⟩ v3).setCell ⟨g, 4, none⟩ v4) :=
  ((((h.far hg v0).far hg v1).far hg v2).far hg v3).far hg v4
theorem Aside.below {b B : Nat} {w0 w w' : World} (h : Aside b w w') (hb : Below B w0 w) (h1 : B ≤ b) (h2 : B ≤ w.heap.size) : Below B w0 w' :=
  hb.trans ⟨h.os, h.tape, h.output, h.size, fun k hk => h.block k (by omega) (by omega)⟩
theorem Blk.put5 {w : World} {g k : Nat} {t : TypeId} {cs : Array Value} (h : Blk w g t cs) (hg : g ≠ k) (v0 v1 v2 v3 v4 : Value) :
    Blk (((((w.setCell ⟨k, 0, none⟩ v0).setCell ⟨k, 1, none⟩ v1).setCell ⟨k, 2, none⟩ v2).setCell ⟨k, 3, none⟩ v3).setCell ⟨k, 4, none⟩ v4) g t cs :=
  ((((h.far (p := ⟨k, 0, none⟩) hg v0).far (p := ⟨k, 1, none⟩) hg v1).far (p := ⟨k, 2, none⟩) hg v2).far (p := ⟨k, 3, none⟩) hg v3).far (p := ⟨k, 4, none⟩) hg v4
/-- a lexer of s, at i -/
def Lx (w : World) (b : Nat) (s : ByteArray) (i : Nat) : Prop := Blk w b 190 #[.string s, .int .i64 i]
def Tk.placeOf (s : ByteArray) (i : Nat) : Nat := match next s i with | .tok t => t.fin | .err _ _ => i
theorem err_num (s : ByteArray) (a p : Nat) (c : Int) (h : ansAt s a = .err p c) : c = 1 ∨ c = 2 ∨ c = 3 ∨ c = 4 := by
  unfold ansAt at h
  split at h
  · cases h
  · split at h
    · cases h
    · split at h
      · have hstr : ∀ n p acc, strF s n p acc = .bad p c ∨ True := fun _ _ _ => .inr trivial
        unfold strAns at h
        split at h
        · cases h
        · rename_i q c' hq
          injection h with h1 h2
          subst h1 h2
          have key : ∀ n p acc q c, strF s n p acc = .bad q c → c = 1 ∨ c = 2 ∨ c = 3 := by
            intro n
            induction n with
            | zero => intro p acc q c h; unfold strF at h; injection h with _ h; omega
            | succ n ih =>
              intro p acc q c h
              unfold strF at h
              split at h
              · cases h
              · split at h
                · exact ih _ _ _ _ h
                · rename_i q' c' hc
                  injection h with _ h
                  subst h
                  exact chAt_err hc
          have := key _ _ _ _ _ hq
          omega
      · split at h
        · unfold numAns at h
          repeat' split at h
          all_goals first | (injection h with _ h; omega) | cases h
        · split at h
          · unfold wordAns at h
            split at h
            · cases h
            · injection h with _ h; omega
          · injection h with _ h; omega
/-- the reader that is chosen reads the token -/
theorem rd_any (b : Nat) (s : ByteArray) (a : Nat) (hs : s.size ≤ 90000) (ha : a ≤ s.size) :
    ∃ f, rdOf s a = .func (.func f) #[] #[] ∧ (∀ args w, (callFunc f args).run Tryz.prog w = .ok (.enter f args) w) ∧ ∀ w : World, w.cell? ⟨b, 0, none⟩ = some (.string s) → RangeErr w → Calls Tryz.prog f #[.pointer (some ⟨b, 0, none⟩), .int .i64 a] w fun e w' => e = .returned (ansAt s a).val ∧ Below w.heap.size w w' := by
  unfold rdOf ansAt
  split
  · exact ⟨_, rfl, Go.Proofs.enters_of Tryz.func170 (by kernel_rfl) rfl, fun w _ _ => end_any5 b a w⟩
  · rename_i h1
    have hl : a < s.size := by omega
    split
    · exact ⟨_, rfl, Go.Proofs.enters_of Tryz.func171 (by kernel_rfl) rfl, fun w hc _ => mark_any5 b s a w (by omega) hc hl⟩
    · split
      · exact ⟨_, rfl, Go.Proofs.enters_of Tryz.func172 (by kernel_rfl) rfl, fun w hc _ => str_any5 b s a w hs hc hl⟩
      · split
        · exact ⟨_, rfl, Go.Proofs.enters_of Tryz.func173 (by kernel_rfl) rfl, fun w hc hr => num_any5 b s a w hs hc ha hr⟩
        · split
          · rename_i h2
            exact ⟨_, rfl, Go.Proofs.enters_of Tryz.func174 (by kernel_rfl) rfl, fun w hc _ => word_any5 b s a w hs hc hl h2⟩
          · exact ⟨_, rfl, Go.Proofs.enters_of Tryz.func175 (by kernel_rfl) rfl, fun w _ _ => nothing_any5 b a w⟩
set_option maxRecDepth 100000 in
set_option maxHeartbeats 8000000 in
theorem next_any5 (b : Nat) (s : ByteArray) (i : Nat) (w : World) (hs : s.size ≤ 90000) (hl : Lx w b s i) (hi : i ≤ s.size) (hr : RangeErr w) :
    Calls Tryz.prog 126 #[.pointer (some ⟨b, 0, none⟩)] w fun e w' => e = .returned (next s i).val ∧ Aside b w w' ∧ Lx w' b s (placeOf s i) := by
  have hb : b < w.heap.size := hl.lt
  have hq := span_le isBl hi
  obtain ⟨f, hf, hen, hcall⟩ := rd_any b s (span isBl s i) hs hq
  have HF := Lib.hid hf
  have HK := Lib.hid hcall
  have HNX := Lib.hid (show next s i = ansAt s (span isBl s i) from rfl)
  have HPL := Lib.hid (show placeOf s i = match ansAt s (span isBl s i) with | .tok t => t.fin | .err _ _ => i from rfl)
  have HEN := Lib.hid (fun p c h => err_num s (span isBl s i) p c h)
  have HBL := Lib.hid (fun w h1 h2 => blanks_any5 b s i w (by omega) h1 h2 hi)
  have HRD := Lib.hid (fun w h1 => reader_any5 b s (span isBl s i) w (by omega) h1 hq)
  generalize span isBl s i = q at *
  generalize hans : ansAt s q = ans at *
  generalize next s i = nx at *
  generalize placeOf s i = pl at *
  generalize rdOf s q = rd at *
  clear hf hcall hans
  go_enter Tryz.func126, Tryz.ntmps126
  go_upto_region 1 with fail
  have hB : Blk (w.alloc (.cells #[.int .i64 0, .string ⟨#[]⟩, .int .i64 0, .int .i64 0, .int .i64 0] 168)) w.heap.size 168 #[.int .i64 0, .string ⟨#[]⟩, .int .i64 0, .int .i64 0, .int .i64 0] := Blk.new w _ _
  have hW : Below w.heap.size w (w.alloc (.cells #[.int .i64 0, .string ⟨#[]⟩, .int .i64 0, .int .i64 0, .int .i64 0] 168)) := (Below.refl _ _).alloc (Nat.le_refl _) _
  change Code.wp _ _ _ _ (w.alloc (.cells #[.int .i64 0, .string ⟨#[]⟩, .int .i64 0, .int .i64 0, .int .i64 0] 168))
  generalize (w.alloc (.cells #[.int .i64 0, .string ⟨#[]⟩, .int .i64 0, .int .i64 0, .int .i64 0] 168)) = W at *
  have hlW : Lx W b s i := hl.on hW hb
  have HW := Lib.hid hW
  have HB := Lib.hid hB
  have HR := Lib.hid (hr.on hW)
  have HL := Lib.hid hlW
  have hbW : b < W.heap.size := hlW.lt
  have hGW : w.heap.size < W.heap.size := hB.lt
  generalize hG : w.heap.size = G at *
  have HG := Lib.hid hG
  clear hB hW hr hl hlW hG
  go_wp2_with fail
  refine (HBL.out _ (HL.out.cell 0) (HL.out.cell 1)).mono ?_
  rintro e w2 ⟨rfl, hb2⟩
  have H2 := Lib.hid hb2
  have HL2 := Lib.hid (show Lx w2 b s i from HL.out.onto hb2)
  clear hb2
  go_wp2_with fail
  refine (HRD.out _ (HL2.out.cell 0)).mono ?_
  rintro e w3 ⟨rfl, rfl⟩
  rw [HF.out]
  go_wp2_with fail
  refine (HK.out _ (HL2.out.cell 0) (HR.out.on H2.out)).mono ?_
  rintro e w4 ⟨rfl, hb4⟩
  have h24 := H2.out.trans (hb4.mono H2.out.size)
  have H4 := Lib.hid (HW.out.trans (h24.mono (show G ≤ W.heap.size by omega)))
  have HL4 := Lib.hid (show Lx w4 b s i from HL2.out.onto hb4)
  have HB4 := Lib.hid (HB.out.onto h24)
  have hG4 : G < w4.heap.size := HB4.out.lt
  clear hb4 h24
  cases ans with
  | err p c =>
    have hc0 := HEN.out p c rfl
    have v1 : (c != 0) = true := by rw [bne_iff_ne]; omega
    have v2 : ¬ c = 0 := by omega
    unfold Ans.val
    go_upto_region 5 with fail
    have hb5 : Below w4.heap.size w4 (w4.alloc (.cells #[.int .i64 0, .string ⟨#[]⟩, .int .i64 0, .int .i64 0, .int .i64 0] 168)) := (Below.refl _ _).alloc (Nat.le_refl _) _
    change Code.wp _ _ _ _ (w4.alloc (.cells #[.int .i64 0, .string ⟨#[]⟩, .int .i64 0, .int .i64 0, .int .i64 0] 168))
    generalize (w4.alloc (.cells #[.int .i64 0, .string ⟨#[]⟩, .int .i64 0, .int .i64 0, .int .i64 0] 168)) = W5 at *
    have HLA := Lib.hid (show Lx W5 b s i from HL4.out.onto hb5)
    have hB5 := HB4.out.onto hb5
    have HA4 := Lib.hid (show Aside b w W5 from Aside.of ((H4.out.trans (hb5.mono (show G ≤ w4.heap.size by omega))).mono (Nat.le_of_eq HG.out)))
    have hGb : G ≠ b := by omega
    have c0 := hB5.cell 0
    have c1 := hB5.cell 1
    have c2 := hB5.cell 2
    have c3 := hB5.cell 3
    have c4 := hB5.cell 4
    have f0 := hB5.free 0
    have f1 := hB5.free 1
    have f2 := hB5.free 2
    have f3 := hB5.free 3
    have f4 := hB5.free 4
    clear hB5 hc0 hb5
    go_wp2_with fail
    refine bodyPost_ret (v := (Ans.err p c).val) (by simp [results, Tryz.results126, go_sem, Ans.val, c0, c1, c2, c3, c4]) rfl ⟨by rw [HNX.out], ?_, ?_⟩
    · exact (HA4.out.put5 (Nat.le_of_eq HG.out) _ _ _ _ _)
    · rw [HPL.out]
      exact HLA.out.put5 (by omega) _ _ _ _ _
  | tok t =>
    unfold Ans.val
    go_upto_region 6 with fail
    have hb5 : Below w4.heap.size w4 (w4.alloc (.cells #[.int .i64 t.kind, .string t.text, .int .i64 t.num, .int .i64 t.at_, .int .i64 t.fin] 168)) := (Below.refl _ _).alloc (Nat.le_refl _) _
    have hK5 : Blk (w4.alloc (.cells #[.int .i64 t.kind, .string t.text, .int .i64 t.num, .int .i64 t.at_, .int .i64 t.fin] 168)) w4.heap.size 168 #[.int .i64 t.kind, .string t.text, .int .i64 t.num, .int .i64 t.at_, .int .i64 t.fin] := Blk.new w4 _ _
    change Code.wp _ _ _ _ (w4.alloc (.cells #[.int .i64 t.kind, .string t.text, .int .i64 t.num, .int .i64 t.at_, .int .i64 t.fin] 168))
    generalize (w4.alloc (.cells #[.int .i64 t.kind, .string t.text, .int .i64 t.num, .int .i64 t.at_, .int .i64 t.fin] 168)) = W5 at *
    have HL5 := Lib.hid (show Lx W5 b s i from HL4.out.onto hb5)
    have HB5 := Lib.hid (HB4.out.onto hb5)
    have hbK : b < w4.heap.size := HL4.out.lt
    have H5 := Lib.hid (H4.out.trans (hb5.mono (show G ≤ w4.heap.size by omega)))
    generalize w4.heap.size = K at *
    have HK5 := Lib.hid hK5
    have g0 := hK5.cell 0
    have g1 := hK5.cell 1
    have g2 := hK5.cell 2
    have g3 := hK5.cell 3
    have g4 := hK5.cell 4
    have l1 := HL5.out.cell 1
    have m1 := HL5.out.free 1
    clear hb5 hK5
    go_upto_region 7 with fail
    have hK6 := HK5.out.far (p := ⟨b, 1, none⟩) (by show K ≠ b; omega) (.int .i64 t.fin)
    have hB6 := HB5.out.far (p := ⟨b, 1, none⟩) (by show G ≠ b; omega) (.int .i64 t.fin)
    have hL6 := HL5.out.set_ 1 (.int .i64 t.fin)
    have hA6 := (Aside.of (H5.out.mono (Nat.le_of_eq HG.out)) : Aside b w W5).set (o := 1) (.int .i64 t.fin)
    generalize W5.setCell ⟨b, 1, none⟩ (.int .i64 t.fin) = W6 at *
    clear g0 g1 g2 g3 g4 l1 m1
    have g0 := hK6.cell 0
    have g1 := hK6.cell 1
    have g2 := hK6.cell 2
    have g3 := hK6.cell 3
    have g4 := hK6.cell 4
    have c0 := hB6.cell 0
    have c1 := hB6.cell 1
    have c2 := hB6.cell 2
    have c3 := hB6.cell 3
    have c4 := hB6.cell 4
    have f0 := hB6.free 0
    have f1 := hB6.free 1
    have f2 := hB6.free 2
    have f3 := hB6.free 3
    have f4 := hB6.free 4
    have HL6 := Lib.hid (show Lx W6 b s t.fin from hL6)
    have HA6 := Lib.hid hA6
    clear hK6 hB6 hL6 hA6
    go_wp2_with fail
    refine bodyPost_ret (v := (Ans.tok t).val) (by simp [results, Tryz.results126, go_sem, Ans.val, c0, c1, c2, c3, c4]) rfl ⟨by rw [HNX.out], ?_, ?_⟩
    · exact HA6.out.put5 (Nat.le_of_eq HG.out) _ _ _ _ _
    · rw [HPL.out]
      exact HL6.out.put5 (by omega) _ _ _ _ _
end Go.Proofs.YtfiahpeajccinaaGreatDoor
namespace Go.Proofs.YtfiahpeajccinaaGreatDoor
open Go.RowKit
open Tk Ex
set_option linter.unusedVariables false

/-- the bytes of a set, cut off ahead -/
theorem cut_span (f : Nat → Bool) (B : ByteArray) (hB : ∀ c : UInt8, B.data.toList.contains c = f c.toNat) (s : ByteArray) (i : Nat) (hi : i ≤ s.size) : Lib.trimLeftS (s.extract i s.size).data.toList B.data.toList = s.data.toList.drop (span f s i) := by
  rw [show (s.extract i s.size).data.toList = (s.data.toList.drop i).take (s.size - i) from sub_list s i s.size]
  rw [List.take_of_length_le (by rw [List.length_drop, size_toList]; exact Nat.le_refl _)]
  have h1 := span_ge f s i
  have h2 := span_le f hi
  have hg : ∀ (k : Nat) (b : UInt8), s.data.toList[k]? = some b → b.toNat = bt s k := by
    intro k b hk
    unfold bt
    rw [List.getD_eq_getElem?_getD, hk]; rfl
  rw [Lib.trimLeftS_drop _ _ (span f s i - i) (by rw [List.length_drop, size_toList]; omega) ?_ ?_, List.drop_drop]
  · congr 1; omega
  · intro j b hj hb
    rw [List.getElem?_drop] at hb
    rw [hB, hg _ _ hb]
    exact span_in (i := i) (by omega) (by omega)
  · intro b hb
    rw [List.getElem?_drop, show i + (span f s i - i) = span f s i by omega] at hb
    rw [hB, hg _ _ hb]
    apply span_out
    rcases Nat.lt_or_ge (span f s i) s.size with h | h
    · exact h
    · rw [List.getElem?_eq_none (by rw [size_toList]; exact h)] at hb; cases hb
def letB : ByteArray := ⟨#[97, 98, 99, 100, 101, 102, 103, 104, 105, 106, 107, 108, 109, 110, 111, 112, 113, 114, 115, 116, 117, 118, 119, 120, 121, 122, 65, 66, 67, 68, 69, 70, 71, 72, 73, 74, 75, 76, 77, 78, 79, 80, 81, 82, 83, 84, 85, 86, 87, 88, 89, 90]⟩
def digB : ByteArray := ⟨#[48, 49, 50, 51, 52, 53, 54, 55, 56, 57]⟩
def witB : ByteArray := ⟨#[97, 98, 99, 100, 101, 102, 103, 104, 105, 106, 107, 108, 109, 110, 111, 112, 113, 114, 115, 116, 117, 118, 119, 120, 121, 122, 65, 66, 67, 68, 69, 70, 71, 72, 73, 74, 75, 76, 77, 78, 79, 80, 81, 82, 83, 84, 85, 86, 87, 88, 89, 90, 48, 49, 50, 51, 52, 53, 54, 55, 56, 57, 95]⟩
theorem of_fin {P : UInt8 → Prop} (h : ∀ n : Fin 256, P (UInt8.ofNat n.val)) (c : UInt8) : P c := by
  have := h ⟨c.toNat, c.toNat_lt⟩
  simpa using this
theorem let_has (c : UInt8) : letB.data.toList.contains c = isLt c.toNat := of_fin (P := fun c => letB.data.toList.contains c = isLt c.toNat) (by decide +kernel) c
theorem dig_has (c : UInt8) : digB.data.toList.contains c = isDg c.toNat := of_fin (P := fun c => digB.data.toList.contains c = isDg c.toNat) (by decide +kernel) c
theorem wit_has (c : UInt8) : witB.data.toList.contains c = goes c.toNat := of_fin (P := fun c => witB.data.toList.contains c = goes c.toNat) (by decide +kernel) c
/-- a set of bytes, and its cutting off -/
structure Cuts (B : ByteArray) (f : Nat → Bool) : Prop where
  has : ∀ c : UInt8, B.data.toList.contains c = f c.toNat
  call : ∀ (s : ByteArray) (i : Nat), i ≤ s.size → ∀ w : World, Calls Tryz.prog 127 #[.string (s.extract i s.size), .string B] w fun e w' => e = .returned (.string ⟨(s.data.toList.drop (span f s i)).toArray⟩) ∧ Below w.heap.size w w'
theorem cuts_of {B : ByteArray} {f : Nat → Bool} (hB : ∀ c : UInt8, B.data.toList.contains c = f c.toNat) (h1 : B.size < 4294967281) (h2 : ∀ (j : Nat) (b : UInt8), B.data.toList[j]? = some b → b.toNat < 128) : Cuts B f :=
  ⟨hB, fun s i hi w => by
    have h := Any.strings_TrimLeft_laid Tryz.lays161 (by kernel_rfl) (s.extract i s.size) B w h1 h2
    rw [cut_span f B hB s i hi] at h
    exact h⟩
theorem lt128 {B : ByteArray} (h : B.data.toList.all (fun b => decide (b.toNat < 128)) = true) (j : Nat) (b : UInt8) (hj : B.data.toList[j]? = some b) : b.toNat < 128 := by
  have := List.all_eq_true.1 h b (List.mem_of_getElem? hj)
  simpa using this
theorem cuts_bl : Cuts blankB isBl := cuts_of blank_has (by decide) (lt128 (by decide +kernel))
theorem cuts_let : Cuts letB isLt := cuts_of let_has (by decide) (lt128 (by decide +kernel))
theorem cuts_dig : Cuts digB isDg := cuts_of dig_has (by decide) (lt128 (by decide +kernel))
theorem cuts_wit : Cuts witB goes := cuts_of wit_has (by decide) (lt128 (by decide +kernel))
set_option maxRecDepth 100000 in
set_option maxHeartbeats 2000000 in
theorem behind_any (B : ByteArray) (f : Nat → Bool) (hC : Cuts B f) (b : Nat) (s : ByteArray) (i : Nat) (w : World) (hs : s.size ≤ 1000000) (hc : w.cell? ⟨b, 0, none⟩ = some (.string s)) (hi : i ≤ s.size) :
    Calls Tryz.prog 101 #[.pointer (some ⟨b, 0, none⟩), .int .i64 i, .string B] w fun e w' => e = .returned (.int .i64 (span f s i)) ∧ Below w.heap.size w w' := by
  have i2 : (0 : Int) ≤ (i : Int) := by omega
  have i1 : (i : Int) ≤ (s.size : Int) := by omega
  have hz := span_le f hi
  have HC := Lib.hid (fun w1 : World => hC.call s i hi w1)
  have hsz : (⟨(s.data.toList.drop (span f s i)).toArray⟩ : ByteArray).size = s.size - span f s i := by
    show (s.data.toList.drop (span f s i)).toArray.size = _
    rw [List.size_toArray, List.length_drop, size_toList]
  generalize (⟨(s.data.toList.drop (span f s i)).toArray⟩ : ByteArray) = t at *
  generalize span f s i = q at *
  have hbl : b < w.heap.size := cell_lt5 hc
  clear hC
  go_enter Tryz.func101, Tryz.ntmps101
  go_wp2_with fail
  have HBW := Lib.hid (Below.refl w.heap.size w)
  have e1 : IntKind.i64.wrap ((s.size : Int) - (t.size : Int)) = (q : Int) := by rw [hsz]; rw [IntWalk.i64_in _ (by omega)]; omega
  clear hz hsz
  go_region_held3 (fun w' => w'.cell? ⟨b, 0, none⟩ = some (.string s))
    (go_keep)
    (first
      | (go_at_call 127; refine (HC.out _).mono ?_
         rintro e w2 ⟨rfl, hb2⟩
         have hb3 : Below w.heap.size w w2 := (Below.refl w.heap.size w).drew.trans hb2
         have k0 : w2.cell? ⟨b, 0, none⟩ = some (.string s) := (hb3.cell (p := ⟨b, 0, none⟩) hbl).trans hc
         have HB3 := Lib.hid hb3
         clear hb2 hb3))
  go_wp2_with fail
  go_ret
  exact ⟨rfl, HB3.out⟩

set_option maxRecDepth 100000 in
set_option maxHeartbeats 2000000 in
/-- where the next thing begins -/
theorem nextI_any (b : Nat) (s : ByteArray) (i : Nat) (w : World) (hs : s.size ≤ 1000000) (hc : w.cell? ⟨b, 0, none⟩ = some (.string s)) (hp : w.cell? ⟨b, 1, none⟩ = some (.int .i64 i)) (hi : i ≤ s.size) :
    Calls Tryz.prog 60 #[.pointer (some ⟨b, 0, none⟩)] w fun e w' => e = .returned (.int .i64 (bl s i : Nat)) ∧ Below w.heap.size w w' := by
  have HC := Lib.hid (fun w1 : World => fun h => behind_any blankB isBl cuts_bl b s i w1 hs h hi)
  have hbl : b < w.heap.size := cell_lt5 hc
  unfold blankB at HC
  unfold bl
  generalize span isBl s i = q at *
  go_enter Tryz.func60, Tryz.ntmps60
  go_wp2_with fail
  refine (HC.out _ hc).mono ?_
  rintro e w2 ⟨rfl, hb2⟩
  have HB3 := Lib.hid hb2
  go_wp2_with fail
  go_ret
  exact ⟨rfl, HB3.out⟩
theorem lt_word (s : ByteArray) {i : Nat} (hi : i ≤ s.size) : (span isLt s i = i) ↔ isLt (bt s i) = false := by
  have h1 := span_ge isLt s i
  have h2 := span_out (p := isLt) (s := s) (i := i)
  have h3 := fun h => span_in (p := isLt) (s := s) (i := i) (k := i) (Nat.le_refl _) h
  constructor
  · intro h
    rcases Nat.lt_or_ge i s.size with h4 | h4
    · rw [h] at h2; exact h2 h4
    · rw [show bt s i = 0 from bt_end h4]; rfl
  · intro h
    rcases Nat.lt_or_ge i (span isLt s i) with h4 | h4
    · rw [h3 h4] at h; cases h
    · omega
set_option maxRecDepth 100000 in
set_option maxHeartbeats 2000000 in
/-- the place behind a word -/
theorem behindWord_any (b : Nat) (s : ByteArray) (i : Nat) (w : World) (hs : s.size ≤ 1000000) (hc : w.cell? ⟨b, 0, none⟩ = some (.string s)) (hi : i ≤ s.size) :
    Calls Tryz.prog 98 #[.pointer (some ⟨b, 0, none⟩), .int .i64 i] w fun e w' => e = .returned (.int .i64 (wE s i : Nat)) ∧ Below w.heap.size w w' := by
  have HL := Lib.hid (fun w1 : World => fun h => behind_any letB isLt cuts_let b s i w1 hs h hi)
  have HW := Lib.hid (fun w1 : World => fun h => behind_any witB goes cuts_wit b s i w1 hs h hi)
  have hbl : b < w.heap.size := cell_lt5 hc
  have hq := span_le isLt hi
  have hd := lt_word s hi
  unfold letB at HL
  unfold witB at HW
  unfold wE
  generalize span isLt s i = q at *
  generalize span goes s i = r at *
  generalize hX : (if isLt (bt s i) = true then r else i) = X
  go_enter Tryz.func98, Tryz.ntmps98
  go_wp2_with fail
  refine (HL.out _ hc).mono ?_
  rintro e w2 ⟨rfl, hb2⟩
  have k0 : w2.cell? ⟨b, 0, none⟩ = some (.string s) := (hb2.cell (p := ⟨b, 0, none⟩) hbl).trans hc
  have HB3 := Lib.hid hb2
  by_cases hw : isLt (bt s i) = true
  · rw [if_pos hw] at hX
    subst hX
    have e1 : ((q : Int) == (i : Int)) = false := beq_eq_false_iff_ne.2 (fun h => by
      have := hd.1 (by omega); rw [hw] at this; cases this)
    go_wp2_with fail
    refine (HW.out _ k0).mono ?_
    rintro e w3 ⟨rfl, hb3⟩
    have HB4 := Lib.hid (HB3.out.trans (hb3.mono HB3.out.size))
    go_wp2_with fail
    go_ret
    exact ⟨rfl, HB4.out⟩
  · rw [if_neg hw] at hX
    subst hX
    have hqe := hd.2 (Bool.eq_false_iff.2 hw)
    subst hqe
    go_wp2_with fail
    go_ret
    exact ⟨rfl, HB3.out⟩
end Go.Proofs.YtfiahpeajccinaaGreatDoor
namespace Go.Proofs.YtfiahpeajccinaaGreatDoor
open Go.RowKit
open Tk Ex
set_option linter.unusedVariables false
set_option linter.unusedSimpArgs false

/-- an iso, as a value -/
def izV (n : ByteArray) (k : Int) (key : ByteArray) : Value := .agg #[.string n, .int .i64 k, .string key]
/-- what a reader of an iso answers -/
def Iz.IRes.val : Iz.IRes → Value
  | .ok x _ => .tuple #[izV x.name x.n x.key, .int .i64 0, .int .i64 0]
  | .err p c => .tuple #[izV nix 0 nix, .int .i64 (p : Nat), .int .i64 c]
/-- a text's first byte, asked for -/
theorem first_pre (c : UInt8) (s : ByteArray) (a : Nat) (ha : a ≤ s.size) (h0 : c.toNat ≠ 0) : Lib.hasPrefix (s.extract a s.size).data.toList [c] = (bt s a == c.toNat) := by
  rw [show (s.extract a s.size).data.toList = (s.data.toList.drop a).take (s.size - a) from sub_list s a s.size]
  rw [List.take_of_length_le (by rw [List.length_drop, size_toList]; exact Nat.le_refl _)]
  show List.isPrefixOf [c] _ = _
  by_cases h1 : a < s.size
  · rw [drop_cons h1, ← bt_at s a h1]
    simp only [List.isPrefixOf, Bool.and_true]
    by_cases h : s[a] = c
    · rw [h]; simp
    · have : s[a].toNat ≠ c.toNat := fun e => h (UInt8.toNat_inj.1 e)
      have h' : ¬ c = s[a] := fun e => h e.symm
      rw [beq_eq_false_iff_ne.2 this, beq_eq_false_iff_ne.2 h']
  · rw [List.drop_eq_nil_of_le (by rw [size_toList]; omega), bt_end (by omega)]
    symm
    exact beq_eq_false_iff_ne.2 (fun e => h0 e.symm)
theorem begins_any (c : UInt8) (s : ByteArray) (a : Nat) (ha : a ≤ s.size) (h0 : c.toNat ≠ 0) (r : Bool) (h : (bt s a == c.toNat) = r) (w : World) :
    Calls Tryz.prog 61 #[.string (s.extract a s.size), .string ⟨#[c]⟩] w fun e w' => e = .returned (.bool r) ∧ w = w' := by
  have h2 := Tryz.strings_HasPrefix (s.extract a s.size) ⟨#[c]⟩ w
  rw [show (⟨#[c]⟩ : ByteArray).data.toList = [c] from rfl, first_pre c s a ha h0, h] at h2
  exact h2.mono fun e w' ⟨a, b⟩ => ⟨a, b.symm⟩
theorem span_self {f : Nat → Bool} {s : ByteArray} {i : Nat} (h : f (bt s i) = false) : span f s i = i := by
  rcases Nat.lt_or_ge i (span f s i) with h1 | h1
  · have := span_in (p := f) (s := s) (Nat.le_refl i) h1
    rw [h] at this; cases this
  · exact Nat.le_antisymm h1 (span_ge f s i)
/-- the ways of a number's answer -/
theorem numI_1 {s w : ByteArray} {u a : Nat} (h : isDg (bt s (signE s a)) = false) : span isDg s (signE s a) = signE s a ∧ Iz.numI s w u a = .err (signE s a) 1 :=
  ⟨span_self h, by unfold Iz.numI; rw [if_pos h]⟩
theorem numI_2 {s w : ByteArray} {u a : Nat} (h : isDg (bt s (signE s a)) = true) (h2 : bt s (signE s a) = 48) (h3 : signE s a + 1 < span isDg s (signE s a)) : Iz.numI s w u a = .err (signE s a + 1) 1 := by
  unfold Iz.numI; rw [if_neg (by rw [h]; decide), if_pos ⟨h2, h3⟩]
theorem numI_e {s : ByteArray} {a : Nat} (h : isDg (bt s (signE s a)) = true) (h2 : ¬ (bt s (signE s a) = 48 ∧ signE s a + 1 < span isDg s (signE s a))) :
    span isDg s (signE s a) = intE s a ∧ De.form (sub s a (intE s a)).data.toList = true ∧ intE s a ≤ s.size ∧ a < intE s a := by
  have hf := num_form (s := s) (a := a) h
  refine ⟨?_, hf⟩
  have hl : signE s a < s.size := lt_of_bt (fun e => by rw [e] at h; cases h)
  have hp := span_pos (p := isDg) hl h
  unfold intE
  split
  · rename_i h1
    have : ¬ signE s a + 1 < span isDg s (signE s a) := fun h3 => h2 ⟨h1, h3⟩
    omega
  · rfl
theorem numI_3 {s w : ByteArray} {u a : Nat} (h : isDg (bt s (signE s a)) = true) (h2 : ¬ (bt s (signE s a) = 48 ∧ signE s a + 1 < span isDg s (signE s a))) (h3 : ¬ Tk.In64 (De.numL (sub s a (intE s a)).data.toList)) : Iz.numI s w u a = .err a 4 := by
  unfold Iz.numI; rw [if_neg (by rw [h]; decide), if_neg h2, if_neg h3]
theorem numI_4 {s w : ByteArray} {u a : Nat} (h : isDg (bt s (signE s a)) = true) (h2 : ¬ (bt s (signE s a) = 48 ∧ signE s a + 1 < span isDg s (signE s a))) (h3 : Tk.In64 (De.numL (sub s a (intE s a)).data.toList)) (h4 : u = 3 ∧ De.numL (sub s a (intE s a)).data.toList = 0) : Iz.numI s w u a = .err a 8 := by
  unfold Iz.numI; rw [if_neg (by rw [h]; decide), if_neg h2, if_pos h3, if_pos h4]
theorem numI_5 {s w : ByteArray} {u a : Nat} (h : isDg (bt s (signE s a)) = true) (h2 : ¬ (bt s (signE s a) = 48 ∧ signE s a + 1 < span isDg s (signE s a))) (h3 : Tk.In64 (De.numL (sub s a (intE s a)).data.toList)) (h4 : ¬ (u = 3 ∧ De.numL (sub s a (intE s a)).data.toList = 0)) : Iz.numI s w u a = .ok ⟨w, De.numL (sub s a (intE s a)).data.toList, nix⟩ (intE s a) := by
  unfold Iz.numI; rw [if_neg (by rw [h]; decide), if_neg h2, if_pos h3, if_neg h4]
theorem Aside.put3 {b g : Nat} {w w' : World} (h : Aside b w w') (hg : w.heap.size ≤ g) (v0 v1 v2 : Value) :
    Aside b w (((w'.setCell ⟨g, 0, none⟩ v0).setCell ⟨g, 1, none⟩ v1).setCell ⟨g, 2, none⟩ v2) := ((h.far hg v0).far hg v1).far hg v2
theorem ok_inj {x y : Iz.Iso} {p q : Nat} (h : Iz.IRes.ok x p = Iz.IRes.ok y q) : p = q := by injection h
theorem blk_num {w : World} {b R : Nat} {t : TypeId} {s : ByteArray} {v0 : Value} (h : Blk w b t #[.string s, v0]) (hne : ¬ b = R) (v x0 x1 x2 : Value) :
    Blk ((((w.setCell ⟨b, 1, none⟩ v).setCell ⟨R, 0, none⟩ x0).setCell ⟨R, 1, none⟩ x1).setCell ⟨R, 2, none⟩ x2) b t #[.string s, v] :=
  (((h.set_ 1 v).far (p := ⟨R, 0, none⟩) hne x0).far (p := ⟨R, 1, none⟩) hne x1).far (p := ⟨R, 2, none⟩) hne x2
set_option maxRecDepth 100000 in
set_option maxHeartbeats 8000000 in
/-- the N behind a name -/
theorem counted_any (b : Nat) (t : TypeId) (s name : ByteArray) (u i : Nat) (w : World) (hs : s.size ≤ 90000) (hP : Blk w b t #[.string s, .int .i64 i]) (hi : i ≤ s.size) (hr : RangeErr w) :
    Calls Tryz.prog 99 #[.pointer (some ⟨b, 0, none⟩), .string name, .int .i64 u] w fun e w' => e = .returned (Iz.numI s name u (bl s i)).val ∧ Aside b w w' ∧ ∀ x p, Iz.numI s name u (bl s i) = .ok x p → Blk w' b t #[.string s, .int .i64 p] := by
  have hb := hP.lt
  have ha := bl_le hi
  have hf := signE_le ha
  have hg := span_le isDg hf
  have hgf := span_ge isDg s (signE s (bl s i))
  have HNX := Lib.hid (fun w1 h h2 => nextI_any b s i w1 (by omega) h h2 hi)
  have HBH := Lib.hid (fun w1 h => behind_any digB isDg cuts_dig b s (signE s (bl s i)) w1 (by omega) h hf)
  have HPR := Lib.hid (fun w1 => begins_any 45 s (bl s i) ha (by decide) _ rfl w1)
  have hF1 : (bt s (bl s i) == (45 : UInt8).toNat) = true → signE s (bl s i) = bl s i + 1 := fun h => by unfold signE; rw [if_pos (by simpa using h)]
  have hF0 : (bt s (bl s i) == (45 : UInt8).toNat) = false → signE s (bl s i) = bl s i := fun h => by unfold signE; rw [if_neg (by simpa using h)]
  have hlt : isDg (bt s (signE s (bl s i))) = true → signE s (bl s i) < s.size ∧ signE s (bl s i) < span isDg s (signE s (bl s i)) := fun h => by
    have hl : signE s (bl s i) < s.size := lt_of_bt (fun e => by rw [e] at h; cases h)
    exact ⟨hl, span_pos (p := isDg) hl h⟩
  have H1 := fun h => numI_1 (s := s) (w := name) (u := u) (a := bl s i) h
  have H2 := fun h h2 h3 => numI_2 (s := s) (w := name) (u := u) (a := bl s i) h h2 h3
  have HE := fun h h2 => numI_e (s := s) (a := bl s i) h h2
  have H3 := fun h h2 h3 => numI_3 (s := s) (w := name) (u := u) (a := bl s i) h h2 h3
  have H4 := fun h h2 h3 h4 => numI_4 (s := s) (w := name) (u := u) (a := bl s i) h h2 h3 h4
  have H5 := fun h h2 h3 h4 => numI_5 (s := s) (w := name) (u := u) (a := bl s i) h h2 h3 h4
  have hbt : ∀ h : signE s (bl s i) < s.size, (s[signE s (bl s i)]'h).toNat = bt s (signE s (bl s i)) := fun h => bt_at s _ h
  have HPK : isDg (bt s (signE s (bl s i))) = true → ¬ (bt s (signE s (bl s i)) = 48 ∧ signE s (bl s i) + 1 < span isDg s (signE s (bl s i))) →
      (Tk.In64 (De.numL (sub s (bl s i) (intE s (bl s i))).data.toList) → ∀ w1 : World, Calls Tryz.prog 95 #[.string (s.extract (bl s i) (intE s (bl s i)))] w1 fun e w' => e = .returned (.tuple #[.int .i64 (De.numL (sub s (bl s i) (intE s (bl s i))).data.toList), .int .i64 0]) ∧ Below w1.heap.size w1 w') ∧
      (¬ Tk.In64 (De.numL (sub s (bl s i) (intE s (bl s i))).data.toList) → ∀ w1 : World, RangeErr w1 → Calls Tryz.prog 95 #[.string (s.extract (bl s i) (intE s (bl s i)))] w1 fun e w' => e = .returned (.tuple #[.int .i64 0, .int .i64 4]) ∧ Below w1.heap.size w1 w') := fun h h2 => by
    have he := HE h h2
    have hsz : (s.extract (bl s i) (intE s (bl s i))).size ≤ 100000 := by rw [ByteArray.size_extract]; omega
    refine ⟨fun h64 w1 => W2.parse_ok _ _ hsz he.2.1 ⟨h64.1, h64.2⟩, fun h64 w1 hr1 => ?_⟩
    obtain ⟨tp, pv, hrv⟩ := hr1
    exact W2.parse_far _ tp pv _ hsz he.2.1 (fun h => h64 ⟨h.1, h.2⟩) hrv
  have HPK := Lib.hid HPK
  unfold digB at HBH
  unfold sub at HE H3 H4 H5 HPK
  generalize Iz.numI s name u (bl s i) = res at *
  generalize (bt s (bl s i) == (45 : UInt8).toNat) = d at *
  generalize intE s (bl s i) = I at *
  generalize span isDg s (signE s (bl s i)) = g at *
  generalize isDg (bt s (signE s (bl s i))) = q at *
  generalize bt s (signE s (bl s i)) = ch at *
  generalize signE s (bl s i) = f at *
  generalize bl s i = a at *
  have hef := fun h h2 => (HE h h2).2.1
  generalize De.numL (s.extract a I).data.toList = N at *
  have hx0 : ((g : Int) == (f : Int)) = !q := by
    cases q
    · have := (H1 rfl).1; subst this; simp
    · have := (hlt rfl).2; simp; omega
  have HLT := Lib.hid hlt
  have HH1 := Lib.hid H1
  have HH2 := Lib.hid H2
  have HH3 := Lib.hid H3
  have HH4 := Lib.hid H4
  have HH5 := Lib.hid H5
  have HHE := Lib.hid HE
  have HBT := Lib.hid hbt
  have HF1 := Lib.hid hF1
  have HF0 := Lib.hid hF0
  have i1 : (0 : Int) ≤ (a : Int) := by omega
  have i2 : (a : Int) ≤ (s.size : Int) := by omega
  clear hlt H1 H2 H3 H4 H5 HE hbt hF1 hF0
  go_enter Tryz.func99, Tryz.ntmps99
  go_upto_region 1 with fail
  refine alloc_gz (fun W hW hB => ?_)
  have HP := Lib.hid (hP.onto hW)
  have HR := Lib.hid (hr.on hW)
  have HA := Lib.hid hW
  have HB := Lib.hid hB
  clear hP hr hW hB
  have k0 := HP.out.cell 0
  have k1 := HP.out.cell 1
  go_wp2_with fail
  refine (HNX.out _ k0 k1).mono ?_
  rintro e w2 ⟨rfl, hb2⟩
  clear k0 k1
  have hsz := HA.out.size
  have hbw : b < W.heap.size := HP.out.lt
  have HP2 := Lib.hid (HP.out.onto hb2)
  have HB2 := Lib.hid (HB.out.onto hb2)
  have HR2 := Lib.hid (HR.out.on hb2)
  have HA2 := Lib.hid (HA.out.trans (hb2.mono HA.out.size))
  clear hb2
  have k0 := HP2.out.cell 0
  go_wp2_with fail
  refine (HPR.out _).mono ?_
  rintro e w3 ⟨rfl, rfl⟩
  have hne : ¬ b = w.heap.size := by omega
  have hne2 : ¬ w.heap.size = b := by omega
  cases d
  case' false =>
    have hfa := HF0.out rfl
    subst hfa
    go_wp2_with fail
  case' true =>
    have HFA := Lib.hid (HF1.out rfl)
    go_wp2_with fail
    have hfa := HFA.out
    rw [show ((a : Int) + 1) = (f : Int) by omega]
    clear hfa HFA
  all_goals
    refine (HBH.out _ k0).mono ?_
    rintro e w4 ⟨rfl, hb4⟩
    clear k0
    have HP4 := Lib.hid (HP2.out.onto hb4)
    have HB4 := Lib.hid (HB2.out.onto hb4)
    have HR4 := Lib.hid (HR2.out.on hb4)
    have HA4 := Lib.hid (HA2.out.trans (hb4.mono HA2.out.size))
    clear hb4
    have k0 := HP4.out.cell 0
    have k1 := HP4.out.cell 1
    have kf := HP4.out.free 1
    have c0 := HB4.out.cell 0
    have c1 := HB4.out.cell 1
    have c2 := HB4.out.cell 2
    have f0 := HB4.out.free 0
    have f1 := HB4.out.free 1
    have f2 := HB4.out.free 2
    cases q
    · have HRS := Lib.hid (HH1.out rfl).2
      go_wp2_with fail
      refine bodyPost_ret (v := res.val) (by rw [HRS.out]; simp [results, Tryz.results99, go_sem, Iz.IRes.val, izV, nix, c0, c1, c2]) rfl ⟨rfl, ?_, fun x p h => ?_⟩
      · exact (Aside.of HA4.out).put3 (Nat.le_refl _) _ _ _
      · rw [HRS.out] at h; cases h
    · obtain ⟨hl, hl2⟩ := HLT.out rfl
      have hch := HBT.out hl
      have i3 : (f : Int) < (s.size : Int) := by omega
      have i4 : (0 : Int) ≤ (f : Int) := by omega
      by_cases hn : ch = 48 ∧ f + 1 < g
      · have HRS := Lib.hid (HH2.out rfl hn.1 hn.2)
        have x1 : ((s[f].toNat : Int) == 48) = true := by rw [hch, hn.1]; rfl
        have v1 : decide ((g : Int) > (f : Int) + 1) = true := decide_eq_true (by omega)
        have v2 : decide ((f : Int) + 1 < (g : Int)) = true := decide_eq_true (by omega)
        have v3 : decide (f + 1 < g) = true := decide_eq_true (by omega)
        clear hn hch
        go_wp2_with fail
        refine bodyPost_ret (v := res.val) (by rw [HRS.out]; simp [results, Tryz.results99, go_sem, Iz.IRes.val, izV, nix, c0, c1, c2]) rfl ⟨rfl, ?_, fun x p h => ?_⟩
        · exact (Aside.of HA4.out).put3 (Nat.le_refl _) _ _ _
        · rw [HRS.out] at h; cases h
      · obtain ⟨hgI, hform, hI, haI⟩ := HHE.out rfl hn
        subst hgI
        have HK := Lib.hid (HPK.out rfl hn)
        have HK3 := Lib.hid (HH3.out rfl hn)
        have HK4 := Lib.hid (HH4.out rfl hn)
        have HK5 := Lib.hid (HH5.out rfl hn)
        have i5 := Int.ofNat_le.2 (Nat.le_of_lt haI)
        have i6 : (g : Int) ≤ (s.size : Int) := by omega
        clear HH1 HH2 HH3 HH4 HH5 HHE HPK hef hform
        by_cases h48 : ch = 48
        case' pos =>
          have hy : ¬ f + 1 < g := fun h => hn ⟨h48, h⟩
          have x1 : ((s[f].toNat : Int) == 48) = true := by rw [hch, h48]; rfl
          have v1 : decide ((g : Int) > (f : Int) + 1) = false := decide_eq_false (by omega)
          have v2 : decide ((f : Int) + 1 < (g : Int)) = false := decide_eq_false (by omega)
          have v3 : decide (f + 1 < g) = false := decide_eq_false hy
          clear hn hch h48 hy
          go_wp2_with fail
        case' neg =>
          have x1 : ((s[f].toNat : Int) == 48) = false := by rw [hch]; exact beq_eq_false_iff_ne.2 (by omega)
          clear hn hch h48
          go_wp2_with fail
        all_goals
          by_cases h64 : Tk.In64 N
          case' neg =>
            have HRS := Lib.hid (HK3.out h64)
            refine (HK.out.2 h64 _ HR4.out).mono ?_
          case' pos =>
            refine (HK.out.1 h64 _).mono ?_
          all_goals
            rintro e w5 ⟨rfl, hb5⟩
            clear k0 k1 kf c0 c1 c2 f0 f1 f2
            have HP5 := Lib.hid (HP4.out.onto hb5)
            have HB5 := Lib.hid (HB4.out.onto hb5)
            have HA5 := Lib.hid (HA4.out.trans (hb5.mono HA4.out.size))
            clear hb5
            have k0 := HP5.out.cell 0
            have k1 := HP5.out.cell 1
            have kf := HP5.out.free 1
            have c0 := HB5.out.cell 0
            have c1 := HB5.out.cell 1
            have c2 := HB5.out.cell 2
            have f0 := HB5.out.free 0
            have f1 := HB5.out.free 1
            have f2 := HB5.out.free 2
          case' neg =>
            go_wp2_with fail
            refine bodyPost_ret (v := res.val) (by rw [HRS.out]; simp [results, Tryz.results99, go_sem, Iz.IRes.val, izV, nix, c0, c1, c2]) rfl ⟨rfl, ?_, fun x p h => ?_⟩
            · exact (Aside.of HA5.out).put3 (Nat.le_refl _) _ _ _
            · rw [HRS.out] at h; cases h
          case' pos =>
            by_cases h3 : u = 3 ∧ N = 0
            · have HRS := Lib.hid (HK4.out h64 h3)
              have u1 : ((u : Int) == 3) = true := by rw [h3.1]; rfl
              have u2 : (N == 0) = true := by rw [h3.2]; rfl
              clear h3 h64
              go_wp2_with fail
              refine bodyPost_ret (v := res.val) (by rw [HRS.out]; simp [results, Tryz.results99, go_sem, Iz.IRes.val, izV, nix, c0, c1, c2]) rfl ⟨rfl, ?_, fun x p h => ?_⟩
              · exact (Aside.of HA5.out).put3 (Nat.le_refl _) _ _ _
              · rw [HRS.out] at h; cases h
            · have HRS := Lib.hid (HK5.out h64 h3)
              by_cases hu : u = 3
              case' pos =>
                have u1 : ((u : Int) == 3) = true := by rw [hu]; rfl
                have u2 : (N == 0) = false := beq_eq_false_iff_ne.2 (fun h => h3 ⟨hu, h⟩)
                clear h3 h64 hu
                go_wp2_with fail
              case' neg =>
                have u1 : ((u : Int) == 3) = false := beq_eq_false_iff_ne.2 (by omega)
                clear h3 h64 hu
                go_wp2_with fail
              all_goals
                refine bodyPost_ret (v := res.val) (by rw [HRS.out]; simp [results, Tryz.results99, go_sem, Iz.IRes.val, izV, nix, c0, c1, c2, hne, hne2]) rfl ⟨rfl, ?_, fun x p h => ?_⟩
                · exact ((Aside.of HA5.out).set (o := 1) _).put3 (Nat.le_refl _) _ _ _
                · have hp := ok_inj (HRS.out.symm.trans h)
                  rw [← hp]
                  exact blk_num HP5.out hne _ _ _ _
end Go.Proofs.YtfiahpeajccinaaGreatDoor
namespace Go.Proofs.YtfiahpeajccinaaGreatDoor
open Go.RowKit
open Tk Ex
set_option linter.unusedVariables false
set_option linter.unusedSimpArgs false

theorem lit_kind (s : ByteArray) (n : ByteArray) (h : eqb s n = true) : Iz.use s = Iz.use n ∧ kindN s = kindN n := by
  have h1 : s.data.toList = n.data.toList := eq_of_beq h
  have h2 : ∀ x, eqb s x = eqb n x := fun x => by unfold eqb; rw [h1]
  have h3 : (fun x => eqb s x) = fun x => eqb n x := funext h2
  constructor
  · unfold Iz.use
    rw [show eqb s = eqb n from h3]
  · unfold kindN
    simp only [h2]
theorem use_kind (s : ByteArray) : Iz.use s = useN (kindN s) := by
  have key : ∀ n, eqb s n = true → Iz.use n = useN (kindN n) → Iz.use s = useN (kindN s) := fun n h e => by
    have := lit_kind s n h
    rw [this.1, this.2, e]
  by_cases h0 : eqb s Iz.negW = true
  · exact key _ h0 (by decide +kernel)
  by_cases h1 : eqb s Iz.plusW = true
  · exact key _ h1 (by decide +kernel)
  by_cases h2 : eqb s Iz.timesW = true
  · exact key _ h2 (by decide +kernel)
  by_cases h3 : eqb s Iz.flipW = true
  · exact key _ h3 (by decide +kernel)
  by_cases h4 : eqb s Iz.revW = true
  · exact key _ h4 (by decide +kernel)
  by_cases h5 : eqb s Iz.swapW = true
  · exact key _ h5 (by decide +kernel)
  by_cases h6 : eqb s Iz.boxW = true
  · exact key _ h6 (by decide +kernel)
  by_cases h7 : eqb s Iz.tagW = true
  · exact key _ h7 (by decide +kernel)
  by_cases h8 : eqb s Iz.showW = true
  · exact key _ h8 (by decide +kernel)
  by_cases h9 : eqb s Iz.charsW = true
  · exact key _ h9 (by decide +kernel)
  by_cases h10 : eqb s Iz.pairsW = true
  · exact key _ h10 (by decide +kernel)
  unfold Iz.use kindN Iz.zeroW
  simp [h0, h1, h2, h3, h4, h5, h6, h7, h8, h9, h10, useN]
/-- the ways of an iso's answer -/
theorem oneI_1 {s : ByteArray} {i : Nat} (h : isLt (bt s (bl s i)) = false) : Iz.oneI s i = .err (bl s i) 1 := by unfold Iz.oneI; rw [if_neg (by rw [h]; decide)]
theorem oneI_2 {s : ByteArray} {i : Nat} (h : isLt (bt s (bl s i)) = true) (h2 : Iz.use (wd s i) = 0) : Iz.oneI s i = .err (bl s i) 13 := by unfold Iz.oneI; rw [if_pos h, if_pos h2]
theorem oneI_3 {s : ByteArray} {i : Nat} (h : isLt (bt s (bl s i)) = true) (h2 : Iz.use (wd s i) = 1) : Iz.oneI s i = .ok ⟨wd s i, 0, nix⟩ (wE s (bl s i)) := by unfold Iz.oneI; rw [if_pos h, if_neg (by omega), if_pos h2]
theorem oneI_4 {s : ByteArray} {i : Nat} (h : isLt (bt s (bl s i)) = true) (h2 : Iz.use (wd s i) = 4) : Iz.oneI s i = Iz.keyI s (wd s i) (bl s (wE s (bl s i))) := by unfold Iz.oneI; rw [if_pos h, if_neg (by omega), if_neg (by omega), if_pos h2]
theorem oneI_5 {s : ByteArray} {i : Nat} (h : isLt (bt s (bl s i)) = true) (h2 : Iz.use (wd s i) = 2 ∨ Iz.use (wd s i) = 3) : Iz.oneI s i = Iz.numI s (wd s i) (Iz.use (wd s i)) (bl s (wE s (bl s i))) := by unfold Iz.oneI; rw [if_pos h, if_neg (by omega), if_neg (by omega), if_neg (by omega)]
theorem Aside.keep {b g : Nat} {w w' : World} {t : TypeId} {cs : Array Value} (h : Aside b w w') (hg : Blk w g t cs) (hne : ¬ g = b) : Blk w' g t cs := (h.block g hg.lt hne).trans hg
theorem Aside.trans {b : Nat} {a c d : World} (h : Aside b a c) (k : Aside b c d) : Aside b a d :=
  ⟨k.os.trans h.os, k.tape.trans h.tape, k.output.trans h.output, Nat.le_trans h.size k.size, fun n hn hne => (k.block n (Nat.lt_of_lt_of_le hn h.size) hne).trans (h.block n hn hne)⟩
theorem blk_far3 {w : World} {b R : Nat} {t : TypeId} {cs : Array Value} (h : Blk w b t cs) (hne : ¬ b = R) (x0 x1 x2 : Value) :
    Blk (((w.setCell ⟨R, 0, none⟩ x0).setCell ⟨R, 1, none⟩ x1).setCell ⟨R, 2, none⟩ x2) b t cs :=
  ((h.far (p := ⟨R, 0, none⟩) hne x0).far (p := ⟨R, 1, none⟩) hne x1).far (p := ⟨R, 2, none⟩) hne x2
theorem blk_place {w : World} {b : Nat} {t : TypeId} {s : ByteArray} {v0 : Value} (h : Blk w b t #[.string s, v0]) (v : Value) : Blk (w.setCell ⟨b, 1, none⟩ v) b t #[.string s, v] := h.set_ 1 v
theorem val_any (r : Iz.IRes) : ∃ (v0 v2 : ByteArray) (v1 p c : Int), r.val = .tuple #[.agg #[.string v0, .int .i64 v1, .string v2], .int .i64 p, .int .i64 c] := by
  cases r with
  | ok x p => exact ⟨_, _, _, _, _, rfl⟩
  | err p c => exact ⟨_, _, _, _, _, rfl⟩
set_option maxRecDepth 100000 in
set_option maxHeartbeats 8000000 in
/-- one iso -/
theorem iso_any (w0 : World) (b : Nat) (t : TypeId) (s : ByteArray) (i : Nat) (w : World) (hs : s.size ≤ 90000) (hP : Blk w b t #[.string s, .int .i64 i]) (hi : i ≤ s.size) (hr : RangeErr w0) (h0 : Below w0.heap.size w0 w) (hb0 : w0.heap.size ≤ b)
    (hK : Iz.use (wd s i) = 4 → ∀ w1, Blk w1 b t #[.string s, .int .i64 (wE s (bl s i) : Nat)] → Below w0.heap.size w0 w1 → Calls Tryz.prog 100 #[.pointer (some ⟨b, 0, none⟩), .string (wd s i)] w1 fun e w' => e = .returned (Iz.keyI s (wd s i) (bl s (wE s (bl s i)))).val ∧ Aside b w1 w' ∧ ∀ x p, Iz.keyI s (wd s i) (bl s (wE s (bl s i))) = .ok x p → Blk w' b t #[.string s, .int .i64 p]) :
    Calls Tryz.prog 59 #[.pointer (some ⟨b, 0, none⟩)] w fun e w' => e = .returned (Iz.oneI s i).val ∧ Aside b w w' ∧ ∀ x p, Iz.oneI s i = .ok x p → Blk w' b t #[.string s, .int .i64 p] := by
  have hb := hP.lt
  have ha := bl_le hi
  have hz := Iz.wE_le ha
  have hza := wE_ge s (bl s i)
  have HNX := Lib.hid (fun w1 h h2 => nextI_any b s i w1 (by omega) h h2 hi)
  have HBW := Lib.hid (fun w1 h => behindWord_any b s (bl s i) w1 (by omega) h ha)
  obtain ⟨A, B, hk⟩ : ∃ A B, kindV (kindN (wd s i)) = .agg #[.int .i64 (Iz.use (wd s i) : Nat), A, B] := ⟨_, _, by rw [use_kind]; rfl⟩
  have HKI := Lib.hid (fun w1 => kind_any (wd s i) w1)
  rw [hk] at HKI
  have hq0 : isLt (bt s (bl s i)) = false → wE s (bl s i) = bl s i ∧ Iz.oneI s i = .err (bl s i) 1 := fun h => ⟨by unfold wE; rw [if_neg (by rw [h]; decide)], oneI_1 h⟩
  have hq1 : isLt (bt s (bl s i)) = true → bl s i < wE s (bl s i) := fun h => Iz.wE_pos h
  have HO2 := Lib.hid (fun h h2 => oneI_2 (s := s) (i := i) h h2)
  have HO3 := Lib.hid (fun h h2 => oneI_3 (s := s) (i := i) h h2)
  have HC := Lib.hid (fun (h : isLt (bt s (bl s i)) = true) (h2 : Iz.use (wd s i) = 2 ∨ Iz.use (wd s i) = 3) w1 h3 h4 => (oneI_5 h h2) ▸ counted_any b t s (wd s i) (Iz.use (wd s i)) (wE s (bl s i)) w1 hs h3 hz h4)
  have HK := Lib.hid (fun (h : isLt (bt s (bl s i)) = true) (h2 : Iz.use (wd s i) = 4) w1 h3 h4 => (oneI_4 h h2) ▸ hK h2 w1 h3 h4)
  have hu := Iz.use_le (wd s i)
  have hwd : wd s i = s.extract (bl s i) (wE s (bl s i)) := rfl
  clear hk hK
  generalize Iz.oneI s i = res at *
  generalize Iz.use (wd s i) = u at *
  generalize wd s i = nm at *
  generalize wE s (bl s i) = z at *
  generalize isLt (bt s (bl s i)) = q at *
  generalize bl s i = a at *
  have i1 : (0 : Int) ≤ (a : Int) := by omega
  have i2 : (a : Int) ≤ (z : Int) := by omega
  have i3 : (z : Int) ≤ (s.size : Int) := by omega
  have HQ0 := Lib.hid hq0
  have HQ1 := Lib.hid hq1
  have HWD := Lib.hid hwd
  have HR := Lib.hid hr
  have H0 := Lib.hid h0
  clear hq0 hq1 hwd hr h0
  obtain ⟨v0, v2, v1, rp, rc, hv⟩ := val_any res
  have HV := Lib.hid hv
  clear hv
  have hfld : ∀ (v : Value) (w1 : World), (Instr.field 62 (.agg #[v, A, B]) 0).run Tryz.prog w1 = .ok v w1 := fun v w1 => by kernel_rfl
  go_enter Tryz.func59, Tryz.ntmps59
  go_upto_region 1 with fail
  refine alloc_gz (fun W hW hB => ?_)
  have HP := Lib.hid (hP.onto hW)
  have HA := Lib.hid hW
  have HB := Lib.hid hB
  clear hP hW hB
  have k0 := HP.out.cell 0
  have k1 := HP.out.cell 1
  go_wp2_with fail
  refine (HNX.out _ k0 k1).mono ?_
  rintro e w2 ⟨rfl, hb2⟩
  clear k0 k1
  have HP2 := Lib.hid (HP.out.onto hb2)
  have HB2 := Lib.hid (HB.out.onto hb2)
  have HA2 := Lib.hid (HA.out.trans (hb2.mono HA.out.size))
  clear hb2
  have k0 := HP2.out.cell 0
  go_wp2_with fail
  refine (HBW.out _ k0).mono ?_
  rintro e w3 ⟨rfl, hb3⟩
  clear k0
  have hne : ¬ b = w.heap.size := by omega
  have hne2 : ¬ w.heap.size = b := by omega
  have HP3 := Lib.hid (HP2.out.onto hb3)
  have HB3 := Lib.hid (HB2.out.onto hb3)
  have HA3 := Lib.hid (HA2.out.trans (hb3.mono HA2.out.size))
  clear hb3
  have k0 := HP3.out.cell 0
  have k1 := HP3.out.cell 1
  have kf := HP3.out.free 1
  cases q
  · obtain ⟨hz0, hrs⟩ := HQ0.out rfl
    have HRS := Lib.hid hrs
    subst hz0
    clear hrs
    have c0 := HB3.out.cell 0
    have c1 := HB3.out.cell 1
    have c2 := HB3.out.cell 2
    have f0 := HB3.out.free 0
    have f1 := HB3.out.free 1
    have f2 := HB3.out.free 2
    go_wp2_with fail
    refine bodyPost_ret (v := res.val) (by rw [HRS.out]; simp [results, Tryz.results59, go_sem, Iz.IRes.val, izV, nix, c0, c1, c2]) rfl ⟨rfl, ?_, fun x p h => ?_⟩
    · exact (Aside.of HA3.out).put3 (Nat.le_refl _) _ _ _
    · rw [HRS.out] at h; cases h
  · have x0 : ((z : Int) == (a : Int)) = false := beq_eq_false_iff_ne.2 (by have := HQ1.out rfl; omega)
    go_wp2_with fail
    rw [← HWD.out]
    refine (HKI.out _).mono ?_
    rintro e w5 ⟨rfl, hb5⟩
    have HP5 := Lib.hid ((blk_place HP3.out (.int .i64 (z : Int))).onto hb5)
    have HB5 := Lib.hid ((HB3.out.far (p := ⟨b, 1, none⟩) hne2 (.int .i64 (z : Int))).onto hb5)
    have HA5 := Lib.hid (((Aside.of HA3.out).set (o := 1) (.int .i64 (z : Int))).trans (Aside.of hb5))
    have HW5 := Lib.hid (HA5.out.below H0.out hb0 H0.out.size)
    clear k0 k1 kf hb5
    have c0 := HB5.out.cell 0
    have c1 := HB5.out.cell 1
    have c2 := HB5.out.cell 2
    have f0 := HB5.out.free 0
    have f1 := HB5.out.free 1
    have f2 := HB5.out.free 2
    have hu5 : u = 0 ∨ u = 1 ∨ u = 2 ∨ u = 3 ∨ u = 4 := by omega
    rcases hu5 with h | h | h | h | h <;> subst h
    · have HRS := Lib.hid (HO2.out (by trivial) (by trivial))
      go_wp2_with fail
      refine bodyPost_ret (v := res.val) (by rw [HRS.out]; simp [results, Tryz.results59, go_sem, Iz.IRes.val, izV, nix, c0, c1, c2]) rfl ⟨rfl, ?_, fun x p h => ?_⟩
      · exact HA5.out.put3 (Nat.le_refl _) _ _ _
      · rw [HRS.out] at h; cases h
    · have HRS := Lib.hid (HO3.out (by trivial) (by trivial))
      go_wp2_with fail
      refine bodyPost_ret (v := res.val) (by rw [HRS.out]; simp [results, Tryz.results59, go_sem, Iz.IRes.val, izV, nix, c0, c1, c2]) rfl ⟨rfl, ?_, fun x p h => ?_⟩
      · exact HA5.out.put3 (Nat.le_refl _) _ _ _
      · have hp := ok_inj (HRS.out.symm.trans h)
        rw [← hp]
        exact blk_far3 HP5.out hne _ _ _
    case' _ =>
      have HC5 := Lib.hid (HC.out (by trivial) (by simp) w5 HP5.out (HR.out.on HW5.out))
      go_wp2_with fail
      refine HC5.out.mono ?_
    rotate_left
    case' _ =>
      have HC5 := Lib.hid (HC.out (by trivial) (by simp) w5 HP5.out (HR.out.on HW5.out))
      go_wp2_with fail
      refine HC5.out.mono ?_
    rotate_left
    case' _ =>
      have HC5 := Lib.hid (HK.out (by trivial) (by trivial) w5 HP5.out HW5.out)
      go_wp2_with fail
      refine HC5.out.mono ?_
    all_goals
      rintro e w6 ⟨rfl, hA6, hok⟩
      have HB6 := Lib.hid (hA6.keep HB5.out hne2)
      have HA6 := Lib.hid (HA5.out.trans hA6)
      have HOK := Lib.hid hok
      clear c0 c1 c2 f0 f1 f2 hA6 hok
      have c0 := HB6.out.cell 0
      have c1 := HB6.out.cell 1
      have c2 := HB6.out.cell 2
      have f0 := HB6.out.free 0
      have f1 := HB6.out.free 1
      have f2 := HB6.out.free 2
      rw [HV.out]
      go_wp2_with fail
      refine bodyPost_ret (v := res.val) (by rw [HV.out]; simp [results, Tryz.results59, go_sem, c0, c1, c2]) rfl ⟨rfl, ?_, fun x p h => ?_⟩
      · exact HA6.out.put3 (Nat.le_refl _) _ _ _
      · exact blk_far3 (HOK.out x p h) hne _ _ _
end Go.Proofs.YtfiahpeajccinaaGreatDoor
namespace Go.Proofs.YtfiahpeajccinaaGreatDoor
open Go.RowKit
open Tk Ex
set_option linter.unusedVariables false

def e3 (x : Iz.Iso) : List Value := [.string x.name, .int .i64 x.n, .string x.key]
def flat3 : List Iz.Iso → List Value
  | [] => []
  | x :: l => e3 x ++ flat3 l
theorem flat3_app (l : List Iz.Iso) (x : Iz.Iso) : flat3 (l ++ [x]) = flat3 l ++ e3 x := by
  induction l with
  | nil => simp [flat3]
  | cons y r ih => rw [List.cons_append, flat3, ih, flat3, List.append_assoc]
theorem flat3_get : ∀ (l : List Iz.Iso) (i : Nat) (x : Iz.Iso) (j : Nat), l[i]? = some x → j < 3 → (flat3 l)[i * 3 + j]? = (e3 x)[j]?
  | [], i, x, j, h, hj => by simp at h
  | y :: r, 0, x, j, h, hj => by
    simp at h; subst h
    rw [flat3, List.getElem?_append_left (by simp [e3]; omega)]
    congr 1; omega
  | y :: r, i + 1, x, j, h, hj => by
    rw [flat3, List.getElem?_append_right (by simp [e3]; omega), ← flat3_get r i x j (by simpa using h) hj]
    congr 1; simp [e3]; omega
theorem info_iz {t : TypeId} {z : Option Value} {n m : Nat} (h : (Tryz.prog.info? t).map (fun i => (i.zero, i.size, i.bytes)) = some (z, n, m)) : ∃ i, Tryz.prog.info? t = some i ∧ i.zero = z ∧ i.size = n ∧ i.bytes = m := by
  cases hi : Tryz.prog.info? t with
  | none => rw [hi] at h; cases h
  | some i =>
    rw [hi] at h
    injection h with h
    injection h with h1 h2
    injection h2 with h2 h3
    exact ⟨i, rfl, h1, h2, h3⟩
theorem infoIso : (Tryz.prog.info? 30).map (fun i => (i.zero, i.size, i.bytes)) = some (some (.agg #[.string ⟨#[]⟩, .int .i64 0, .string ⟨#[]⟩]), 3, 40) := by kernel_rfl
/-- a row of isos of the call's own -/
def RowZ (w : World) (base : Nat) (v : Value) (l : List Iz.Iso) : Prop := w.ownsRow base 30 3 v l.length (flat3 l)
theorem app_z {ops : Array Oper} {rest : List Oper} {o : Oper} {a : Act} {Q : Exit → Act → World → Prop} {w : World} (hgd : o.guard = none) (s x : Operand)
    (ho : o.op = .call { callee := .builtin .append, args := #[s, x], argTypes := #[33, 33] })
    (base : Nat) (v : Value) (l : List Iz.Iso) (y : Iz.Iso) (hs : a.eval s = v) (hx : a.eval x = .slice (some ⟨w.heap.size, 0, none⟩) 1 1)
    (hown : RowZ w base v l) (hn : l.length ≤ 100000) (hbase : base ≤ w.heap.size)
    (h : ∀ (v' : Value) (w' : World), RowZ w' base v' (l ++ [y]) → (∀ W, Below base W w → Below base W w') → w.grownBy w' v.ownBlock → (v'.ownBlock = v.ownBlock ∨ v'.ownBlock = some (w.heap.size + 1)) → wpList Tryz.prog ops Q rest (a.put o.dst v') w') :
    wpList Tryz.prog ops Q (o :: rest) a (w.alloc (.cells #[.string y.name, .int .i64 y.n, .string y.key] 30)) := by
  obtain ⟨i0, hi, hz0, hz1, hz2⟩ := info_iz infoIso
  unfold RowZ at hown
  obtain ⟨v', w', hr, h1, h2, _, h5⟩ := run_append_own_at (P := Tryz.prog) (w := w.alloc (.cells #[.string y.name, .int .i64 y.n, .string y.key] 30)) base 33 o.type 30 i0 _ 3 40 Tryz.underlying33 hi hz0 hz1 hz2 rfl (by decide) v _ _ (hown.alloc _) ⟨w.heap.size, 0, none⟩ 1 1 (e3 y) rfl (by
    intro j u hu
    have hadd : (⟨w.heap.size, 0, none⟩ : Addr).add j = ⟨w.heap.size, j, none⟩ := by unfold Addr.add; split <;> simp_all
    rw [hadd, cell_of_row _ _ j _ 30 (0, 0) (heap_alloc_new w _), ← hu, ← Array.getElem?_toList]
    rfl) (by intro u hu; simp [e3] at hu; rcases hu with h | h | h <;> subst h <;> rfl) (by unfold maxLen; omega) (by omega) (by simp; omega)
  refine wpList_plain hgd fun _ hK => ?_
  unfold Oper.wp execOp
  simp only [ho, resolve, invoke, builtin, Sem.run_bind, Sem.run_pure, Result.andThen_ok, List.map_toArray, List.map_cons, List.map_nil, hs, hx, hr]
  refine hK _ _ (h v' w' ?_ (fun W hW => ?_) ?_ ?_)
  · unfold RowZ; rw [List.length_append, flat3_app]; exact h1
  · exact (hW.alloc hbase _).grown h2 (by simp; omega) (fun k hk => (hown.lt k hk).1)
  · exact ⟨h2.os, h2.tape, h2.output, Nat.le_trans (by simp) h2.size, fun k hk hne => (h2.block k (by simp; omega) hne).trans (heap_alloc_old w _ hk)⟩
  · simpa using h5
theorem RowZ.nil (w : World) (base : Nat) : RowZ w base (.slice none 0 0) [] := World.ownsRow_nil _ _ _ _
theorem RowZ.below {w w' : World} {base : Nat} {v : Value} {l : List Iz.Iso} (h : RowZ w base v l) (hb : Below w.heap.size w w') : RowZ w' base v l :=
  World.ownsRow.kept h (row := none) ⟨hb.os, hb.tape, hb.output, hb.size, fun k hk hn => hb.block k hk⟩ (by
    cases hv : v.ownBlock with
    | none => exact .inl rfl
    | some k => exact .inr (by simp))
theorem RowZ.other {w w' : World} {base g : Nat} {v : Value} {l : List Iz.Iso} (h : RowZ w base v l) (ha : Aside g w w') (hg : v.ownBlock ≠ some g) : RowZ w' base v l :=
  World.ownsRow.kept h (row := some g) ⟨ha.os, ha.tape, ha.output, ha.size, fun k hk hn => ha.block k hk (by intro e; exact hn (by rw [e]))⟩ (by
    cases hv : v.ownBlock with
    | none => exact .inl rfl
    | some k => exact .inr (by rw [hv] at hg; exact hg))
theorem RowZ.shape {w : World} {base : Nat} {v : Value} {l : List Iz.Iso} (h : RowZ w base v l) : ∃ A c, v = .slice A l.length c ∧ l.length ≤ c := by
  rcases h.2 with ⟨rfl, h0⟩ | ⟨g, cap, cur, rfl, hb, hh, hle, hm, hs, ht⟩
  · exact ⟨none, 0, by rw [h0], by omega⟩
  · exact ⟨_, _, rfl, hle⟩
end Go.Proofs.YtfiahpeajccinaaGreatDoor
namespace Go.Proofs.YtfiahpeajccinaaGreatDoor
open Go.RowKit
open Tk Ex
set_option linter.unusedVariables false
set_option linter.unusedSimpArgs false

theorem Aside.grow {b : Nat} {w w1 w2 : World} (h : Aside b w w1) (k : Below w.heap.size w1 w2) : Aside b w w2 :=
  ⟨k.os.trans h.os, k.tape.trans h.tape, k.output.trans h.output, Nat.le_trans h.size k.size, fun n hn hne => (k.block n hn).trans (h.block n hn hne)⟩
/-- the place that the parser at b is at -/
def izAt (w : World) (b : Nat) : Nat := match w.cell? ⟨b, 1, none⟩ with
  | some (.int _ n) => n.toNat
  | _ => 0
theorem izAt_of {w : World} {b : Nat} {t : TypeId} {s : ByteArray} {i : Nat} (h : Blk w b t #[.string s, .int .i64 i]) : izAt w b = i := by
  unfold izAt; rw [h.cell 1]; simp
/-- what isos answer -/
def IsosGive (r : Iz.LRes) (b : Nat) (w : World) (e : Ending) (w' : World) : Prop := Aside b w w' ∧ match r with
  | .ok l p => ∃ A c, e = .returned (.tuple #[.slice A l.length c, .int .i64 (p : Nat), .int .i64 0]) ∧ RowZ w' w.heap.size (.slice A l.length c) l
  | .err p c => e = .returned (.tuple #[.slice none 0 0, .int .i64 (p : Nat), .int .i64 c])
  | .out => False
theorem isosF_err {s : ByteArray} {f : Nat} {l : List Iz.Iso} {j p : Nat} {c : Int} (h : Iz.oneI s j = .err p c) : Iz.isosF s (f + 1) l j = .err p c := by
  unfold Iz.isosF; rw [h]
theorem isosF_end {s : ByteArray} {f : Nat} {l : List Iz.Iso} {j p : Nat} {x : Iz.Iso} (h : Iz.oneI s j = .ok x p) (h2 : ¬ bt s (bl s p) = 124) : Iz.isosF s (f + 1) l j = .ok (l ++ [x]) p := by
  rw [Iz.isosF, h]; exact if_neg h2
theorem isosF_more {s : ByteArray} {f : Nat} {l : List Iz.Iso} {j p : Nat} {x : Iz.Iso} (h : Iz.oneI s j = .ok x p) (h2 : bt s (bl s p) = 124) : Iz.isosF s (f + 1) l j = Iz.isosF s f (l ++ [x]) (bl s p + 1) := by
  rw [Iz.isosF, h]; exact if_pos h2
/-- an iso's error isn't 0 -/
theorem oneI_err {s : ByteArray} {i p : Nat} {c : Int} (h : Iz.oneI s i = .err p c) : c ≠ 0 := by
  unfold Iz.oneI at h
  split at h
  · split at h
    · injection h with _ h; omega
    · split at h
      · cases h
      · split at h
        · unfold Iz.keyI at h
          split at h
          · rename_i h34
            cases hx : strAns s (bl s (wE s (bl s i))) with
            | tok t => rw [hx] at h; cases h
            | err q d =>
              rw [hx] at h
              injection h with _ h
              subst h
              have := err_num s (bl s (wE s (bl s i))) q d (by
                unfold ansAt
                rw [if_neg (by have := lt_of_bt (s := s) (i := bl s (wE s (bl s i))) (by rw [h34]; decide); omega), if_neg (by rw [h34]; decide), if_pos h34]
                exact hx)
              omega
          · injection h with _ h; omega
        · unfold Iz.numI at h
          split at h
          · injection h with _ h; omega
          · split at h
            · injection h with _ h; omega
            · split at h
              · split at h
                · injection h with _ h; omega
                · cases h
              · injection h with _ h; omega
  · injection h with _ h; omega
set_option maxRecDepth 100000 in
set_option maxHeartbeats 8000000 in
/-- isos -/
theorem isos_any (w0 : World) (b : Nat) (t : TypeId) (s : ByteArray) (i : Nat) (w : World) (hs : s.size ≤ 90000) (hP : Blk w b t #[.string s, .int .i64 i]) (hi : i ≤ s.size) (hr : RangeErr w0) (h0 : Below w0.heap.size w0 w) (hb0 : w0.heap.size ≤ b)
    (hK : ∀ j, j ≤ s.size → Iz.use (wd s j) = 4 → ∀ w1, Blk w1 b t #[.string s, .int .i64 (wE s (bl s j) : Nat)] → Below w0.heap.size w0 w1 → Calls Tryz.prog 100 #[.pointer (some ⟨b, 0, none⟩), .string (wd s j)] w1 fun e w' => e = .returned (Iz.keyI s (wd s j) (bl s (wE s (bl s j)))).val ∧ Aside b w1 w' ∧ ∀ x p, Iz.keyI s (wd s j) (bl s (wE s (bl s j))) = .ok x p → Blk w' b t #[.string s, .int .i64 p]) :
    Calls Tryz.prog 25 #[.pointer (some ⟨b, 0, none⟩)] w (IsosGive (Iz.isos s i) b w) := by
  have hbw := hP.lt
  generalize hfr : Iz.isos s i = fr
  unfold Iz.isos at hfr
  have HF := Lib.hid hfr
  have HP := Lib.hid hP
  have HR := Lib.hid hr
  have H0 := Lib.hid h0
  have HK := Lib.hid hK
  clear hfr hP hr h0 hK
  go_enter Tryz.func25, Tryz.ntmps25
  go_wp2_with fail
  go_loopw [5] (fun v wr => ∃ (j f : Nat) (l : List Iz.Iso), j ≤ s.size ∧ l.length ≤ j ∧ s.size + 2 - j ≤ f ∧ Iz.isosF s f l j = fr ∧ Blk wr b t #[.string s, .int .i64 j] ∧ RowZ wr w.heap.size v l ∧ Aside b w wr) (fun _ wr => s.size + 1 - izAt wr b)
  case atStart => exact ⟨i, _, [], hi, Nat.zero_le _, Nat.le_refl _, HF.out, HP.out, RowZ.nil _ _, Aside.of (Below.refl _ _)⟩
  case round =>
    obtain ⟨j, f, l, hj, hl, hf, hfr, hblk, hrow, has⟩ := hrel
    obtain ⟨g, rfl⟩ : ∃ g, f = g + 1 := ⟨f - 1, by omega⟩
    have hbr : b < wr.heap.size := hblk.lt
    have HFR := Lib.hid hfr
    have HBL := Lib.hid hblk
    have HRO := Lib.hid hrow
    have HAS := Lib.hid has
    have HAT := Lib.hid (izAt_of hblk)
    have HW := Lib.hid (has.below H0.out hb0 H0.out.size)
    clear hfr hblk hrow has
    go_wp2_with fail
    refine (iso_any w0 b t s j wr hs HBL.out hj HR.out HW.out hb0 (HK.out j hj)).mono ?_
    rintro e w2 ⟨rfl, ha2, hok⟩
    have HA2 := Lib.hid (HAS.out.trans ha2)
    have HRO2 := Lib.hid (HRO.out.other ha2 (fun e => by have := (World.ownsRow.lt HRO.out b e).1; omega))
    have HOK := Lib.hid hok
    have hsz := ha2.size
    have hasz := HA2.out.size
    clear ha2 hok
    cases hx : Iz.oneI s j with
    | err p c =>
      have HE := Lib.hid (show fr = .err p c from HFR.out.symm.trans (isosF_err hx))
      have v1 : (c != 0) = true := by rw [bne_iff_ne]; exact oneI_err hx
      have v2 : ¬ c = 0 := oneI_err hx
      clear hx
      unfold Iz.IRes.val izV nix
      go_wp2_with fail
      go_ret3
      exact ⟨HA2.out.grow ((Below.refl _ _).alloc (by omega) _), by rw [HE.out]; exact rfl⟩
    | ok x p =>
      obtain ⟨hjp, hps⟩ := Iz.oneI_le hj hx
      have HP2 := Lib.hid (HOK.out x p hx)
      have ha := bl_le hps
      have hpa := bl_ge s p
      have HM := Lib.hid (fun h2 => HFR.out.symm.trans (isosF_more (f := g) (l := l) hx h2))
      have HE := Lib.hid (fun h2 => HFR.out.symm.trans (isosF_end (f := g) (l := l) hx h2))
      have HNX := Lib.hid (fun w1 h h2 => nextI_any b s p w1 (by omega) h h2 hps)
      have HPR := Lib.hid (fun w1 => begins_any 124 s (bl s p) ha (by decide) _ rfl w1)
      have hd1 : (bt s (bl s p) == (124 : UInt8).toNat) = true → bt s (bl s p) = 124 := fun h => by simpa using h
      have hd0 : (bt s (bl s p) == (124 : UInt8).toNat) = false → ¬ bt s (bl s p) = 124 := fun h => by simpa using h
      have hlt : bt s (bl s p) = 124 → bl s p < s.size := fun h => lt_of_bt (by rw [h]; decide)
      generalize (bt s (bl s p) == (124 : UInt8).toNat) = d at *
      have HD0 := Lib.hid hd0
      have HD1 := Lib.hid hd1
      have HLT := Lib.hid hlt
      clear hx hd0 hd1 hlt
      generalize bt s (bl s p) = ch at *
      generalize bl s p = a at *
      have i1 : (0 : Int) ≤ (a : Int) := by omega
      have i2 : (a : Int) ≤ (s.size : Int) := by omega
      unfold Iz.IRes.val izV
      go_upto_region 5 with fail
      refine alloc_gz (fun W3 hW3 hB3 => ?_)
      have hsz3 := hW3.size
      have HP3 := Lib.hid (HP2.out.onto hW3)
      have HA3 := Lib.hid (HA2.out.grow (hW3.mono (by omega)))
      have HRO3 := Lib.hid (HRO2.out.below hW3)
      have g0 := hB3.cell 0
      have g1 := hB3.cell 1
      have g2 := hB3.cell 2
      have hK3 : w2.heap.size < W3.heap.size := hB3.lt
      clear hW3 hB3
      go_wp2_with (at_builtin; refine app_z rfl (.tmp 20) (.tmp 22) rfl w.heap.size _ l x rfl rfl HRO3.out (by omega) (by omega) ?_; intro v7 w7 hrow7 hb7 hg7 ho7)
      have hb37 := hb7 W3 (Below.refl _ _)
      have HP7 := Lib.hid (HP3.out.on hb37 (by omega))
      have HA7 := Lib.hid (HA3.out.grow hb37)
      have HRO7 := Lib.hid hrow7
      have hs7 := hb37.size
      clear hb7 hg7 ho7 hb37 hrow7 g0 g1 g2
      refine (HNX.out _ (HP7.out.cell 0) (HP7.out.cell 1)).mono ?_
      rintro e w8 ⟨rfl, hb8⟩
      have HP8 := Lib.hid (HP7.out.onto hb8)
      have HA8 := Lib.hid (HA7.out.grow (hb8.mono (by omega)))
      have HRO8 := Lib.hid (HRO7.out.below hb8)
      have hs8 := hb8.size
      clear hb8
      have k0 := HP8.out.cell 0
      have k1 := HP8.out.cell 1
      have kf := HP8.out.free 1
      go_wp2_with fail
      refine (HPR.out _).mono ?_
      rintro e w9 ⟨rfl, rfl⟩
      cases d
      · have HEE := Lib.hid (HE.out (HD0.out rfl))
        obtain ⟨A7, c7, hv7, hlc⟩ := HRO8.out.shape
        subst hv7
        go_wp2_with fail
        go_region
        go_wp2_with fail
        go_ret3
        have hlen : (l ++ [x]).length = l.length + 1 := by simp
        have hrow := HRO8.out.below ((Below.refl _ _).drew)
        refine ⟨HA8.out.grow (Below.refl _ _).drew, ?_⟩
        rw [HEE.out]
        refine ⟨A7, c7, ?_, hrow⟩
        rw [hlen]
        exact rfl
      · have HMM := Lib.hid (HM.out (HD1.out rfl))
        have hlt := HLT.out (HD1.out rfl)
        go_wp2_with fail
        have hP9 : Blk (w8.setCell ⟨b, 1, none⟩ (.int .i64 ((a : Int) + 1))) b t #[.string s, .int .i64 ((a + 1 : Nat) : Int)] := by
          rw [show ((a + 1 : Nat) : Int) = (a : Int) + 1 by omega]
          exact blk_place HP8.out _
        have e1 := izAt_of hP9
        have e2 := HAT.out
        refine ⟨⟨a + 1, g, l ++ [x], by omega, by simp; omega, by omega, HMM.out.symm, hP9, HRO8.out.other ((Aside.of (Below.refl _ _)).set (o := 1) _) (fun e => by have := (World.ownsRow.lt HRO8.out b e).1; omega), HA8.out.set (o := 1) _⟩, ?_⟩
        rw [e1, e2]
        omega
end Go.Proofs.YtfiahpeajccinaaGreatDoor
namespace Go.Proofs.YtfiahpeajccinaaGreatDoor
open Go.RowKit
open Tk Ex
set_option linter.unusedVariables false
set_option linter.unusedSimpArgs false

/-- what Prefix answers -/
def PrefGives (r : Iz.LRes) (w : World) (e : Ending) (w' : World) : Prop := Below w.heap.size w w' ∧ match r with
  | .ok l p => ∃ A c base, w.heap.size ≤ base ∧ e = .returned (.tuple #[.slice A l.length c, .int .i64 (p : Nat), .int .i64 0]) ∧ RowZ w' base (.slice A l.length c) l
  | .err p c => e = .returned (.tuple #[.slice none 0 0, .int .i64 (p : Nat), .int .i64 c])
  | .out => False
theorem isosGive_val {r : Iz.LRes} {b : Nat} {w w' : World} {e : Ending} (h : IsosGive r b w e w') : ∃ v p c, e = .returned (.tuple #[v, .int .i64 p, .int .i64 c]) := by
  unfold IsosGive at h
  cases r with
  | ok l p => obtain ⟨_, A, c, h, _⟩ := h; exact ⟨_, _, _, h⟩
  | err p c => exact ⟨_, _, _, h.2⟩
  | out => exact h.2.elim
set_option maxRecDepth 100000 in
set_option maxHeartbeats 4000000 in
theorem prefix_in (s : ByteArray) (i : Nat) (w : World) (hs : s.size ≤ 90000) (hi : i ≤ s.size) (hr : RangeErr w)
    (hK : ∀ b j, w.heap.size ≤ b → j ≤ s.size → Iz.use (wd s j) = 4 → ∀ w1, Blk w1 b 68 #[.string s, .int .i64 (wE s (bl s j) : Nat)] → Below w.heap.size w w1 → Calls Tryz.prog 100 #[.pointer (some ⟨b, 0, none⟩), .string (wd s j)] w1 fun e w' => e = .returned (Iz.keyI s (wd s j) (bl s (wE s (bl s j)))).val ∧ Aside b w1 w' ∧ ∀ x p, Iz.keyI s (wd s j) (bl s (wE s (bl s j))) = .ok x p → Blk w' b 68 #[.string s, .int .i64 p]) :
    Calls Tryz.prog 10 #[.string s, .int .i64 i] w (PrefGives (Iz.isos s i) w) := by
  have HI := Lib.hid (fun w1 hP h0 => isos_any w w.heap.size 68 s i w1 hs hP hi hr h0 (Nat.le_refl _) (fun j => hK _ j (Nat.le_refl _)))
  clear hK hr
  generalize Iz.isos s i = fr at *
  have i1 : (0 : Int) ≤ (i : Int) := by omega
  have i2 : (i : Int) ≤ (s.size : Int) := by omega
  have v1 : decide ((i : Int) < 0) = false := decide_eq_false (by omega)
  have v2 : decide ((s.size : Int) < (i : Int)) = false := decide_eq_false (by omega)
  have v3 : decide (s.size < i) = false := decide_eq_false (by omega)
  go_enter Tryz.func10, Tryz.ntmps10
  go_wp2_with fail
  refine (HI.out _ (Blk.new w _ _) ((Below.refl _ _).alloc (Nat.le_refl _) _)).mono ?_
  rintro e w2 hg
  obtain ⟨v, p, c, rfl⟩ := isosGive_val hg
  have HG := Lib.hid hg
  clear hg
  go_wp2_with fail
  go_ret3
  have hg := HG.out
  unfold IsosGive at hg
  unfold PrefGives
  have hb : Below w.heap.size w (w.alloc (.cells #[.string s, .int .i64 i] 68)) := (Below.refl _ _).alloc (Nat.le_refl _) _
  refine ⟨hg.1.below hb (Nat.le_refl _) hb.size, ?_⟩
  cases fr with
  | ok l p' =>
    obtain ⟨_, A, c', h1, h2⟩ := hg
    exact ⟨A, c', _, hb.size, h1, h2⟩
  | err p' c' => exact hg.2
  | out => exact hg.2
/-- a place out of the text -/
theorem prefix_out (s : ByteArray) (i : Int) (w : World) (hs : s.size ≤ 90000) (hi : i < 0 ∨ (s.size : Int) < i) :
    Calls Tryz.prog 10 #[.string s, .int .i64 i] w fun e w' => e = .returned (.tuple #[.slice none 0 0, .int .i64 0, .int .i64 8]) ∧ w = w' := by
  by_cases h0 : i < 0
  case' pos =>
    have v1 : decide (i < 0) = true := decide_eq_true h0
    clear hi
  case' neg =>
    have v1 : decide (i < 0) = false := decide_eq_false h0
    have v2 : decide ((s.size : Int) < i) = true := decide_eq_true (by omega)
    clear hi
  all_goals
    go_enter Tryz.func10, Tryz.ntmps10
    go_wp2_with fail
    go_ret3
    exact ⟨rfl, rfl⟩
end Go.Proofs.YtfiahpeajccinaaGreatDoor
namespace Go.Proofs.YtfiahpeajccinaaGreatDoor
open Go.RowKit
open Tk Ex
set_option linter.unusedVariables false

theorem awk11_use : ∀ j, j ≤ 13 → ¬ Iz.use (wd Iz.awk11 j) = 4 := by decide +kernel
def awkL : List Iz.Iso := [⟨Iz.plusW, 2, nix⟩, ⟨Iz.showW, 0, nix⟩]
theorem prefix_awk (w : World) (hr : RangeErr w) :
    Calls Tryz.prog 10 #[.string Iz.awk11, .int .i64 0] w fun e w' => Below w.heap.size w w' ∧ ∃ A c base, w.heap.size ≤ base ∧ e = .returned (.tuple #[.slice A 2 c, .int .i64 13, .int .i64 0]) ∧ RowZ w' base (.slice A 2 c) awkL := by
  refine (prefix_in Iz.awk11 0 w (by decide) (Nat.zero_le _) hr (fun b j _ hj h4 => absurd h4 (awk11_use j hj))).mono ?_
  rintro e w' ⟨hb, h⟩
  rw [Iz.isos_awk11] at h
  exact ⟨hb, h⟩
end Go.Proofs.YtfiahpeajccinaaGreatDoor
