/- Contracts of glyph.Points and of the reference's Points and Valid. -/
import Derived.Test.YteelelbkbhlilaaRefText
namespace Go.Proofs.Yteelelbkbhlilaa
open Go.RowKit
open Pl

/-- the variable in block g holds a slice that is the call's own and reads as l; the variable's block is no row -/
def Holds (w : World) (B g : Nat) (l : List Int) : Prop :=
  ∃ v, w.heap[g]? = some (.cells #[v] 28 (0, 0)) ∧ w.ownsRow B 3 1 v l.length (l.map (Value.int .i64))

set_option maxRecDepth 100000 in
set_option maxHeartbeats 2000000 in
theorem points1_any (r : Int) (B g : Nat) (l : List Int) (w : World) (hr0 : 0 ≤ r) (hr1 : r ≤ 1114111) (hl : l.length ≤ 1000000) (h : Holds w B g l) (hB : B ≤ g) :
    Calls Try.prog 29 #[.int .i32 r, .pointer (some ⟨g, 0, none⟩)] w fun e w' => e = .returned (.bool true) ∧ Holds w' B g (l ++ [r]) ∧ Below B w w' ∧ (∀ (k : Nat) (s : ByteArray) (p : Nat), w.heap[k]? = some (Obj.stringIter s p) → w'.heap[k]? = some (Obj.stringIter s p)) := by
  obtain ⟨i0, hi, hz0, hz1, hz2⟩ := info_parts info3
  obtain ⟨v, hg, hown⟩ := h
  have hc : w.cell? ⟨g, 0, none⟩ = some v := cell_of_one hg
  have hgl : g < w.heap.size := (Array.getElem?_eq_some_iff.1 hg).1
  have Hg := Lib.hid hg
  have Hown := Lib.hid hown
  clear hg hown
  go_enter Try.func29, Try.ntmps29
  go_wp2_with (at_builtin; refine wpList_append_own _ rfl _ _ 28 rfl B 3 i0 (.int .i64 0) 1 8 Try.underlying28 hi hz0 hz1 hz2 rfl (by decide) _ _ _ rfl (Hown.out.alloc _) ⟨w.heap.size, 0, none⟩ 1 1 [.int .i64 r] rfl rfl ?c1 ?c2 ?c3 ?c4 ?c5 ?_)
  case c1 =>
    intro a u hu
    match a, hu with
    | 0, hu => simp at hu; subst hu; simp [Addr.add]
  case c2 => intro u hu; simp at hu; subst hu; rfl
  case c3 => unfold maxLen; omega
  case c4 => omega
  case c5 => simp; omega
  · intro v' w3 hown3 hgrow _
    have hex : ∃ g4 cap4, v' = .slice (some ⟨g4, 0, none⟩) (l.length + 1) cap4 := by
      rcases hown3.2 with ⟨_, h0⟩ | ⟨g4, cap4, _, hv, _⟩
      · omega
      · exact ⟨g4, cap4, hv⟩
    obtain ⟨g4, cap4, hv⟩ := hex
    rw [hv] at hown3 ⊢
    clear hv
    have hne := own_ne Hown.out Hg.out (by decide)
    have hg3 : w3.heap[g]? = some (.cells #[v] 28 (0, 0)) := by
      rw [hgrow.block g (by simp; omega) hne]
      exact (Below.heap_alloc _ _ _ hgl).trans Hg.out
    have hc3 : w3.cell? ⟨g, 0, none⟩ = some v := cell_of_one hg3
    have hf3 : w3.frozen? ⟨g, 0, none⟩ = false := free_of_one hg3
    have hbel : Below B w w3 := ((Below.refl _ _).alloc (by omega) _).grown hgrow (by simp; omega) (fun a ha => (Hown.out.lt a ha).1)
    have hsz : g < w3.heap.size := (Array.getElem?_eq_some_iff.1 hg3).1
    have hit : ∀ (k : Nat) (s : ByteArray) (p : Nat), w.heap[k]? = some (Obj.stringIter s p) → (w3.setCell ⟨g, 0, none⟩ (.slice (some ⟨g4, 0, none⟩) (l.length + 1) cap4)).heap[k]? = some (Obj.stringIter s p) := by
      intro k s p hk
      have hkl : k < w.heap.size := (Array.getElem?_eq_some_iff.1 hk).1
      have hkg : k ≠ g := by
        rintro rfl
        rw [Hg.out] at hk
        cases hk
      rw [Below.heap_setCell _ _ _ _ hkg, hgrow.block k (by simp; omega) ?_, Below.heap_alloc _ _ _ hkl]
      · exact hk
      · intro e
        rcases Hown.out.2 with ⟨rfl, _⟩ | ⟨g', cap, cur, rfl, _, hh, _⟩
        · simp [Value.ownBlock] at e
        · have e1 : k = g' := by simpa [Value.ownBlock] using e
          rw [e1, hh] at hk
          cases hk
    have hnew : Holds (w3.setCell ⟨g, 0, none⟩ (.slice (some ⟨g4, 0, none⟩) (l.length + 1) cap4)) B g (l ++ [r]) := by
      refine ⟨_, one_setCell hg3, ?_⟩
      have hne' := own_ne hown3 hg3 (by decide)
      have h1 : (w3.setCell ⟨g, 0, none⟩ (.slice (some ⟨g4, 0, none⟩) (l.length + 1) cap4)).ownsRow B 3 1 (.slice (some ⟨g4, 0, none⟩) (l.length + 1) cap4) (l.length + 1) (l.map (Value.int .i64) ++ [.int .i64 r]) := by
        refine World.ownsRow.kept hown3 (row := some g) ⟨rfl, rfl, rfl, by simp [World.setCell], fun a _ ha => Below.heap_setCell _ _ _ _ (fun e => ha (by rw [e]))⟩ (.inr (Ne.symm hne'))
      simpa using h1
    have H1 := Lib.hid hit
    have H2 := Lib.hid hnew
    have H3 := Lib.hid hbel
    clear hit hnew hbel hg3 hne hown3 hgrow
    go_wp2_with fail
    go_ret
    exact ⟨rfl, H2.out, H3.out.setCell hB _, H1.out⟩
theorem Holds.keep {w w' : World} {B g : Nat} {l : List Int} (h : Holds w B g l) (hk : ∀ (k : Nat) (c : Array Value) (t : TypeId), w.heap[k]? = some (Obj.cells c t (0, 0)) → w'.heap[k]? = some (Obj.cells c t (0, 0))) : Holds w' B g l := by
  obtain ⟨v, hg, hown⟩ := h
  refine ⟨v, hk _ _ _ hg, hown.1, ?_⟩
  rcases hown.2 with hn | ⟨g', cap, cur, hv, hb, hh, rest⟩
  · exact .inl hn
  · exact .inr ⟨g', cap, cur, hv, hb, hk _ _ _ hh, rest⟩
theorem Holds.alloc {w : World} {B g : Nat} {l : List Int} (h : Holds w B g l) (o : Obj) : Holds (w.alloc o) B g l :=
  h.keep fun k _ _ hk => (Below.heap_alloc w o k (Array.getElem?_eq_some_iff.1 hk).1).trans hk
theorem Holds.iterAt {w : World} {B g : Nat} {l : List Int} (h : Holds w B g l) {q : Nat} {s : ByteArray} {p : Nat} (hq : w.heap[q]? = some (Obj.stringIter s p)) (p' : Nat) : Holds (w.iterAt q s p') B g l :=
  h.keep fun k c t hk => by
    have hne : k ≠ q := by
      rintro rfl
      rw [hq] at hk
      cases hk
    rw [Lib.iterAt_other w q k s p' hne]
    exact hk

/-- behind a call of each by Points -/
def PtsPost (l : List Int) (R : List UInt8) (B g : Nat) (w : World) (e : Ending) (w' : World) : Prop :=
  e = .returned (.tuple #[.int .i64 (stopAt l R), .bool (isFull R)]) ∧ Holds w' B g l ∧ Below B w w'

theorem getD_take_succ (l : List Int) (k : Nat) (h : k < l.length) : l.take (k + 1) = l.take k ++ [l.getD k 0] := by
  rw [List.take_succ_eq_append_getElem h]; simp [List.getElem?_eq_getElem h]

set_option maxRecDepth 100000 in
set_option maxHeartbeats 2000000 in
theorem each_points (s : ByteArray) (l : List Int) (R : List UInt8) (h : Split s.data.toList l R) (hs : s.size ≤ 100000) (B g : Nat) (w : World) (hh : Holds w B g []) (hB : B ≤ g) :
    Calls Try.prog 24 #[.string s, .func (.func 29) #[] #[.pointer (some ⟨g, 0, none⟩)]] w (PtsPost l R B g w) := by
  have hsz := Lib.hid h.size
  have hge : (flat l).length ≤ s.size := by have := h.size; omega
  have hll : l.length ≤ 100000 := by have := len_le l; omega
  have hBw : B ≤ w.heap.size := by
    obtain ⟨v, hg, _⟩ := hh
    have := (Array.getElem?_eq_some_iff.1 hg).1
    omega
  have hst : Holds (w.iter s 0) B g (l.take 0) ∧ (w.iter s 0).heap[w.heap.size]? = some (Obj.stringIter s (off l 0)) ∧ Below B w (w.iter s 0) :=
    ⟨hh.alloc _, World.iter_heap w s 0, (Below.refl _ _).alloc hBw _⟩
  have Hst := Lib.hid hst
  clear hst hh
  go_enter Try.func24, Try.ntmps24
  go_wp2_with fail
  go_loopw [] (fun wr => ∃ k : Nat, k ≤ l.length ∧ Holds wr B g (l.take k) ∧ wr.heap[w.heap.size]? = some (Obj.stringIter s (off l k)) ∧ Below B w wr) (fun wr => s.size + 1 - wr.iterPos w.heap.size)
  case atStart => exact ⟨0, Nat.zero_le _, Hst.out⟩
  case round =>
    obtain ⟨k, hk, hho, hit, hbel⟩ := hrel
    by_cases hlt : k < l.length
    · obtain ⟨e1, e2, hpos, h3, h4, hb, e3, hf⟩ := h.step hlt
      have hnx : ∀ ty, (Instr.next (.pointer (some ⟨w.heap.size, 0, none⟩)) true ty).run Try.prog wr = .ok (.tuple #[.bool true, .int .i64 (off l k), .int .i32 (l.getD k 0).toNat]) (wr.iterAt w.heap.size s (off l (k + 1))) := by
        intro ty
        rw [Lib.run_next_any_at wr w.heap.size s (off l k) ty hit hpos, e1, e2]
      have hmeas : wr.iterPos w.heap.size = off l k := by unfold World.iterPos; rw [hit]
      have Hts := Lib.hid (getD_take_succ l k hlt)
      have hl1 : (l.take k).length ≤ 1000000 := by rw [List.length_take]; omega
      have Hl1 := Lib.hid hl1
      have H1 := Lib.hid (hho.iterAt hit (off l (k + 1)))
      have H2 := Lib.hid (Lib.iterAt_heap wr w.heap.size s (off l k) (off l (k + 1)) hit)
      have H3 := Lib.hid (Lib.below_iterAt hbel hBw s (off l (k + 1)) (k := w.heap.size))
      have H4 := Lib.hid e3
      have H5 := Lib.hid hmeas
      clear e1 e2 e3 hho hit hbel hmeas hl1
      generalize (l.getD k 0).toNat = x at hnx hb hf H4
      by_cases he : x = 65533
      · have Hp := Lib.hid (hf he)
        have he' : ((x : Int) == 65533) = true := by simp; omega
        clear hf he
        go_wp2_with (first | (go_at_call 33; refine (prefix_yes _ _ _ Hp.out).mono ?_; rintro e w' ⟨rfl, rfl⟩))
        refine (points1_any _ B g (l.take k) _ (by omega) (by omega) Hl1.out H1.out hB).mono ?_
        rintro e w3 ⟨rfl, a1, a2, a3⟩
        have A1 := Lib.hid a1
        have A2 := Lib.hid (H3.out.trans a2)
        have A3 := Lib.hid (a3 _ _ _ H2.out)
        clear a1 a2 a3
        go_wp2_with fail
        go_roundw
        case rel => exact ⟨k + 1, hlt, by rw [Hts.out, ← H4.out]; exact A1.out, A3.out, A2.out⟩
        case measure =>
          rw [H5.out]
          unfold World.iterPos
          rw [A3.out]
          simp only []
          omega
      · have he' : ((x : Int) == 65533) = false := by simp; omega
        clear hf he
        go_wp2_with fail
        refine (points1_any _ B g (l.take k) _ (by omega) (by omega) Hl1.out H1.out hB).mono ?_
        rintro e w3 ⟨rfl, a1, a2, a3⟩
        have A1 := Lib.hid a1
        have A2 := Lib.hid (H3.out.trans a2)
        have A3 := Lib.hid (a3 _ _ _ H2.out)
        clear a1 a2 a3
        go_wp2_with fail
        go_roundw
        case rel => exact ⟨k + 1, hlt, by rw [Hts.out, ← H4.out]; exact A1.out, A3.out, A2.out⟩
        case measure =>
          rw [H5.out]
          unfold World.iterPos
          rw [A3.out]
          simp only []
          omega
    · obtain rfl : l.length = k := by omega
      rw [List.take_length] at hho
      by_cases hR : R = []
      · have hend : ¬ off l l.length < s.size := by rw [off_all, hsz.out, hR]; simp
        have hnx : ∀ ty, (Instr.next (.pointer (some ⟨w.heap.size, 0, none⟩)) true ty).run Try.prog wr = _ := fun ty => Lib.run_next_end_at wr w.heap.size s (off l l.length) ty hit hend
        have post : PtsPost l R B g w (.returned (.tuple #[.int .i64 0, .bool true])) wr := ⟨ret_ib (stopAt_nil l hR).symm (isFull_nil hR).symm, hho, hbel⟩
        have Hpost := Lib.hid post
        clear hR hend post hho hit hbel
        go_wp2_with fail
        go_ret2
        exact Hpost.out
      · have hpos : off l l.length < s.size := by
          have : 0 < R.length := List.length_pos_iff.2 hR
          rw [off_all, hsz.out]; omega
        obtain ⟨b1, b2⟩ := h.bad hR
        rw [← off_all] at b1 b2
        have hnx : ∀ ty, (Instr.next (.pointer (some ⟨w.heap.size, 0, none⟩)) true ty).run Try.prog wr = .ok (.tuple #[.bool true, .int .i64 (off l l.length), .int .i32 65533]) (wr.iterAt w.heap.size s (off l l.length + (Utf8.decode s (off l l.length)).2)) := by
          intro ty
          rw [Lib.run_next_any_at wr w.heap.size s (off l l.length) ty hit hpos, b1]; rfl
        have Hp := Lib.hid b2
        generalize off l l.length + (Utf8.decode s (off l l.length)).2 = q at hnx
        have post : PtsPost l R B g w (.returned (.tuple #[.int .i64 (off l l.length), .bool false])) (wr.iterAt w.heap.size s q) :=
          ⟨ret_ib (by rw [stopAt_not l hR, ← off_all]) (isFull_not hR).symm, hho.iterAt hit q, Lib.below_iterAt hbel hBw s q⟩
        have Hpost := Lib.hid post
        clear hR b1 b2 post hho hit hbel
        go_wp2_with (go_at_call 33; refine (prefix_no _ _ _ Hp.out).mono ?_; rintro e w' ⟨rfl, rfl⟩)
        go_ret2
        exact Hpost.out
end Go.Proofs.Yteelelbkbhlilaa
