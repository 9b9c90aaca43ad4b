/- Sources, whatever is asked: the program's and the reference's next number in one form; the law's Source. -/
import Derived.Test.YtkccciacngjhfaaDwE
namespace Go.Proofs.Ytkccciacngjhfaa
open Go.RowKit
attribute [local go_sem ↓] Go.wp_at_zero Go.wp_at_succ

instance (b : Int) : Decidable (isB b) := by unfold isB; infer_instance
def nxU (b : Int) (u : Nat) : Nat := if isB b then u + 1 else u
def nxS (l : List Int) (b : Int) (u : Nat) : Int := if isB b then (if u < l.length then remI (l.getD u 0) b else 0) else 0
def nxZ (b z : Int) : Int := if isB b then IntKind.u64.wrap (z + 11400714819323198485) else z
def nxM (b z : Int) : Int := if isB b then (mixZ (IntKind.u64.wrap (z + 11400714819323198485))).tmod b else 0
theorem nxS_lt (l : List Int) (b : Int) (u : Nat) (h : 0 < b) : nxS l b u < b := by
  unfold nxS
  split
  · split
    · exact remI_lt _ _ h
    · exact h
  · exact h
theorem nxM_lt (b z : Int) (h : 0 < b) : nxM b z < b := by
  unfold nxM
  split
  · exact Int.tmod_lt_of_pos _ h
  · exact h
theorem nxU_le (b : Int) (u : Nat) : nxU b u ≤ u + 1 := by unfold nxU; split <;> omega

theorem pS (lo g : Nat) (b : Int) (u : Nat) (l : List Int) (w : World) (hu : u ≤ 1000000) (hs : ScrB w lo g u (l.drop u)) :
    Calls Try.prog 44 #[.pointer (some ⟨g, 0, none⟩), .int .i64 b] w fun e w' => e = .returned (.int .i64 (nxS l b u)) ∧ ScrB w' lo g (nxU b u) (l.drop (nxU b u)) ∧ Apt g w w' := by
  unfold nxS nxU
  by_cases hb : isB b
  · rw [if_pos hb, if_pos hb]
    by_cases hl : u < l.length
    · rw [if_pos hl]
      have hd : l.drop u = l.getD u 0 :: l.drop (u + 1) := by
        rw [List.getD_eq_getElem?_getD, List.getElem?_eq_getElem hl]
        simp
      rw [hd] at hs
      refine (nextS_cons lo g b u _ _ w hb (by omega) (by omega) hs).mono ?_
      rintro e w' ⟨rfl, h1, h2⟩
      exact ⟨rfl, by simpa using h1, h2⟩
    · rw [if_neg hl]
      rw [List.drop_eq_nil_of_le (by omega)] at hs ⊢
      refine (nextS_nil lo g b u w hb (by omega) (by omega) hs).mono ?_
      rintro e w' ⟨rfl, h1, h2⟩
      exact ⟨rfl, by simpa using h1, h2⟩
  · rw [if_neg hb, if_neg hb]
    refine (nextS_no g b w hb).mono ?_
    rintro e w' ⟨rfl, rfl⟩
    exact ⟨rfl, hs, Apt.refl _ _⟩
theorem pM (g : Nat) (b z : Int) (u : Nat) (w : World) (hu : u ≤ 1000000) (hs : Blk w g 67 #[.int .i64 u, .int .u64 z]) :
    Calls Try.prog 47 #[.pointer (some ⟨g, 0, none⟩), .int .i64 b] w fun e w' => e = .returned (.int .i64 (nxM b z)) ∧ Blk w' g 67 #[.int .i64 (nxU b u), .int .u64 (nxZ b z)] ∧ Apt g w w' := by
  unfold nxM nxU nxZ
  by_cases hb : isB b
  · rw [if_pos hb, if_pos hb, if_pos hb]
    refine (nextM_yes g b u z w hb (by omega) (by omega) hs).mono ?_
    rintro e w' ⟨rfl, h1, h2⟩
    exact ⟨rfl, h1, h2⟩
  · rw [if_neg hb, if_neg hb, if_neg hb]
    refine (nextM_no g b w hb).mono ?_
    rintro e w' ⟨rfl, rfl⟩
    exact ⟨rfl, hs, Apt.refl _ _⟩
theorem rS (A : Option Addr) (l : List Int) (c : Nat) (z b : Int) (u : Nat) (w : World) (hu : u ≤ 1000000) (hr : RI w w.heap.size A l) :
    Calls Try.prog 14 #[.agg #[.slice A l.length c, .bool false, .int .u64 z, .int .i64 u], .int .i64 b] w fun e w' => e = .returned (.tuple #[.agg #[.slice A l.length c, .bool false, .int .u64 z, .int .i64 (nxU b u)], .int .i64 (nxS l b u)]) ∧ Below w.heap.size w w' := by
  unfold nxS nxU
  by_cases hb : isB b
  · rw [if_pos hb, if_pos hb]
    by_cases hl : u < l.length
    · rw [if_pos hl]
      exact rnext_some A l c z b u w hb hl hu hr
    · rw [if_neg hl]
      exact rnext_nil A l.length c z u b w hb (by omega) (by omega) (by omega)
  · rw [if_neg hb, if_neg hb]
    exact rnext_no A l.length c false z u b w hb
theorem rM (A : Option Addr) (n c : Nat) (z b : Int) (u : Nat) (w : World) (hu : u ≤ 1000000) :
    Calls Try.prog 14 #[.agg #[.slice A n c, .bool true, .int .u64 z, .int .i64 u], .int .i64 b] w fun e w' => e = .returned (.tuple #[.agg #[.slice A n c, .bool true, .int .u64 (nxZ b z), .int .i64 (nxU b u)], .int .i64 (nxM b z)]) ∧ Below w.heap.size w w' := by
  unfold nxM nxU nxZ
  by_cases hb : isB b
  · rw [if_pos hb, if_pos hb, if_pos hb]
    exact rnext_mix A n c z u b _ w hb (by omega) (by omega) rfl
  · rw [if_neg hb, if_neg hb, if_neg hb]
    exact rnext_no A n c true z u b w hb

theorem boxS (w : World) (cs : Array Value) : Blk (w.alloc (.cells cs 33)) w.heap.size 33 cs ∧ Below w.heap.size w (w.alloc (.cells cs 33)) ∧ w.heap.size < (w.alloc (.cells cs 33)).heap.size :=
  ⟨Blk.new w _ _, (Below.refl _ _).alloc (Nat.le_refl _) _, by simp⟩
set_option maxRecDepth 100000 in
set_option maxHeartbeats 4000000 in
theorem source_mix (A : Option Addr) (n c : Nat) (z : Int) (w : World) :
    Calls Try.prog 13 #[.slice A n c, .int .i64 z, .bool true] w fun e w' => ∃ g, e = .returned (.tuple #[.agg #[.slice none 0 0, .bool true, .int .u64 (IntKind.u64.wrap z), .int .i64 0], .iface 65 (.pointer (some ⟨g, 0, none⟩))]) ∧ w.heap.size ≤ g ∧ Blk w' g 67 #[.int .i64 0, .int .u64 (IntKind.u64.wrap z)] ∧ Below w.heap.size w w' := by
  go_enter Try.func13, Try.ntmps13
  go_upto_region 1 with fail
  have h3 := boxS w #[.slice none 0 0, .bool false, .int .u64 0, .int .i64 0]
  change Code.wp _ _ _ _ (w.alloc (Obj.cells #[.slice none 0 0, .bool false, .int .u64 0, .int .i64 0] 33))
  generalize (w.alloc (Obj.cells #[.slice none 0 0, .bool false, .int .u64 0, .int .i64 0] 33)) = W at h3 ⊢
  obtain ⟨b0, hbw, hz⟩ := h3
  have B0 := Lib.hid b0
  have HBW := Lib.hid hbw
  clear b0 hbw
  go_wp2_with fail
  refine (mix_any z _).mono ?_
  rintro e W2 ⟨g, rfl, hg, hk, hb⟩
  have HK := Lib.hid hk
  have b0 := B0.out.onto hb
  have HB2 := Lib.hid (HBW.out.trans (hb.mono HBW.out.size))
  have HG := Lib.hid hg
  have hne : w.heap.size ≠ g := by omega
  have HB0 := Lib.hid b0
  have c0 := b0.cell 0
  have c1 := b0.cell 1
  have c2 := b0.cell 2
  have c3 := b0.cell 3
  have f0 := b0.free 0
  have f1 := b0.free 1
  have f2 := b0.free 2
  have f3 := b0.free 3
  clear b0 hk hb hg
  go_wp2_with fail
  have hE := put4 (W := W2) (g := w.heap.size) HB0.out rfl (.slice none 0 0) (.bool true) (.int .u64 (IntKind.u64.wrap z)) (.int .i64 0)
  have hF := put4_far (W := W2) (g := w.heap.size) HK.out (Ne.symm hne) (.slice none 0 0) (.bool true) (.int .u64 (IntKind.u64.wrap z)) (.int .i64 0)
  have hEB := put4_below (W := W2) HB2.out (Nat.le_refl _) (.slice none 0 0) (.bool true) (.int .u64 (IntKind.u64.wrap z)) (.int .i64 0)
  generalize ((((W2).setCell ⟨w.heap.size, 0, none⟩ (.slice none 0 0)).setCell ⟨w.heap.size, 1, none⟩ (.bool true)).setCell ⟨w.heap.size, 2, none⟩ (.int .u64 (IntKind.u64.wrap z))).setCell ⟨w.heap.size, 3, none⟩ (.int .i64 0) = W9 at hE hF hEB ⊢
  have e0 := hE.cell 0
  have e1 := hE.cell 1
  have e2 := hE.cell 2
  have e3 := hE.cell 3
  exact bodyPost_ret (v := .tuple #[.agg #[.slice none 0 0, .bool true, .int .u64 (IntKind.u64.wrap z), .int .i64 0], .iface 65 (.pointer (some ⟨g, 0, none⟩))]) (by simp [results, Try.results13, go_sem, e0, e1, e2, e3]) rfl ⟨g, rfl, by have := HG.out; have := HBW.out.size; omega, hF, hEB⟩
/-- a store into another block keeps a row, and a script -/
theorem RI.put4 {W : World} {B q : Nat} {A : Option Addr} {l : List Int} (h : RI W B A l) (hq : ∀ a, A = some a → a.block ≠ q) (v0 v1 v2 v3 : Value) : RI ((((W.setCell ⟨q, 0, none⟩ v0).setCell ⟨q, 1, none⟩ v1).setCell ⟨q, 2, none⟩ v2).setCell ⟨q, 3, none⟩ v3) B A l := by
  intro hn
  obtain ⟨b, o, e, hb, hc⟩ := h hn
  have hne : b ≠ q := hq _ e
  refine ⟨b, o, e, hb, fun i hi => ?_⟩
  rw [← hc i hi]
  refine World.cell?_of_block ?_
  rw [Below.heap_setCell _ _ _ _ hne, Below.heap_setCell _ _ _ _ hne, Below.heap_setCell _ _ _ _ hne, Below.heap_setCell _ _ _ _ hne]
theorem scr_put4 {W : World} {lo g q : Nat} {u : Int} {rest : List Int} (h : ScrB W lo g u rest) (hq : q < lo) (hg : q ≠ g) (v0 v1 v2 v3 : Value) : ScrB ((((W.setCell ⟨q, 0, none⟩ v0).setCell ⟨q, 1, none⟩ v1).setCell ⟨q, 2, none⟩ v2).setCell ⟨q, 3, none⟩ v3) lo g u rest := by
  obtain ⟨A, c, hk, hc, hr, hlo⟩ := h
  exact ⟨A, c, put4_far hk (Ne.symm hg) _ _ _ _, hc, hr.put4 (fun a ha => by have := hlo a ha; omega) _ _ _ _, hlo⟩
theorem RI.hi4 {W : World} {B q : Nat} {A : Option Addr} {l : List Int} (h : RI W B A l) (hq : B ≤ q) (v0 v1 v2 v3 : Value) : RI ((((W.setCell ⟨q, 0, none⟩ v0).setCell ⟨q, 1, none⟩ v1).setCell ⟨q, 2, none⟩ v2).setCell ⟨q, 3, none⟩ v3) B A l :=
  h.below (put4_below (Below.refl B W) hq v0 v1 v2 v3) (Nat.le_refl _)
theorem scr_below {w w' : World} {lo g B : Nat} {u : Int} {rest : List Int} (h : ScrB w lo g u rest) (hb : Below B w w') (hg : g < B) : ScrB w' lo g u rest := by
  obtain ⟨A, c, hk, hc, hr, hlo⟩ := h
  exact ⟨A, c, hk.on hb hg, hc, hr.below hb (Nat.le_of_lt hg), hlo⟩
theorem scr_lt {w : World} {lo g : Nat} {u : Int} {rest : List Int} (h : ScrB w lo g u rest) : g < w.heap.size := by
  obtain ⟨A, c, hk, _⟩ := h
  exact hk.lt
theorem scr_hi4 {W : World} {lo g q : Nat} {u : Int} {rest : List Int} (h : ScrB W lo g u rest) (hq : g < q) (v0 v1 v2 v3 : Value) : ScrB ((((W.setCell ⟨q, 0, none⟩ v0).setCell ⟨q, 1, none⟩ v1).setCell ⟨q, 2, none⟩ v2).setCell ⟨q, 3, none⟩ v3) lo g u rest :=
  scr_below h (put4_below (Below.refl (g + 1) W) (by omega) v0 v1 v2 v3) (by omega)
theorem scr_used {w : World} {lo g : Nat} {u : Int} {rest : List Int} (h : ScrB w lo g u rest) : w.cell? ⟨g, 0, none⟩ = some (.int .i64 u) := by
  obtain ⟨A, c, hk, _⟩ := h
  exact hk.cell 0
set_option maxRecDepth 100000 in
set_option maxHeartbeats 4000000 in
theorem source_scr (A : Option Addr) (l : List Int) (c : Nat) (z : Int) (w : World) (hnil : A = none → c = 0 ∧ l = []) (hl : l.length ≤ 1000) (hr : RI w w.heap.size A l) :
    Calls Try.prog 13 #[.slice A l.length c, .int .i64 z, .bool false] w fun e w' => ∃ g lo A' c', e = .returned (.tuple #[.agg #[.slice A' l.length c', .bool false, .int .u64 0, .int .i64 0], .iface 59 (.pointer (some ⟨g, 0, none⟩))]) ∧ w.heap.size ≤ g ∧ ScrB w' lo g 0 l ∧ RI w' g A' l ∧ Below w.heap.size w w' := by
  have HNIL := Lib.hid hnil
  have HR0 := Lib.hid hr
  clear hnil hr
  go_enter Try.func13, Try.ntmps13
  go_upto_region 1 with fail
  have h3 := boxS w #[.slice none 0 0, .bool false, .int .u64 0, .int .i64 0]
  change Code.wp _ _ _ _ (w.alloc (Obj.cells #[.slice none 0 0, .bool false, .int .u64 0, .int .i64 0] 33))
  generalize (w.alloc (Obj.cells #[.slice none 0 0, .bool false, .int .u64 0, .int .i64 0] 33)) = W at h3 ⊢
  obtain ⟨b0, hbw, hz⟩ := h3
  have B0 := Lib.hid b0
  have HBW := Lib.hid hbw
  have HRW := Lib.hid (HR0.out.onto hbw)
  have HLW := Lib.hid hz
  clear b0 hbw hz
  go_wp2_with (at_builtin; refine app_row rfl _ _ rfl W.heap.size l A c rfl rfl HNIL.out HRW.out hl (Nat.le_refl _) ?_)
  intro A' c' W2 h1 h2 h4 h3
  have H1 := Lib.hid h1
  have H2 := Lib.hid h2
  have H3 := Lib.hid h3
  have H4 := Lib.hid h4
  have HR2 := Lib.hid (HRW.out.onto h3)
  clear h1 h2 h3 h4
  go_wp2_with fail
  refine (script_any A l c _ HNIL.out hl HR2.out).mono ?_
  rintro e W3 ⟨g, rfl, hg, hk, hb⟩
  have HK := Lib.hid hk
  have h03 := H3.out.trans (hb.mono H3.out.size)
  have b0 := B0.out.onto h03
  have HB2 := Lib.hid (HBW.out.trans (h03.mono HBW.out.size))
  have hz := HLW.out
  have hsz := H3.out.size
  have HG := Lib.hid hg
  have hne : w.heap.size ≠ g := by omega
  have HB0 := Lib.hid b0
  have HRg := Lib.hid ((H2.out.below hb (Nat.le_refl _)).more (show W2.heap.size ≤ g from hg))
  have HL := Lib.hid (show w.heap.size < W2.heap.size by omega)
  have c0 := b0.cell 0
  have c1 := b0.cell 1
  have c2 := b0.cell 2
  have c3 := b0.cell 3
  have f0 := b0.free 0
  have f1 := b0.free 1
  have f2 := b0.free 2
  have f3 := b0.free 3
  clear b0 hk hb hg h03 hsz hz
  go_wp2_with fail
  have hE := put4 (W := W3) (g := w.heap.size) HB0.out rfl (.slice A' l.length c') (.bool false) (.int .u64 0) (.int .i64 0)
  have hF := scr_put4 (W := W3) (q := w.heap.size) HK.out HL.out hne (.slice A' l.length c') (.bool false) (.int .u64 0) (.int .i64 0)
  have hRR := HRg.out.put4 (q := w.heap.size) (fun a ha => by have := H4.out a ha; have := HLW.out; omega) (.slice A' l.length c') (.bool false) (.int .u64 0) (.int .i64 0)
  have hEB := put4_below (W := W3) HB2.out (Nat.le_refl _) (.slice A' l.length c') (.bool false) (.int .u64 0) (.int .i64 0)
  generalize ((((W3).setCell ⟨w.heap.size, 0, none⟩ (.slice A' l.length c')).setCell ⟨w.heap.size, 1, none⟩ (.bool false)).setCell ⟨w.heap.size, 2, none⟩ (.int .u64 0)).setCell ⟨w.heap.size, 3, none⟩ (.int .i64 0) = W9 at hE hF hRR hEB ⊢
  have e0 := hE.cell 0
  have e1 := hE.cell 1
  have e2 := hE.cell 2
  have e3 := hE.cell 3
  exact bodyPost_ret (v := .tuple #[.agg #[.slice A' l.length c', .bool false, .int .u64 0, .int .i64 0], .iface 59 (.pointer (some ⟨g, 0, none⟩))]) (by simp [results, Try.results13, go_sem, e0, e1, e2, e3]) rfl ⟨g, W2.heap.size, A', c', rfl, by have := HG.out; have := HL.out; omega, hF, hRR, hEB⟩
end Go.Proofs.Ytkccciacngjhfaa
