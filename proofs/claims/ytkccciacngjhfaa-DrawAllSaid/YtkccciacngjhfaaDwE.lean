/- The reference's Next. -/
import Derived.Test.YtkccciacngjhfaaDwD
import Derived.Deep.RegionHeld3
import Derived.Deep.DrawnRows
import Derived.Deep.DeepCutAuto
namespace Go.Proofs.Ytkccciacngjhfaa
open Go.RowKit
attribute [local go_sem ↓] Go.wp_at_zero Go.wp_at_succ

theorem twoS (w : World) (c0 c1 : Array Value) : Blk ((w.alloc (.cells c0 33)).alloc (.cells c1 33)) w.heap.size 33 c0 ∧ Blk ((w.alloc (.cells c0 33)).alloc (.cells c1 33)) (w.heap.size + 1) 33 c1 ∧ Below w.heap.size w ((w.alloc (.cells c0 33)).alloc (.cells c1 33)) ∧ w.heap.size + 1 < ((w.alloc (.cells c0 33)).alloc (.cells c1 33)).heap.size := by
  refine ⟨(Blk.new w _ _).alloc _, ?_, ((Below.refl _ _).alloc (Nat.le_refl _) _).alloc (by simp) _, by simp⟩
  have := Blk.new (w.alloc (.cells c0 33)) 33 c1
  simpa using this
/-- four cells of a block, written -/
theorem put4 {W : World} {g : Nat} {t : TypeId} {cs : Array Value} (h : Blk W g t cs) (hs : cs.size = 4) (v0 v1 v2 v3 : Value) : Blk ((((W.setCell ⟨g, 0, none⟩ v0).setCell ⟨g, 1, none⟩ v1).setCell ⟨g, 2, none⟩ v2).setCell ⟨g, 3, none⟩ v3) g t #[v0, v1, v2, v3] := by
  have := (((h.set_ 0 v0).set_ 1 v1).set_ 2 v2).set_ 3 v3
  match cs, hs, this with
  | ⟨[_, _, _, _]⟩, _, this => exact this
theorem put4_far {W : World} {g q : Nat} {t : TypeId} {cs : Array Value} (h : Blk W q t cs) (hq : q ≠ g) (v0 v1 v2 v3 : Value) : Blk ((((W.setCell ⟨g, 0, none⟩ v0).setCell ⟨g, 1, none⟩ v1).setCell ⟨g, 2, none⟩ v2).setCell ⟨g, 3, none⟩ v3) q t cs :=
  (((h.far (p := ⟨g, 0, none⟩) hq v0).far (p := ⟨g, 1, none⟩) hq v1).far (p := ⟨g, 2, none⟩) hq v2).far (p := ⟨g, 3, none⟩) hq v3
theorem put4_below {B : Nat} {a W : World} {g : Nat} (h : Below B a W) (hg : B ≤ g) (v0 v1 v2 v3 : Value) : Below B a ((((W.setCell ⟨g, 0, none⟩ v0).setCell ⟨g, 1, none⟩ v1).setCell ⟨g, 2, none⟩ v2).setCell ⟨g, 3, none⟩ v3) :=
  (((h.setCell (p := ⟨g, 0, none⟩) hg v0).setCell (p := ⟨g, 1, none⟩) hg v1).setCell (p := ⟨g, 2, none⟩) hg v2).setCell (p := ⟨g, 3, none⟩) hg v3
theorem wi_of {y : Int} (h0 : -9223372036854775808 ≤ y) (h1 : y ≤ 9223372036854775807) : IntKind.i64.wrap y = y := by
  unfold IntKind.wrap
  simp [IntKind.bits, IntKind.signed]
  omega
set_option maxRecDepth 100000 in
set_option maxHeartbeats 4000000 in
theorem rnext_no (A : Option Addr) (n c : Nat) (m : Bool) (z u b : Int) (w : World) (hb : ¬ isB b) :
    Calls Try.prog 14 #[.agg #[.slice A n c, .bool m, .int .u64 z, .int .i64 u], .int .i64 b] w fun e w' => e = .returned (.tuple #[.agg #[.slice A n c, .bool m, .int .u64 z, .int .i64 u], .int .i64 0]) ∧ Below w.heap.size w w' := by
  unfold isB at hb
  rcases (by omega : b < 1 ∨ (¬ b < 1 ∧ 4294967296 < b)) with h1 | ⟨h1, h2⟩
  all_goals
    clear hb
    go_enter Try.func14, Try.ntmps14
    go_upto_region 1 with fail
    have h3 := twoS w #[.slice A n c, .bool m, .int .u64 z, .int .i64 u] #[.slice none 0 0, .bool false, .int .u64 0, .int .i64 0]
    change Code.wp _ _ _ _ ((w.alloc (Obj.cells #[.slice A n c, .bool m, .int .u64 z, .int .i64 u] 33)).alloc (Obj.cells #[.slice none 0 0, .bool false, .int .u64 0, .int .i64 0] 33))
    generalize (w.alloc (Obj.cells #[.slice A n c, .bool m, .int .u64 z, .int .i64 u] 33)).alloc (Obj.cells #[.slice none 0 0, .bool false, .int .u64 0, .int .i64 0] 33) = W at h3 ⊢
    generalize hg1 : w.heap.size + 1 = g1 at h3 ⊢
    obtain ⟨b0, b1, hbw, hz1⟩ := h3
    have B0 := Lib.hid b0
    have B1 := Lib.hid b1
    have HBW := Lib.hid hbw
    have HG := Lib.hid hg1
    have hne : w.heap.size ≠ g1 := by omega
    have a0 := b0.cell 0
    have a1 := b0.cell 1
    have a2 := b0.cell 2
    have a3 := b0.cell 3
    have c0 := b1.cell 0
    have c1 := b1.cell 1
    have c2 := b1.cell 2
    have c3 := b1.cell 3
    have f0 := b1.free 0
    have f1 := b1.free 1
    have f2 := b1.free 2
    have f3 := b1.free 3
    have q2 := b0.free 2
    have q3 := b0.free 3
    clear b0 b1 hbw hg1 hz1
    go_wp2_with fail
    have B1x := B1
    have HBx := HBW
    have hE := put4 (W := W) (g := g1) B1x.out rfl (.slice A n c) (.bool m) (.int .u64 z) (.int .i64 u)
    have hEB := put4_below (W := W) HBx.out (show w.heap.size ≤ g1 by have := HG.out; omega) (.slice A n c) (.bool m) (.int .u64 z) (.int .i64 u)
    generalize ((((W).setCell ⟨g1, 0, none⟩ (.slice A n c)).setCell ⟨g1, 1, none⟩ (.bool m)).setCell ⟨g1, 2, none⟩ (.int .u64 z)).setCell ⟨g1, 3, none⟩ (.int .i64 u) = W9 at hE hEB ⊢
    have e0 := hE.cell 0
    have e1 := hE.cell 1
    have e2 := hE.cell 2
    have e3 := hE.cell 3
    exact bodyPost_ret (v := .tuple #[.agg #[.slice A n c, .bool m, .int .u64 z, .int .i64 u], .int .i64 (0)]) (by simp [results, Try.results14, go_sem, e0, e1, e2, e3]) rfl ⟨rfl, hEB⟩
set_option maxRecDepth 100000 in
set_option maxHeartbeats 4000000 in
theorem rnext_mix (A : Option Addr) (n c : Nat) (z u b z2 : Int) (w : World) (hb : isB b) (hu0 : 0 ≤ u) (hu : u ≤ 1000000) (hz2 : IntKind.u64.wrap (z + 11400714819323198485) = z2) :
    Calls Try.prog 14 #[.agg #[.slice A n c, .bool true, .int .u64 z, .int .i64 u], .int .i64 b] w fun e w' => e = .returned (.tuple #[.agg #[.slice A n c, .bool true, .int .u64 z2, .int .i64 (u + 1)], .int .i64 ((mixZ z2).tmod b)]) ∧ Below w.heap.size w w' := by
  obtain ⟨hb1, hb2⟩ := hb
  have t1 : decide (b < 1) = false := decide_eq_false (by omega)
  have t2 : decide (4294967296 < b) = false := decide_eq_false (by omega)
  have HV := Lib.hid (fun x : Int => show wrap64 (x.tmod b) = x.tmod b from by have := tmod_bds x b (by omega); unfold wrap64; omega)
  go_enter Try.func14, Try.ntmps14
  go_upto_region 1 with fail
  have h3 := twoS w #[.slice A n c, .bool true, .int .u64 z, .int .i64 u] #[.slice none 0 0, .bool false, .int .u64 0, .int .i64 0]
  change Code.wp _ _ _ _ ((w.alloc (Obj.cells #[.slice A n c, .bool true, .int .u64 z, .int .i64 u] 33)).alloc (Obj.cells #[.slice none 0 0, .bool false, .int .u64 0, .int .i64 0] 33))
  generalize (w.alloc (Obj.cells #[.slice A n c, .bool true, .int .u64 z, .int .i64 u] 33)).alloc (Obj.cells #[.slice none 0 0, .bool false, .int .u64 0, .int .i64 0] 33) = W at h3 ⊢
  generalize hg1 : w.heap.size + 1 = g1 at h3 ⊢
  obtain ⟨b0, b1, hbw, hz1⟩ := h3
  have B0 := Lib.hid b0
  have B1 := Lib.hid b1
  have HBW := Lib.hid hbw
  have HG := Lib.hid hg1
  have hne : w.heap.size ≠ g1 := by omega
  have a0 := b0.cell 0
  have a1 := b0.cell 1
  have a2 := b0.cell 2
  have a3 := b0.cell 3
  have c0 := b1.cell 0
  have c1 := b1.cell 1
  have c2 := b1.cell 2
  have c3 := b1.cell 3
  have f0 := b1.free 0
  have f1 := b1.free 1
  have f2 := b1.free 2
  have f3 := b1.free 3
  have q2 := b0.free 2
  have q3 := b0.free 3
  clear b0 b1 hbw hg1 hz1
  go_upto_region 4 with fail
  have b0 : Blk (W.setCell ⟨w.heap.size, 3, none⟩ (.int .i64 (u + 1))) w.heap.size 33 #[.slice A n c, .bool true, .int .u64 z, .int .i64 (u + 1)] := B0.out.set_ 3 _
  have b1 := B1.out.far (p := ⟨w.heap.size, 3, none⟩) (Ne.symm hne) (.int .i64 (u + 1))
  have hbw := HBW.out.setCell (p := ⟨w.heap.size, 3, none⟩) (Nat.le_refl _) (.int .i64 (u + 1))
  clear a0 c0 f0 a1 c1 f1 a2 c2 f2 a3 c3 f3 q2 q3
  change Code.wp _ _ _ _ (W.setCell ⟨w.heap.size, 3, none⟩ (.int .i64 (u + 1)))
  generalize (W.setCell ⟨w.heap.size, 3, none⟩ (.int .i64 (u + 1))) = W1 at b0 b1 hbw ⊢
  have B0x := Lib.hid b0
  have B1x := Lib.hid b1
  have HBx := Lib.hid hbw
  have a0 := b0.cell 0
  have a1 := b0.cell 1
  have a2 := b0.cell 2
  have a3 := b0.cell 3
  have c0 := b1.cell 0
  have c1 := b1.cell 1
  have c2 := b1.cell 2
  have c3 := b1.cell 3
  have f0 := b1.free 0
  have f1 := b1.free 1
  have f2 := b1.free 2
  have f3 := b1.free 3
  have q2 := b0.free 2
  clear b0 b1 hbw B0 B1 HBW
  go_upto_region 6 with fail
  have hz := wu_bd (z + 11400714819323198485)
  rw [hz2] at hz
  have b0 : Blk (W1.setCell ⟨w.heap.size, 2, none⟩ (.int .u64 z2)) w.heap.size 33 #[.slice A n c, .bool true, .int .u64 z2, .int .i64 (u + 1)] := B0x.out.set_ 2 _
  have b1 := B1x.out.far (p := ⟨w.heap.size, 2, none⟩) (Ne.symm hne) (.int .u64 z2)
  have hbw := HBx.out.setCell (p := ⟨w.heap.size, 2, none⟩) (Nat.le_refl _) (.int .u64 z2)
  clear a0 c0 f0 a1 c1 f1 a2 c2 f2 a3 c3 f3 q2
  change Code.wp _ _ _ _ (W1.setCell ⟨w.heap.size, 2, none⟩ (.int .u64 z2))
  generalize (W1.setCell ⟨w.heap.size, 2, none⟩ (.int .u64 z2)) = W2 at b0 b1 hbw ⊢
  clear B0x B1x HBx
  have B1x := Lib.hid b1
  have HBx := Lib.hid hbw
  have a0 := b0.cell 0
  have a1 := b0.cell 1
  have a2 := b0.cell 2
  have a3 := b0.cell 3
  have c0 := b1.cell 0
  have c1 := b1.cell 1
  have c2 := b1.cell 2
  have c3 := b1.cell 3
  have f0 := b1.free 0
  have f1 := b1.free 1
  have f2 := b1.free 2
  have f3 := b1.free 3
  clear b0 b1 hbw
  obtain ⟨hz0, hz1⟩ := hz
  have HC := Lib.hid (fun v : World => mixed_any z2 v hz0 hz1)
  have hwb : IntKind.u64.wrap b = b := wu_of (by omega) (by omega)
  have hvi : IntKind.i64.wrap ((mixZ z2).tmod b) = (mixZ z2).tmod b := wi_of (by have := tmod_bds (mixZ z2) b (by omega); omega) (by have := tmod_bds (mixZ z2) b (by omega); omega)
  go_region_with (go_at_call 23; refine (HC.out _).mono ?_; rintro e w' ⟨rfl, rfl⟩)
  all_goals
    go_wp2_with fail
    have hE := put4 (W := W2) (g := g1) B1x.out rfl (.slice A n c) (.bool true) (.int .u64 z2) (.int .i64 (u + 1))
    have hEB := put4_below (W := W2) HBx.out (show w.heap.size ≤ g1 by have := HG.out; omega) (.slice A n c) (.bool true) (.int .u64 z2) (.int .i64 (u + 1))
    generalize ((((W2).setCell ⟨g1, 0, none⟩ (.slice A n c)).setCell ⟨g1, 1, none⟩ (.bool true)).setCell ⟨g1, 2, none⟩ (.int .u64 z2)).setCell ⟨g1, 3, none⟩ (.int .i64 (u + 1)) = W9 at hE hEB ⊢
    have e0 := hE.drew.cell 0
    have e1 := hE.drew.cell 1
    have e2 := hE.drew.cell 2
    have e3 := hE.drew.cell 3
    exact bodyPost_ret (v := .tuple #[.agg #[.slice A n c, .bool true, .int .u64 z2, .int .i64 (u + 1)], .int .i64 ((mixZ z2).tmod b)]) (by simp [results, Try.results14, go_sem, e0, e1, e2, e3]) rfl ⟨rfl, hEB.drew⟩
set_option maxRecDepth 100000 in
set_option maxHeartbeats 4000000 in
theorem rnext_nil (A : Option Addr) (n c : Nat) (z u b : Int) (w : World) (hb : isB b) (hu0 : 0 ≤ u) (hu : u ≤ 1000000) (hn : (n : Int) ≤ u) :
    Calls Try.prog 14 #[.agg #[.slice A n c, .bool false, .int .u64 z, .int .i64 u], .int .i64 b] w fun e w' => e = .returned (.tuple #[.agg #[.slice A n c, .bool false, .int .u64 z, .int .i64 (u + 1)], .int .i64 0]) ∧ Below w.heap.size w w' := by
  obtain ⟨hb1, hb2⟩ := hb
  have t1 : decide (b < 1) = false := decide_eq_false (by omega)
  have t2 : decide (4294967296 < b) = false := decide_eq_false (by omega)
  have t4 : decide ((n : Int) < u + 1) = true := decide_eq_true (by omega)
  go_enter Try.func14, Try.ntmps14
  go_upto_region 1 with fail
  have h3 := twoS w #[.slice A n c, .bool false, .int .u64 z, .int .i64 u] #[.slice none 0 0, .bool false, .int .u64 0, .int .i64 0]
  change Code.wp _ _ _ _ ((w.alloc (Obj.cells #[.slice A n c, .bool false, .int .u64 z, .int .i64 u] 33)).alloc (Obj.cells #[.slice none 0 0, .bool false, .int .u64 0, .int .i64 0] 33))
  generalize (w.alloc (Obj.cells #[.slice A n c, .bool false, .int .u64 z, .int .i64 u] 33)).alloc (Obj.cells #[.slice none 0 0, .bool false, .int .u64 0, .int .i64 0] 33) = W at h3 ⊢
  generalize hg1 : w.heap.size + 1 = g1 at h3 ⊢
  obtain ⟨b0, b1, hbw, hz1⟩ := h3
  have B0 := Lib.hid b0
  have B1 := Lib.hid b1
  have HBW := Lib.hid hbw
  have HG := Lib.hid hg1
  have hne : w.heap.size ≠ g1 := by omega
  have a0 := b0.cell 0
  have a1 := b0.cell 1
  have a2 := b0.cell 2
  have a3 := b0.cell 3
  have c0 := b1.cell 0
  have c1 := b1.cell 1
  have c2 := b1.cell 2
  have c3 := b1.cell 3
  have f0 := b1.free 0
  have f1 := b1.free 1
  have f2 := b1.free 2
  have f3 := b1.free 3
  have q2 := b0.free 2
  have q3 := b0.free 3
  clear b0 b1 hbw hg1 hz1
  go_upto_region 4 with fail
  have b0 : Blk (W.setCell ⟨w.heap.size, 3, none⟩ (.int .i64 (u + 1))) w.heap.size 33 #[.slice A n c, .bool false, .int .u64 z, .int .i64 (u + 1)] := B0.out.set_ 3 _
  have b1 := B1.out.far (p := ⟨w.heap.size, 3, none⟩) (Ne.symm hne) (.int .i64 (u + 1))
  have hbw := HBW.out.setCell (p := ⟨w.heap.size, 3, none⟩) (Nat.le_refl _) (.int .i64 (u + 1))
  clear a0 c0 f0 a1 c1 f1 a2 c2 f2 a3 c3 f3 q2 q3
  change Code.wp _ _ _ _ (W.setCell ⟨w.heap.size, 3, none⟩ (.int .i64 (u + 1)))
  generalize (W.setCell ⟨w.heap.size, 3, none⟩ (.int .i64 (u + 1))) = W1 at b0 b1 hbw ⊢
  have B0x := Lib.hid b0
  have B1x := Lib.hid b1
  have HBx := Lib.hid hbw
  have a0 := b0.cell 0
  have a1 := b0.cell 1
  have a2 := b0.cell 2
  have a3 := b0.cell 3
  have c0 := b1.cell 0
  have c1 := b1.cell 1
  have c2 := b1.cell 2
  have c3 := b1.cell 3
  have f0 := b1.free 0
  have f1 := b1.free 1
  have f2 := b1.free 2
  have f3 := b1.free 3
  have q2 := b0.free 2
  clear b0 b1 hbw B0 B1 HBW
  go_wp2_with fail
  have hE := put4 (W := W1) (g := g1) B1x.out rfl (.slice A n c) (.bool false) (.int .u64 z) (.int .i64 (u + 1))
  have hEB := put4_below (W := W1) HBx.out (show w.heap.size ≤ g1 by have := HG.out; omega) (.slice A n c) (.bool false) (.int .u64 z) (.int .i64 (u + 1))
  generalize ((((W1).setCell ⟨g1, 0, none⟩ (.slice A n c)).setCell ⟨g1, 1, none⟩ (.bool false)).setCell ⟨g1, 2, none⟩ (.int .u64 z)).setCell ⟨g1, 3, none⟩ (.int .i64 (u + 1)) = W9 at hE hEB ⊢
  have e0 := hE.cell 0
  have e1 := hE.cell 1
  have e2 := hE.cell 2
  have e3 := hE.cell 3
  exact bodyPost_ret (v := .tuple #[.agg #[.slice A n c, .bool false, .int .u64 z, .int .i64 (u + 1)], .int .i64 (0)]) (by simp [results, Try.results14, go_sem, e0, e1, e2, e3]) rfl ⟨rfl, hEB⟩
set_option maxRecDepth 100000 in
set_option maxHeartbeats 4000000 in
theorem rnext_some (A : Option Addr) (l : List Int) (c : Nat) (z b : Int) (k : Nat) (w : World) (hb : isB b) (hk : k < l.length) (hu : k ≤ 1000000) (hr : RI w w.heap.size A l) :
    Calls Try.prog 14 #[.agg #[.slice A l.length c, .bool false, .int .u64 z, .int .i64 k], .int .i64 b] w fun e w' => e = .returned (.tuple #[.agg #[.slice A l.length c, .bool false, .int .u64 z, .int .i64 ((k : Int) + 1)], .int .i64 (remI (l.getD k 0) b)]) ∧ Below w.heap.size w w' := by
  obtain ⟨hb1, hb2⟩ := hb
  have t1 : decide (b < 1) = false := decide_eq_false (by omega)
  have t2 : decide (4294967296 < b) = false := decide_eq_false (by omega)
  have t4 : decide ((l.length : Int) < (k : Int) + 1) = false := decide_eq_false (by omega)
  obtain ⟨b9, o9, rfl, hb9, c9⟩ := hr.at_ hk
  have e9 := c9 k hk
  have HE9 := Lib.hid e9
  clear hr c9 e9
  generalize l.getD k 0 = x at *
  have hbd := tmod_bds x b (by omega)
  have tb0 : (b == 0) = false := by simp; omega
  by_cases hneg : x.tmod b < 0
  · have hv := Lib.hid (show x.tmod b + b = remI x b by unfold remI; rw [if_pos hneg])
    have t3 : decide (x.tmod b < 0) = true := decide_eq_true hneg
    go_enter Try.func14, Try.ntmps14
    go_upto_region 1 with fail
    have h3 := twoS w #[.slice (some ⟨b9, o9, none⟩) l.length c, .bool false, .int .u64 z, .int .i64 k] #[.slice none 0 0, .bool false, .int .u64 0, .int .i64 0]
    change Code.wp _ _ _ _ ((w.alloc (Obj.cells #[.slice (some ⟨b9, o9, none⟩) l.length c, .bool false, .int .u64 z, .int .i64 k] 33)).alloc (Obj.cells #[.slice none 0 0, .bool false, .int .u64 0, .int .i64 0] 33))
    generalize (w.alloc (Obj.cells #[.slice (some ⟨b9, o9, none⟩) l.length c, .bool false, .int .u64 z, .int .i64 k] 33)).alloc (Obj.cells #[.slice none 0 0, .bool false, .int .u64 0, .int .i64 0] 33) = W at h3 ⊢
    generalize hg1 : w.heap.size + 1 = g1 at h3 ⊢
    obtain ⟨b0, b1, hbw, hz1⟩ := h3
    have B0 := Lib.hid b0
    have B1 := Lib.hid b1
    have HBW := Lib.hid hbw
    have HG := Lib.hid hg1
    have hne : w.heap.size ≠ g1 := by omega
    have a0 := b0.cell 0
    have a1 := b0.cell 1
    have a2 := b0.cell 2
    have a3 := b0.cell 3
    have c0 := b1.cell 0
    have c1 := b1.cell 1
    have c2 := b1.cell 2
    have c3 := b1.cell 3
    have f0 := b1.free 0
    have f1 := b1.free 1
    have f2 := b1.free 2
    have f3 := b1.free 3
    have q2 := b0.free 2
    have q3 := b0.free 3
    clear b0 b1 hbw hg1 hz1
    go_upto_region 4 with fail
    have b0 : Blk (W.setCell ⟨w.heap.size, 3, none⟩ (.int .i64 ((k : Int) + 1))) w.heap.size 33 #[.slice (some ⟨b9, o9, none⟩) l.length c, .bool false, .int .u64 z, .int .i64 ((k : Int) + 1)] := B0.out.set_ 3 _
    have b1 := B1.out.far (p := ⟨w.heap.size, 3, none⟩) (Ne.symm hne) (.int .i64 ((k : Int) + 1))
    have hbw := HBW.out.setCell (p := ⟨w.heap.size, 3, none⟩) (Nat.le_refl _) (.int .i64 ((k : Int) + 1))
    clear a0 c0 f0 a1 c1 f1 a2 c2 f2 a3 c3 f3 q2 q3
    change Code.wp _ _ _ _ (W.setCell ⟨w.heap.size, 3, none⟩ (.int .i64 ((k : Int) + 1)))
    generalize (W.setCell ⟨w.heap.size, 3, none⟩ (.int .i64 ((k : Int) + 1))) = W1 at b0 b1 hbw ⊢
    have B0x := Lib.hid b0
    have B1x := Lib.hid b1
    have HBx := Lib.hid hbw
    have a0 := b0.cell 0
    have a1 := b0.cell 1
    have a2 := b0.cell 2
    have a3 := b0.cell 3
    have c0 := b1.cell 0
    have c1 := b1.cell 1
    have c2 := b1.cell 2
    have c3 := b1.cell 3
    have f0 := b1.free 0
    have f1 := b1.free 1
    have f2 := b1.free 2
    have f3 := b1.free 3
    have q2 := b0.free 2
    have e9 := (hbw.cell (p := ⟨b9, o9 + k, none⟩) hb9).trans HE9.out
    clear b0 b1 hbw B0 B1 HBW
    go_wp2_with fail
    have hE := put4 (W := W1) (g := g1) B1x.out rfl (.slice (some ⟨b9, o9, none⟩) l.length c) (.bool false) (.int .u64 z) (.int .i64 ((k : Int) + 1))
    have hEB := put4_below (W := W1) HBx.out (show w.heap.size ≤ g1 by have := HG.out; omega) (.slice (some ⟨b9, o9, none⟩) l.length c) (.bool false) (.int .u64 z) (.int .i64 ((k : Int) + 1))
    generalize ((((W1).setCell ⟨g1, 0, none⟩ (.slice (some ⟨b9, o9, none⟩) l.length c)).setCell ⟨g1, 1, none⟩ (.bool false)).setCell ⟨g1, 2, none⟩ (.int .u64 z)).setCell ⟨g1, 3, none⟩ (.int .i64 ((k : Int) + 1)) = W9 at hE hEB ⊢
    have e0 := hE.cell 0
    have e1 := hE.cell 1
    have e2 := hE.cell 2
    have e3 := hE.cell 3
    rw [← hv.out]
    exact bodyPost_ret (v := .tuple #[.agg #[.slice (some ⟨b9, o9, none⟩) l.length c, .bool false, .int .u64 z, .int .i64 ((k : Int) + 1)], .int .i64 (x.tmod b + b)]) (by simp [results, Try.results14, go_sem, e0, e1, e2, e3]) rfl ⟨rfl, hEB⟩
  · have hv := Lib.hid (show x.tmod b = remI x b by unfold remI; rw [if_neg hneg])
    have t3 : decide (x.tmod b < 0) = false := decide_eq_false hneg
    go_enter Try.func14, Try.ntmps14
    go_upto_region 1 with fail
    have h3 := twoS w #[.slice (some ⟨b9, o9, none⟩) l.length c, .bool false, .int .u64 z, .int .i64 k] #[.slice none 0 0, .bool false, .int .u64 0, .int .i64 0]
    change Code.wp _ _ _ _ ((w.alloc (Obj.cells #[.slice (some ⟨b9, o9, none⟩) l.length c, .bool false, .int .u64 z, .int .i64 k] 33)).alloc (Obj.cells #[.slice none 0 0, .bool false, .int .u64 0, .int .i64 0] 33))
    generalize (w.alloc (Obj.cells #[.slice (some ⟨b9, o9, none⟩) l.length c, .bool false, .int .u64 z, .int .i64 k] 33)).alloc (Obj.cells #[.slice none 0 0, .bool false, .int .u64 0, .int .i64 0] 33) = W at h3 ⊢
    generalize hg1 : w.heap.size + 1 = g1 at h3 ⊢
    obtain ⟨b0, b1, hbw, hz1⟩ := h3
    have B0 := Lib.hid b0
    have B1 := Lib.hid b1
    have HBW := Lib.hid hbw
    have HG := Lib.hid hg1
    have hne : w.heap.size ≠ g1 := by omega
    have a0 := b0.cell 0
    have a1 := b0.cell 1
    have a2 := b0.cell 2
    have a3 := b0.cell 3
    have c0 := b1.cell 0
    have c1 := b1.cell 1
    have c2 := b1.cell 2
    have c3 := b1.cell 3
    have f0 := b1.free 0
    have f1 := b1.free 1
    have f2 := b1.free 2
    have f3 := b1.free 3
    have q2 := b0.free 2
    have q3 := b0.free 3
    clear b0 b1 hbw hg1 hz1
    go_upto_region 4 with fail
    have b0 : Blk (W.setCell ⟨w.heap.size, 3, none⟩ (.int .i64 ((k : Int) + 1))) w.heap.size 33 #[.slice (some ⟨b9, o9, none⟩) l.length c, .bool false, .int .u64 z, .int .i64 ((k : Int) + 1)] := B0.out.set_ 3 _
    have b1 := B1.out.far (p := ⟨w.heap.size, 3, none⟩) (Ne.symm hne) (.int .i64 ((k : Int) + 1))
    have hbw := HBW.out.setCell (p := ⟨w.heap.size, 3, none⟩) (Nat.le_refl _) (.int .i64 ((k : Int) + 1))
    clear a0 c0 f0 a1 c1 f1 a2 c2 f2 a3 c3 f3 q2 q3
    change Code.wp _ _ _ _ (W.setCell ⟨w.heap.size, 3, none⟩ (.int .i64 ((k : Int) + 1)))
    generalize (W.setCell ⟨w.heap.size, 3, none⟩ (.int .i64 ((k : Int) + 1))) = W1 at b0 b1 hbw ⊢
    have B0x := Lib.hid b0
    have B1x := Lib.hid b1
    have HBx := Lib.hid hbw
    have a0 := b0.cell 0
    have a1 := b0.cell 1
    have a2 := b0.cell 2
    have a3 := b0.cell 3
    have c0 := b1.cell 0
    have c1 := b1.cell 1
    have c2 := b1.cell 2
    have c3 := b1.cell 3
    have f0 := b1.free 0
    have f1 := b1.free 1
    have f2 := b1.free 2
    have f3 := b1.free 3
    have q2 := b0.free 2
    have e9 := (hbw.cell (p := ⟨b9, o9 + k, none⟩) hb9).trans HE9.out
    clear b0 b1 hbw B0 B1 HBW
    go_wp2_with fail
    have hE := put4 (W := W1) (g := g1) B1x.out rfl (.slice (some ⟨b9, o9, none⟩) l.length c) (.bool false) (.int .u64 z) (.int .i64 ((k : Int) + 1))
    have hEB := put4_below (W := W1) HBx.out (show w.heap.size ≤ g1 by have := HG.out; omega) (.slice (some ⟨b9, o9, none⟩) l.length c) (.bool false) (.int .u64 z) (.int .i64 ((k : Int) + 1))
    generalize ((((W1).setCell ⟨g1, 0, none⟩ (.slice (some ⟨b9, o9, none⟩) l.length c)).setCell ⟨g1, 1, none⟩ (.bool false)).setCell ⟨g1, 2, none⟩ (.int .u64 z)).setCell ⟨g1, 3, none⟩ (.int .i64 ((k : Int) + 1)) = W9 at hE hEB ⊢
    have e0 := hE.cell 0
    have e1 := hE.cell 1
    have e2 := hE.cell 2
    have e3 := hE.cell 3
    rw [← hv.out]
    exact bodyPost_ret (v := .tuple #[.agg #[.slice (some ⟨b9, o9, none⟩) l.length c, .bool false, .int .u64 z, .int .i64 ((k : Int) + 1)], .int .i64 (x.tmod b)]) (by simp [results, Try.results14, go_sem, e0, e1, e2, e3]) rfl ⟨rfl, hEB⟩
end Go.Proofs.Ytkccciacngjhfaa
