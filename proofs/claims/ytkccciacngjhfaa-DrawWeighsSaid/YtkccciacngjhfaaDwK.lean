/- The reference's Weigh. -/
import Derived.Test.YtkccciacngjhfaaDwI
import Derived.Deep.DeepCutAuto
namespace Go.Proofs.Ytkccciacngjhfaa
open Go.RowKit
attribute [local go_sem ↓] Go.wp_at_zero Go.wp_at_succ

theorem sumT_bd2 {l : List Int} {k : Nat} (h : okW (l.take k)) (hk : k ≤ l.length) : (k : Int) ≤ sumT l k ∧ sumT l k ≤ 1000 * (k : Int) := by
  have := sumT_bd h k (by rw [List.length_take]; omega)
  unfold sumT at this ⊢
  rw [List.take_take, Nat.min_self] at this
  exact this
theorem okW_take {l : List Int} {k : Nat} (h : okW (l.take k)) (hk : k < l.length) (h1 : 1 ≤ l.getD k 0) (h2 : l.getD k 0 ≤ 1000) : okW (l.take (k + 1)) := by
  intro x hx
  rw [List.take_add_one, List.mem_append] at hx
  rcases hx with hx | hx
  · exact h x hx
  · rw [List.getD_eq_getElem?_getD, List.getElem?_eq_getElem hk] at h1 h2
    rw [List.getElem?_eq_getElem hk] at hx
    simp at hx
    subst hx
    exact ⟨h1, h2⟩
set_option maxRecDepth 100000 in
set_option maxHeartbeats 4000000 in
theorem rweigh_nil (A' : Option Addr) (n c' : Nat) (m : Bool) (z u : Int) (A : Option Addr) (c : Nat) (w : World) :
    Calls Try.prog 15 #[.agg #[.slice A' n c', .bool m, .int .u64 z, .int .i64 u], .slice A 0 c] w fun e w' => e = .returned (.tuple #[.agg #[.slice A' n c', .bool m, .int .u64 z, .int .i64 u], .int .i64 0, .int .i64 20]) ∧ Below w.heap.size w w' := by
  go_enter Try.func15, Try.ntmps15
  go_upto_region 1 with fail
  have h3 := twoS w #[.slice A' n c', .bool m, .int .u64 z, .int .i64 u] #[.slice none 0 0, .bool false, .int .u64 0, .int .i64 0]
  change Code.wp _ _ _ _ ((w.alloc (Obj.cells #[.slice A' n c', .bool m, .int .u64 z, .int .i64 u] 33)).alloc (Obj.cells #[.slice none 0 0, .bool false, .int .u64 0, .int .i64 0] 33))
  generalize (w.alloc (Obj.cells #[.slice A' n c', .bool m, .int .u64 z, .int .i64 u] 33)).alloc (Obj.cells #[.slice none 0 0, .bool false, .int .u64 0, .int .i64 0] 33) = W at h3 ⊢
  generalize hg1 : w.heap.size + 1 = g1 at h3 ⊢
  obtain ⟨b0, b1, hbw, hz1⟩ := h3
  have B1 := Lib.hid b1
  have HBW := Lib.hid hbw
  have HG := Lib.hid hg1
  have HZ1 := Lib.hid hz1
  have hne : w.heap.size ≠ g1 := by omega
  have a0 := b0.cell 0
  have a1 := b0.cell 1
  have a2 := b0.cell 2
  have a3 := b0.cell 3
  have c0 := b1.cell 0
  have c1 := b1.cell 1
  have c2 := b1.cell 2
  have c3 := b1.cell 3
  have f0 := b1.free 0
  have f1 := b1.free 1
  have f2 := b1.free 2
  have f3 := b1.free 3
  clear b0 b1 hbw hg1 hz1
  go_wp2_with fail
  have hE := put4 (W := W) (g := g1) B1.out rfl (.slice A' n c') (.bool m) (.int .u64 z) (.int .i64 u)
  have hEB := put4_below (W := W) HBW.out (show w.heap.size ≤ g1 by have := HG.out; omega) (.slice A' n c') (.bool m) (.int .u64 z) (.int .i64 u)
  generalize ((((W).setCell ⟨g1, 0, none⟩ (.slice A' n c')).setCell ⟨g1, 1, none⟩ (.bool m)).setCell ⟨g1, 2, none⟩ (.int .u64 z)).setCell ⟨g1, 3, none⟩ (.int .i64 u) = W9 at hE hEB ⊢
  have x0 := hE.cell 0
  have x1 := hE.cell 1
  have x2 := hE.cell 2
  have x3 := hE.cell 3
  exact bodyPost_ret (v := .tuple #[.agg #[.slice A' n c', .bool m, .int .u64 z, .int .i64 u], .int .i64 (0), .int .i64 (20)]) (by simp [results, Try.results15, go_sem, x0, x1, x2, x3]) rfl ⟨rfl, hEB⟩
set_option maxRecDepth 100000 in
set_option maxHeartbeats 4000000 in
theorem rweigh_err (A' : Option Addr) (n c' : Nat) (m : Bool) (z u : Int) (l : List Int) (A : Option Addr) (c : Nat) (w : World) (ll : l.length ≤ 1000000) (h0 : l ≠ []) (h : 64 < l.length ∨ l.any (fun n => !isW n) = true) (hr : RI w w.heap.size A l) :
    Calls Try.prog 15 #[.agg #[.slice A' n c', .bool m, .int .u64 z, .int .i64 u], .slice A l.length c] w fun e w' => e = .returned (.tuple #[.agg #[.slice A' n c', .bool m, .int .u64 z, .int .i64 u], .int .i64 0, .int .i64 8]) ∧ Below w.heap.size w w' := by
  have hp : 0 < l.length := List.length_pos_iff.2 h0
  have HERR := Lib.hid h
  have Hr0 := Lib.hid hr
  clear h h0 hr
  have t0 : ((l.length : Int) == 0) = false := beq_eq_false_iff_ne.2 (by omega)
  go_enter Try.func15, Try.ntmps15
  go_upto_region 1 with fail
  have h3 := twoS w #[.slice A' n c', .bool m, .int .u64 z, .int .i64 u] #[.slice none 0 0, .bool false, .int .u64 0, .int .i64 0]
  change Code.wp _ _ _ _ ((w.alloc (Obj.cells #[.slice A' n c', .bool m, .int .u64 z, .int .i64 u] 33)).alloc (Obj.cells #[.slice none 0 0, .bool false, .int .u64 0, .int .i64 0] 33))
  generalize (w.alloc (Obj.cells #[.slice A' n c', .bool m, .int .u64 z, .int .i64 u] 33)).alloc (Obj.cells #[.slice none 0 0, .bool false, .int .u64 0, .int .i64 0] 33) = W at h3 ⊢
  generalize hg1 : w.heap.size + 1 = g1 at h3 ⊢
  obtain ⟨b0, b1, hbw, hz1⟩ := h3
  have B1 := Lib.hid b1
  have HBW := Lib.hid hbw
  have HG := Lib.hid hg1
  have HZ1 := Lib.hid hz1
  have hne : w.heap.size ≠ g1 := by omega
  have a0 := b0.cell 0
  have a1 := b0.cell 1
  have a2 := b0.cell 2
  have a3 := b0.cell 3
  have c0 := b1.cell 0
  have c1 := b1.cell 1
  have c2 := b1.cell 2
  have c3 := b1.cell 3
  have f0 := b1.free 0
  have f1 := b1.free 1
  have f2 := b1.free 2
  have f3 := b1.free 3
  clear b0 b1 hbw hg1 hz1
  have Hr := Lib.hid (Hr0.out.onto HBW.out)
  clear Hr0
  go_wp2_with fail
  go_loop [7, 8, 18] (fun x _ i => ∃ k : Nat, k ≤ l.length ∧ k ≤ 64 ∧ i = .int .i64 k ∧ x = .int .i64 (sumT l k) ∧ okW (l.take k)) (fun _ _ i => l.length - (intOf i).toNat)
  case atStart => exact ⟨0, Nat.zero_le _, Nat.zero_le _, rfl, by simp [sumT], fun x hx => by simp at hx⟩
  case round =>
    obtain ⟨k, hk, hk64, rfl, rfl, hok⟩ := hrel
    by_cases hlt : k < l.length
    · have u1 : decide (k < l.length) = true := decide_eq_true hlt
      obtain ⟨b1, o1, rfl, hb1, c1⟩ := Hr.out.at_ hlt
      have e1 := c1 k hlt
      have HS := Lib.hid (sumT_succ hlt)
      have hbd := sumT_bd2 hok hk
      have HOK := Lib.hid (okW_take hok hlt)
      clear c1 hok
      generalize l.getD k 0 = a at *
      generalize sumT l k = y at *
      by_cases v1 : a < 1
      · have w1 : decide (a < 1) = true := decide_eq_true v1
        go_wp2_with fail
        have hE := put4 (W := W) (g := g1) B1.out rfl (.slice A' n c') (.bool m) (.int .u64 z) (.int .i64 u)
        have hEB := put4_below (W := W) HBW.out (show w.heap.size ≤ g1 by have := HG.out; omega) (.slice A' n c') (.bool m) (.int .u64 z) (.int .i64 u)
        generalize ((((W).setCell ⟨g1, 0, none⟩ (.slice A' n c')).setCell ⟨g1, 1, none⟩ (.bool m)).setCell ⟨g1, 2, none⟩ (.int .u64 z)).setCell ⟨g1, 3, none⟩ (.int .i64 u) = W9 at hE hEB ⊢
        have x0 := hE.cell 0
        have x1 := hE.cell 1
        have x2 := hE.cell 2
        have x3 := hE.cell 3
        exact bodyPost_ret (v := .tuple #[.agg #[.slice A' n c', .bool m, .int .u64 z, .int .i64 u], .int .i64 (0), .int .i64 (8)]) (by simp [results, Try.results15, go_sem, x0, x1, x2, x3]) rfl ⟨rfl, hEB⟩
      · have w1 : decide (a < 1) = false := decide_eq_false v1
        by_cases v2 : 1000 < a
        · have w2 : decide (1000 < a) = true := decide_eq_true v2
          go_wp2_with fail
          have hE := put4 (W := W) (g := g1) B1.out rfl (.slice A' n c') (.bool m) (.int .u64 z) (.int .i64 u)
          have hEB := put4_below (W := W) HBW.out (show w.heap.size ≤ g1 by have := HG.out; omega) (.slice A' n c') (.bool m) (.int .u64 z) (.int .i64 u)
          generalize ((((W).setCell ⟨g1, 0, none⟩ (.slice A' n c')).setCell ⟨g1, 1, none⟩ (.bool m)).setCell ⟨g1, 2, none⟩ (.int .u64 z)).setCell ⟨g1, 3, none⟩ (.int .i64 u) = W9 at hE hEB ⊢
          have x0 := hE.cell 0
          have x1 := hE.cell 1
          have x2 := hE.cell 2
          have x3 := hE.cell 3
          exact bodyPost_ret (v := .tuple #[.agg #[.slice A' n c', .bool m, .int .u64 z, .int .i64 u], .int .i64 (0), .int .i64 (8)]) (by simp [results, Try.results15, go_sem, x0, x1, x2, x3]) rfl ⟨rfl, hEB⟩
        · have w2 : decide (1000 < a) = false := decide_eq_false v2
          by_cases v3 : 64 ≤ k
          · have w3 : decide ((64 : Int) ≤ (k : Int)) = true := decide_eq_true (by omega)
            have w4 : decide (64 ≤ k) = true := decide_eq_true (by omega)
            go_wp2_with fail
            have hE := put4 (W := W) (g := g1) B1.out rfl (.slice A' n c') (.bool m) (.int .u64 z) (.int .i64 u)
            have hEB := put4_below (W := W) HBW.out (show w.heap.size ≤ g1 by have := HG.out; omega) (.slice A' n c') (.bool m) (.int .u64 z) (.int .i64 u)
            generalize ((((W).setCell ⟨g1, 0, none⟩ (.slice A' n c')).setCell ⟨g1, 1, none⟩ (.bool m)).setCell ⟨g1, 2, none⟩ (.int .u64 z)).setCell ⟨g1, 3, none⟩ (.int .i64 u) = W9 at hE hEB ⊢
            have x0 := hE.cell 0
            have x1 := hE.cell 1
            have x2 := hE.cell 2
            have x3 := hE.cell 3
            exact bodyPost_ret (v := .tuple #[.agg #[.slice A' n c', .bool m, .int .u64 z, .int .i64 u], .int .i64 (0), .int .i64 (8)]) (by simp [results, Try.results15, go_sem, x0, x1, x2, x3]) rfl ⟨rfl, hEB⟩
          · have w3 : decide ((64 : Int) ≤ (k : Int)) = false := decide_eq_false (by omega)
            have w4 : decide (64 ≤ k) = false := decide_eq_false (by omega)
            go_wp2_with fail
            go_round
            case rel => exact ⟨k + 1, by omega, by omega, by go_num, by rw [HS.out], HOK.out (by omega) (by omega)⟩
            case measure => simp [intOf]; omega
    · exfalso
      obtain rfl : l.length = k := by omega
      rw [List.take_length] at hok
      rcases HERR.out with h | h
      · omega
      · rw [okW_any hok] at h; cases h
set_option maxRecDepth 100000 in
set_option maxHeartbeats 4000000 in
theorem rweigh_ok (A' : Option Addr) (n c' : Nat) (m : Bool) (z u z2 u2 r : Int) (l : List Int) (A : Option Addr) (c : Nat) (w : World) (hl : l.length ≤ 64) (h0 : l ≠ []) (hw : okW l) (hr : RI w w.heap.size A l)
    (hcall : ∀ w', Below w.heap.size w w' → Calls Try.prog 14 #[.agg #[.slice A' n c', .bool m, .int .u64 z, .int .i64 u], .int .i64 l.sum] w' fun e w'' => e = .returned (.tuple #[.agg #[.slice A' n c', .bool m, .int .u64 z2, .int .i64 u2], .int .i64 r]) ∧ Below w'.heap.size w' w'')
    (hr1 : -4294967296 ≤ r) (hr2 : r < l.sum) :
    Calls Try.prog 15 #[.agg #[.slice A' n c', .bool m, .int .u64 z, .int .i64 u], .slice A l.length c] w fun e w' => e = .returned (.tuple #[.agg #[.slice A' n c', .bool m, .int .u64 z2, .int .i64 u2], .int .i64 (plc r l), .int .i64 0]) ∧ Below w.heap.size w w' := by
  have hp : 0 < l.length := List.length_pos_iff.2 h0
  have HW := Lib.hid hw
  have Hr0 := Lib.hid hr
  have HC := Lib.hid hcall
  have HR1 := Lib.hid hr1
  have HR2 := Lib.hid hr2
  clear h0 hr hcall hw hr1 hr2
  have t0 : ((l.length : Int) == 0) = false := beq_eq_false_iff_ne.2 (by omega)
  go_enter Try.func15, Try.ntmps15
  go_upto_region 1 with fail
  have h3 := twoS w #[.slice A' n c', .bool m, .int .u64 z, .int .i64 u] #[.slice none 0 0, .bool false, .int .u64 0, .int .i64 0]
  change Code.wp _ _ _ _ ((w.alloc (Obj.cells #[.slice A' n c', .bool m, .int .u64 z, .int .i64 u] 33)).alloc (Obj.cells #[.slice none 0 0, .bool false, .int .u64 0, .int .i64 0] 33))
  generalize (w.alloc (Obj.cells #[.slice A' n c', .bool m, .int .u64 z, .int .i64 u] 33)).alloc (Obj.cells #[.slice none 0 0, .bool false, .int .u64 0, .int .i64 0] 33) = W at h3 ⊢
  generalize hg1 : w.heap.size + 1 = g1 at h3 ⊢
  obtain ⟨b0, b1, hbw, hz1⟩ := h3
  have B1 := Lib.hid b1
  have HBW := Lib.hid hbw
  have HG := Lib.hid hg1
  have HZ1 := Lib.hid hz1
  have hne : w.heap.size ≠ g1 := by omega
  have a0 := b0.cell 0
  have a1 := b0.cell 1
  have a2 := b0.cell 2
  have a3 := b0.cell 3
  have c0 := b1.cell 0
  have c1 := b1.cell 1
  have c2 := b1.cell 2
  have c3 := b1.cell 3
  have f0 := b1.free 0
  have f1 := b1.free 1
  have f2 := b1.free 2
  have f3 := b1.free 3
  clear b0 b1 hbw hg1 hz1
  have Hr := Lib.hid (Hr0.out.onto HBW.out)
  clear Hr0
  go_wp2_with fail
  go_loop [7, 8, 18] (fun x _ i => ∃ k : Nat, k ≤ l.length ∧ i = .int .i64 k ∧ x = .int .i64 (sumT l k)) (fun _ _ i => l.length - (intOf i).toNat)
  case atStart => exact ⟨0, Nat.zero_le _, rfl, by simp [sumT]⟩
  case round =>
    obtain ⟨k, hk, rfl, rfl⟩ := hrel
    by_cases hlt : k < l.length
    · have u1 : decide (k < l.length) = true := decide_eq_true hlt
      obtain ⟨b1, o1, rfl, hb1, c1⟩ := Hr.out.at_ hlt
      have e1 := c1 k hlt
      have HS := Lib.hid (sumT_succ hlt)
      have hq := okW_at HW.out hlt
      have hbd := sumT_bd HW.out k (by omega)
      clear c1
      generalize l.getD k 0 = a at *
      generalize sumT l k = y at *
      have w1 : decide (a < 1) = false := decide_eq_false (by omega)
      have w2 : decide (1000 < a) = false := decide_eq_false (by omega)
      have w3 : decide ((64 : Int) ≤ (k : Int)) = false := decide_eq_false (by omega)
      have w4 : decide (64 ≤ k) = false := decide_eq_false (by omega)
      go_wp2_with fail
      go_round
      case rel => exact ⟨k + 1, by omega, by go_num, by rw [HS.out]⟩
      case measure => simp [intOf]; omega
    · obtain rfl : l.length = k := by omega
      rw [sumT_all]
      go_wp2_with fail
      refine (HC.out _ HBW.out).mono ?_
      rintro e w2 ⟨rfl, hb2⟩
      have HB2 := Lib.hid (HBW.out.trans (hb2.mono HBW.out.size))
      have B2 := Lib.hid (B1.out.onto hb2)
      have Hr2 := Lib.hid (Hr.out.onto hb2)
      have HG2 := Lib.hid (show g1 < w2.heap.size from B2.out.lt)
      clear hb2 a0 c0 f0 a1 c1 f1 a2 c2 f2 a3 c3 f3
      go_upto_region 12 with fail
      have hq3 := Blk.new w2 33 #[.slice A' n c', .bool m, .int .u64 z2, .int .i64 u2]
      have hb3 : Below w2.heap.size w2 (w2.alloc (.cells #[.slice A' n c', .bool m, .int .u64 z2, .int .i64 u2] 33)) := (Below.refl _ _).alloc (Nat.le_refl _) _
      have b3 := B2.out.onto hb3
      have B3 := Lib.hid b3
      have HB3 := Lib.hid (HB2.out.trans (hb3.mono HB2.out.size))
      have Hr3 := Lib.hid (Hr2.out.onto hb3)
      have hne3 : w2.heap.size ≠ g1 := by have := HG2.out; omega
      change Code.wp _ _ _ _ (w2.alloc (Obj.cells #[.slice A' n c', .bool m, .int .u64 z2, .int .i64 u2] 33))
      generalize (w2.alloc (Obj.cells #[.slice A' n c', .bool m, .int .u64 z2, .int .i64 u2] 33)) = W3 at *
      generalize w2.heap.size = q at *
      have a0 := hq3.cell 0
      have a1 := hq3.cell 1
      have a2 := hq3.cell 2
      have a3 := hq3.cell 3
      have c0 := b3.cell 0
      have c1 := b3.cell 1
      have c2 := b3.cell 2
      have c3 := b3.cell 3
      have f0 := b3.free 0
      have f1 := b3.free 1
      have f2 := b3.free 2
      have f3 := b3.free 3
      clear hq3 hb3 b3 B2 HB2 Hr2 Hr
      go_wp2_with fail
      go_loop [10, 11, 53] (fun x _ i => ∃ k : Nat, k ≤ l.length ∧ i = .int .i64 k ∧ x = .int .i64 (r - sumT l k) ∧ plc r l = plc (r - sumT l k) (l.drop k) + k ∧ (k = 0 ∨ 0 ≤ r - sumT l k)) (fun _ _ i => l.length - (intOf i).toNat)
      case atStart => exact ⟨0, Nat.zero_le _, rfl, by simp [sumT], by simp [sumT], .inl rfl⟩
      case round =>
        obtain ⟨k, hk, rfl, rfl, hx, hpos⟩ := hrel
        by_cases hlt : k < l.length
        · have u1 : decide (k < l.length) = true := decide_eq_true hlt
          obtain ⟨b1, o1, rfl, hb1, d1⟩ := Hr3.out.at_ hlt
          have e1 := d1 k hlt
          have HP := Lib.hid (plc_at hlt hx)
          have HS := Lib.hid (sumT_succ hlt)
          have hq := okW_at HW.out hlt
          have hbd := sumT_bd HW.out k (by omega)
          clear d1 hx hpos
          generalize l.getD k 0 = a at *
          generalize hy : r - sumT l k = y at *
          have HY := Lib.hid hy
          have hyb : -4294967296 - 64000 ≤ y ∧ y ≤ 9223372036854775807 := by
            have := HR1.out
            have := HR2.out
            have h2 := sumT_bd HW.out l.length (Nat.le_refl _)
            rw [sumT_all] at h2
            omega
          clear hy
          by_cases hya : y < a
          · have HR := Lib.hid (HP.out.1 hya)
            go_wp2_with fail
            have hE := put4 (W := W3) (g := g1) B3.out rfl (.slice A' n c') (.bool m) (.int .u64 z2) (.int .i64 u2)
            have hEB := put4_below (W := W3) HB3.out (show w.heap.size ≤ g1 by have := HG.out; omega) (.slice A' n c') (.bool m) (.int .u64 z2) (.int .i64 u2)
            generalize ((((W3).setCell ⟨g1, 0, none⟩ (.slice A' n c')).setCell ⟨g1, 1, none⟩ (.bool m)).setCell ⟨g1, 2, none⟩ (.int .u64 z2)).setCell ⟨g1, 3, none⟩ (.int .i64 u2) = W9 at hE hEB ⊢
            have x0 := hE.cell 0
            have x1 := hE.cell 1
            have x2 := hE.cell 2
            have x3 := hE.cell 3
            exact bodyPost_ret (v := .tuple #[.agg #[.slice A' n c', .bool m, .int .u64 z2, .int .i64 u2], .int .i64 ((k : Int)), .int .i64 (0)]) (by simp [results, Try.results15, go_sem, x0, x1, x2, x3]) rfl ⟨by rw [HR.out], hEB⟩
          · have HR := Lib.hid (HP.out.2 hya)
            go_wp2_with fail
            go_round
            case rel => exact ⟨k + 1, by omega, by go_num, by rw [HS.out, ← HY.out]; congr 1; omega, HR.out, .inr (by rw [HS.out]; have := HY.out; omega)⟩
            case measure => simp [intOf]; omega
        · exfalso
          obtain rfl : l.length = k := by omega
          rw [sumT_all] at hpos
          have := HR2.out
          rcases hpos with h | h
          · omega
          · omega
end Go.Proofs.Ytkccciacngjhfaa
