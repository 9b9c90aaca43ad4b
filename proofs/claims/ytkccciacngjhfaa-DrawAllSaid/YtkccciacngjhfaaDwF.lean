/- The fixed fact of layer 12. -/
import Derived.Test.YtkccciacngjhfaaDwB
import Derived.Test.YtkccciacngjhfaaDwC
namespace Go.Proofs.Ytkccciacngjhfaa
open Go.RowKit

/-- a row of one number, just made -/
theorem ri_one (w : World) (y : Int) : RI (w.alloc (.cells #[.int .i64 y] 3)) (w.alloc (.cells #[.int .i64 y] 3)).heap.size (some ⟨w.heap.size, 0, none⟩) [y] := fun _ =>
  ⟨_, 0, rfl, by simp, fun i hi => by
    obtain rfl : i = 0 := by simpa using hi
    exact (Blk.new w 3 #[.int .i64 y]).cell 0⟩
set_option maxRecDepth 100000 in
set_option maxHeartbeats 4000000 in
theorem awake12_any (w : World) : Calls Try.prog 8 #[] w fun e w' => e = .returned (.bool true) ∧ Below w.heap.size w w' := by
  have hq1 : ∀ (g : Nat) (w : World), (binOp .neq 35 (.iface 59 (.pointer (some ⟨g, 0, none⟩))) .nilIface).run Try.prog w = .ok (.bool true) w := fun _ _ => by kernel_rfl
  have hq2 : ∀ (g : Nat) (w : World), (binOp .neq 35 (.iface 65 (.pointer (some ⟨g, 0, none⟩))) .nilIface).run Try.prog w = .ok (.bool true) w := fun _ _ => by kernel_rfl
  have HB := Lib.hid (Below.refl w.heap.size w)
  go_enter Try.func8, Try.ntmps8
  go_wp2_with fail
  have hr1 := ri_one w 0
  have hb1 : Below w.heap.size w (w.alloc (.cells #[.int .i64 0] 3)) := (Below.refl _ _).alloc (Nat.le_refl _) _
  generalize w.alloc (.cells #[.int .i64 0] 3) = w1 at hr1 hb1 ⊢
  have HB1 := Lib.hid hb1
  refine (dorder_any [] [0] none (some ⟨w.heap.size, 0, none⟩) 0 1 _ (by simp) (RI.nil _ _ _) hr1).mono ?_
  rintro e w' ⟨rfl, rfl⟩
  rw [show ordI [] [0] = -1 from rfl]
  clear hr1 hb1
  go_wp2_with fail
  have hr1 := (ri_one w1 0).onto ((Below.refl _ _).alloc (Nat.le_refl _) (.cells #[.int .i64 1] 3))
  have hr2 := ri_one (w1.alloc (.cells #[.int .i64 0] 3)) 1
  have hb2 : Below w.heap.size w ((w1.alloc (.cells #[.int .i64 0] 3)).alloc (.cells #[.int .i64 1] 3)) := (HB1.out.alloc HB1.out.size _).alloc (by have := HB1.out.size; simp; omega) _
  rw [show (w1.alloc (.cells #[.int .i64 0] 3)).heap.size = w1.heap.size + 1 by simp] at hr2
  generalize (w1.alloc (.cells #[.int .i64 0] 3)).alloc (.cells #[.int .i64 1] 3) = w2 at hr1 hr2 hb2 ⊢
  have HB2 := Lib.hid hb2
  refine (dorder_any [0] [1] (some ⟨w1.heap.size, 0, none⟩) (some ⟨w1.heap.size + 1, 0, none⟩) 1 1 _ (by simp) hr1 hr2).mono ?_
  rintro e w' ⟨rfl, rfl⟩
  rw [show ordI [0] [1] = -1 from rfl]
  clear hr1 hr2 hb2
  go_wp2_with fail
  have hr1 := ri_one w2 1
  have hb3 : Below w.heap.size w (w2.alloc (.cells #[.int .i64 1] 3)) := HB2.out.alloc HB2.out.size _
  generalize w2.alloc (.cells #[.int .i64 1] 3) = w3 at hr1 hb3 ⊢
  have HB3 := Lib.hid hb3
  refine (dgood_any [1] (some ⟨w2.heap.size, 0, none⟩) 1 _ (by simp) hr1).mono ?_
  rintro e w' ⟨rfl, rfl⟩
  rw [show goodD [1] = true from rfl]
  clear hr1 hb3
  go_wp2_with fail
  refine (script_any none [] 0 _ (fun _ => ⟨rfl, rfl⟩) (by simp) (RI.nil _ _ _)).mono ?_
  rintro e w4 ⟨g, rfl, _, _, hb4⟩
  have HB4 := Lib.hid (HB3.out.trans (hb4.mono HB3.out.size))
  clear hb4
  go_wp2_with fail
  refine (mix_any 1 _).mono ?_
  rintro e w5 ⟨g2, rfl, _, _, hb5⟩
  have HB5 := Lib.hid (HB4.out.trans (hb5.mono HB4.out.size))
  clear hb5
  go_wp2_with fail
  go_ret
  exact ⟨rfl, HB5.out⟩
end Go.Proofs.Ytkccciacngjhfaa
