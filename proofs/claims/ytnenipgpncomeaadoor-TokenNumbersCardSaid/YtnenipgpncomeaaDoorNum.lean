/- Contracts of the reference's Add, Neg, Less, Same. -/
import Derived.Test.YtnenipgpncomeaaDoorAdd
namespace Go.Proofs.YtnenipgpncomeaaDoor.W2
open Go.RowKit
open Fg
attribute [local go_sem ↓] Go.wp_at_zero Go.wp_at_succ

/-- two new blocks, under names -/
def Two (w W : World) (g1 : Nat) (a b : Array Value) : Prop :=
  Blk W w.heap.size 34 a ∧ Blk W g1 34 b ∧ Below w.heap.size w W ∧ w.heap.size < g1 ∧ g1 < W.heap.size
theorem two (w : World) (a b : Array Value) : Two w ((w.alloc (Obj.cells a 34)).alloc (Obj.cells b 34)) (w.heap.size + 1) a b := by
  have h1 : (w.alloc (Obj.cells a 34)).heap.size = w.heap.size + 1 := by simp
  refine ⟨(Blk.new w _ _).alloc _, ?_, ((Below.refl _ _).alloc (Nat.le_refl _) _).alloc (by simp) _, by omega, by simp⟩
  rw [← h1]; exact Blk.new _ _ _
theorem nz_of {z : Int} {w W : World} {e : Ending} (h : GivesN z w e W) : ∃ b A n c, e = .returned (.agg #[.bool b, .slice A n c]) ∧ Nz W W.heap.size (.agg #[.bool b, .slice A n c]) z ∧ Below w.heap.size w W ∧ Hid (b = decide (z < 0)) := by
  obtain ⟨v, rfl, ⟨A, c, rfl, hc, hr⟩, hb⟩ := h
  exact ⟨_, A, _, c, rfl, ⟨A, c, rfl, hc, hr⟩, hb, Lib.hid rfl⟩

/-- two structs as they lie in the blocks H and g, and the world W stands below -/
def Pair2 (W : World) (H g : Nat) (sa sb : Bool) (x y : Value) (V : World) : Prop :=
  V.cell? ⟨H, 0, none⟩ = some (.bool sa) ∧ V.cell? ⟨H, 1, none⟩ = some x ∧ V.cell? ⟨g, 0, none⟩ = some (.bool sb) ∧ V.cell? ⟨g, 1, none⟩ = some y ∧ Below W.heap.size W V
theorem pair2 {W V : World} {H g : Nat} {sa sb : Bool} {x y : Value} (h0 : Blk W H 34 #[.bool sa, x]) (h1 : Blk W g 34 #[.bool sb, y]) (hb : Below W.heap.size W V) : Pair2 W H g sa sb x y V :=
  ⟨(hb.cell (p := ⟨H, 0, none⟩) h0.lt).trans (h0.cell 0), (hb.cell (p := ⟨H, 1, none⟩) h0.lt).trans (h0.cell 1), (hb.cell (p := ⟨g, 0, none⟩) h1.lt).trans (h1.cell 0), (hb.cell (p := ⟨g, 1, none⟩) h1.lt).trans (h1.cell 1), hb⟩

end Go.Proofs.YtnenipgpncomeaaDoor.W2
