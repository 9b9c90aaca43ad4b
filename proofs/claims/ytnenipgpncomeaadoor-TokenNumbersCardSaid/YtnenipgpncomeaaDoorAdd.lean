/- Contracts of the reference's Add, by its ways. -/
import Derived.Test.YtnenipgpncomeaaDoorBoth
namespace Go.Proofs.YtnenipgpncomeaaDoor.W2
open Go.RowKit
open Fg
attribute [local go_sem ↓] Go.wp_at_zero Go.wp_at_succ

/-- a number of at most k figures -/
def Sm (k : Nat) (z : Int) : Prop := z.natAbs < 10000 ^ k
theorem Sm.len {k : Nat} {z : Int} (h : Sm k z) : (figs z.natAbs).length ≤ k := figs_len h
theorem Sm.mono {j k : Nat} {z : Int} (h : Sm j z) (hk : j ≤ k) : Sm k z := Nat.lt_of_lt_of_le h (Nat.pow_le_pow_right (by decide) hk)
theorem Sm.add {j k n : Nat} {a b : Int} (h : Sm j a) (g : Sm k b) (hj : j ≤ n) (hk : k ≤ n) : Sm (n + 1) (a + b) := by
  have h1 := h.mono hj
  have g1 := g.mono hk
  unfold Sm at *
  rw [Nat.pow_succ]
  omega
theorem Sm.neg {k : Nat} {z : Int} (h : Sm k z) : Sm k (-z) := by unfold Sm at *; rw [Int.natAbs_neg]; exact h
theorem Sm.mul {j k : Nat} {a b : Int} (h : Sm j a) (g : Sm k b) : Sm (j + k) (a * b) := by
  unfold Sm at *
  rw [Int.natAbs_mul, Nat.pow_add]
  exact Nat.mul_lt_mul'' h g
theorem sm_in {a : Int} (h : In64 a) : Sm 5 a := by
  unfold Sm In64 at *
  omega

/-- what a walk is told of a number's figures -/
theorem nz_open {w : World} {B : Nat} {v : Value} {z : Int} (h : Nz w B v z) (hk : Sm 200 z) : ∃ l A c, v = .agg #[.bool (decide (z < 0)), .slice A l.length c] ∧ l.length ≤ c ∧ l.length ≤ 200 ∧ Reads w B A l ∧ dig l ∧ val l = z.natAbs ∧ l = figs z.natAbs := by
  obtain ⟨A, c, rfl, hc, hr⟩ := h
  exact ⟨_, A, c, rfl, hc, hk.len, hr, dig_figs _, val_figs _, rfl⟩
theorem lessB_figs (a b : Nat) : lessB (figs a) (figs b) = decide (a < b) := by
  by_cases h : (figs a).length = (figs b).length
  · rw [lessB_eq h, val_figs, val_figs]; simp
  · rw [lessB_ne h]
    rcases Nat.lt_or_ge (figs a).length (figs b).length with h1 | h1
    · rw [decide_eq_true h1, decide_eq_true (figs_lt h1)]
    · rw [decide_eq_false (by omega), decide_eq_false (by have := figs_lt (a := b) (b := a) (by omega); omega)]

theorem bcell {W w1 : World} {B : Nat} (hb : Below B W w1) : (∀ b o, b < B → w1.cell? ⟨b, o, none⟩ = W.cell? ⟨b, o, none⟩) ∧ (∀ b o, b < B → w1.frozen? ⟨b, o, none⟩ = W.frozen? ⟨b, o, none⟩) :=
  ⟨fun b o h => hb.cell (p := ⟨b, o, none⟩) h, fun b o h => hb.frozen (p := ⟨b, o, none⟩) h⟩

/-- three new blocks, under names -/
def Three (w W : World) (g1 g2 : Nat) (a b c : Array Value) : Prop :=
  Blk W w.heap.size 34 a ∧ Blk W g1 34 b ∧ Blk W g2 34 c ∧ Below w.heap.size w W ∧ w.heap.size < g1 ∧ g1 < g2 ∧ g2 < W.heap.size
theorem three (w : World) (a b c : Array Value) : Three w (((w.alloc (Obj.cells a 34)).alloc (Obj.cells b 34)).alloc (Obj.cells c 34)) (w.heap.size + 1) (w.heap.size + 1 + 1) a b c := by
  have h1 : (w.alloc (Obj.cells a 34)).heap.size = w.heap.size + 1 := by simp
  have h2 : ((w.alloc (Obj.cells a 34)).alloc (Obj.cells b 34)).heap.size = w.heap.size + 1 + 1 := by simp
  refine ⟨((Blk.new w _ _).alloc _).alloc _, ?_, ?_, (((Below.refl _ _).alloc (Nat.le_refl _) _).alloc (by simp) _).alloc (by simp; omega) _, by omega, by omega, by simp⟩
  · rw [← h1]; exact (Blk.new _ _ _).alloc _
  · rw [← h2]; exact Blk.new _ _ _
/-- the result's block, behind the two stores -/
theorem gives_set {z : Int} {w w3 : World} {g : Nat} {cs : Array Value} {A : Option Addr} {b : Bool} {n c : Nat} (h : Nz w3 w3.heap.size (.agg #[.bool b, .slice A n c]) z) (hb : Below w.heap.size w w3) (hg : Blk w3 g 34 cs) (hw : w.heap.size ≤ g) (u v : Value) :
    GivesN z w (.returned (.agg #[.bool b, .slice A n c])) ((w3.setCell ⟨g, 0, none⟩ u).setCell ⟨g, 1, none⟩ v) := by
  have h1 := (h.set hg (by decide) 0 u).set (hg.set_ 0 u) (by decide) 1 v
  exact ⟨_, rfl, h1.more (by simp [World.setCell]), (hb.setCell hw _).setCell hw _⟩

end Go.Proofs.YtnenipgpncomeaaDoor.W2
