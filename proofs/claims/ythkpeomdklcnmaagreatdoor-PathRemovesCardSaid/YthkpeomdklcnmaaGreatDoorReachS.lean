/- reach, as Set uses it: contract. -/
import Derived.Test.YthkpeomdklcnmaaGreatDoorWay
import Derived.Test.YthkpeomdklcnmaaGreatDoorZip
import Derived.Test.YthkpeomdklcnmaaGreatDoorCells
import Derived.Outline
namespace Go.Proofs.YthkpeomdklcnmaaGreatDoor
open Go.RowKit
set_option linter.unusedVariables false

/-- x, copied, is stored at (b, o) -/
def SetAt (b o : Nat) (x : T) (w : World) (e : Ending) (w' : World) : Prop := ∃ w2 D d D' d', e = .returned (.bool true) ∧ Below w.heap.size w w2 ∧ TV w2 (fun k => w.heap.size ≤ k ∧ k < w2.heap.size) x D d D' d' ∧ w' = ((((((w2.setCell ⟨b, o, none⟩ (.int .i64 x.kind)).setCell ⟨b, o + 1, none⟩ (.bool x.tr)).setCell ⟨b, o + 2, none⟩ (.int .i64 x.num)).setCell ⟨b, o + 3, none⟩ (.string x.str)).setCell ⟨b, o + 4, none⟩ (.slice D x.items.length d)).setCell ⟨b, o + 5, none⟩ (.slice D' x.keys.length d'))
/-- where reach stands in a value that lies in rows of its own -/
def StandsS (w : World) (g0 LO HI : Nat) (t : T) (p : List ByteArray) (j : Nat) (s : Value) (wr : World) : Prop :=
  ∃ (y : T) (b o lo hi : Nat) (A : Option Addr) (c : Nat) (A' : Option Addr) (c' : Nat) (cs : Array Value), s = .pointer (some ⟨b, o, none⟩) ∧ b < w.heap.size ∧ Six wr b o y A c A' c' ∧ Own wr lo hi y A c A' c' ∧ (b < lo ∨ hi ≤ b) ∧ (b = g0 ∨ (LO ≤ b ∧ b < HI)) ∧ LO ≤ lo ∧ hi ≤ HI ∧
    Blk wr b 34 cs ∧ o + 6 ≤ cs.size ∧ Zip g0 LO HI wr t p y (p.drop j) lo hi b o ∧ y.Fine ∧ (∀ x, Leads t p x ↔ Leads y (p.drop j) x) ∧ Below w.heap.size w wr
/-- how it ends -/
def ReachSPost (g0 LO : Nat) (t : T) (p : List ByteArray) (x : T) (w : World) (e : Ending) (w' : World) : Prop :=
  (∃ y r D d D' d', Leads t p y ∧ Sets t p x r ∧ e = .returned (.bool true) ∧ Six w' g0 0 r D d D' d' ∧ TV w' (fun k => LO ≤ k ∧ k < w'.heap.size) r D d D' d' ∧ Below LO w w') ∨
  ((∀ y, ¬ Leads t p y) ∧ e = .returned (.bool false) ∧ Below w.heap.size w w')
theorem put6_heap {w : World} {g o : Nat} {v0 v1 v2 v3 v4 v5 : Value} {k : Nat} (h : k ≠ g) : (((((((w.setCell ⟨g, o, none⟩ v0).setCell ⟨g, o + 1, none⟩ v1).setCell ⟨g, o + 2, none⟩ v2).setCell ⟨g, o + 3, none⟩ v3).setCell ⟨g, o + 4, none⟩ v4).setCell ⟨g, o + 5, none⟩ v5)).heap[k]? = w.heap[k]? := by
  rw [Below.heap_setCell _ _ _ _ h, Below.heap_setCell _ _ _ _ h, Below.heap_setCell _ _ _ _ h, Below.heap_setCell _ _ _ _ h, Below.heap_setCell _ _ _ _ h, Below.heap_setCell _ _ _ _ h]
theorem put6_size {w : World} {g o : Nat} {v0 v1 v2 v3 v4 v5 : Value} : (((((((w.setCell ⟨g, o, none⟩ v0).setCell ⟨g, o + 1, none⟩ v1).setCell ⟨g, o + 2, none⟩ v2).setCell ⟨g, o + 3, none⟩ v3).setCell ⟨g, o + 4, none⟩ v4).setCell ⟨g, o + 5, none⟩ v5)).heap.size = w.heap.size := by simp [World.setCell]
theorem put6_below {B : Nat} {a w : World} {g o : Nat} {v0 v1 v2 v3 v4 v5 : Value} (h : Below B a w) (hg : B ≤ g) : Below B a ((((((w.setCell ⟨g, o, none⟩ v0).setCell ⟨g, o + 1, none⟩ v1).setCell ⟨g, o + 2, none⟩ v2).setCell ⟨g, o + 3, none⟩ v3).setCell ⟨g, o + 4, none⟩ v4).setCell ⟨g, o + 5, none⟩ v5) :=
  (((((h.setCell hg _).setCell hg _).setCell hg _).setCell hg _).setCell hg _).setCell hg _
/-- what is stored at the end of the way makes of the whole -/
theorem zip_end {g0 LO HI : Nat} {wr w2 : World} {t : T} {p : List ByteArray} {y x : T} {lo hi b o : Nat} {cs : Array Value} {D : Option Addr} {d : Nat} {D' : Option Addr} {d' : Nat}
    (hz : Zip g0 LO HI wr t p y [] lo hi b o) (hb : Blk wr b 34 cs) (ho : o + 6 ≤ cs.size) (hbg : b = g0 ∨ (LO ≤ b ∧ b < HI)) (hg0 : g0 < wr.heap.size) (hH : HI ≤ wr.heap.size) (hL : LO ≤ wr.heap.size) (h2 : Below wr.heap.size wr w2) (hT : TV w2 (fun k => wr.heap.size ≤ k ∧ k < w2.heap.size) x D d D' d') :
    ∃ r E e E' e', Sets t p x r ∧ Six ((((((w2.setCell ⟨b, o, none⟩ (.int .i64 x.kind)).setCell ⟨b, o + 1, none⟩ (.bool x.tr)).setCell ⟨b, o + 2, none⟩ (.int .i64 x.num)).setCell ⟨b, o + 3, none⟩ (.string x.str)).setCell ⟨b, o + 4, none⟩ (.slice D x.items.length d)).setCell ⟨b, o + 5, none⟩ (.slice D' x.keys.length d')) g0 0 r E e E' e' ∧ TV ((((((w2.setCell ⟨b, o, none⟩ (.int .i64 x.kind)).setCell ⟨b, o + 1, none⟩ (.bool x.tr)).setCell ⟨b, o + 2, none⟩ (.int .i64 x.num)).setCell ⟨b, o + 3, none⟩ (.string x.str)).setCell ⟨b, o + 4, none⟩ (.slice D x.items.length d)).setCell ⟨b, o + 5, none⟩ (.slice D' x.keys.length d')) (fun k => LO ≤ k ∧ k < (((((((w2.setCell ⟨b, o, none⟩ (.int .i64 x.kind)).setCell ⟨b, o + 1, none⟩ (.bool x.tr)).setCell ⟨b, o + 2, none⟩ (.int .i64 x.num)).setCell ⟨b, o + 3, none⟩ (.string x.str)).setCell ⟨b, o + 4, none⟩ (.slice D x.items.length d)).setCell ⟨b, o + 5, none⟩ (.slice D' x.keys.length d'))).heap.size) r E e E' e' := by
  have hbl := hb.lt
  obtain ⟨F, f1, f2⟩ := hz
  obtain ⟨cs', hb', hz', h6', hfar⟩ := six_put (hb.onto h2) ho x D d D' d'
  have hsz : (((((((w2.setCell ⟨b, o, none⟩ (.int .i64 x.kind)).setCell ⟨b, o + 1, none⟩ (.bool x.tr)).setCell ⟨b, o + 2, none⟩ (.int .i64 x.num)).setCell ⟨b, o + 3, none⟩ (.string x.str)).setCell ⟨b, o + 4, none⟩ (.slice D x.items.length d)).setCell ⟨b, o + 5, none⟩ (.slice D' x.keys.length d'))).heap.size = w2.heap.size := put6_size
  have hw2 := h2.size
  have o1 : ∀ k, (k = g0 ∨ (LO ≤ k ∧ k < HI)) → ¬ (lo ≤ k ∧ k < hi) → k ≠ b → (((((((w2.setCell ⟨b, o, none⟩ (.int .i64 x.kind)).setCell ⟨b, o + 1, none⟩ (.bool x.tr)).setCell ⟨b, o + 2, none⟩ (.int .i64 x.num)).setCell ⟨b, o + 3, none⟩ (.string x.str)).setCell ⟨b, o + 4, none⟩ (.slice D x.items.length d)).setCell ⟨b, o + 5, none⟩ (.slice D' x.keys.length d'))).heap[k]? = wr.heap[k]? := fun k hk _ hne => (put6_heap hne).trans (h2.block k (by rcases hk with rfl | hk <;> omega))
  have o2 : ∀ i, (i < o ∨ o + 6 ≤ i) → (((((((w2.setCell ⟨b, o, none⟩ (.int .i64 x.kind)).setCell ⟨b, o + 1, none⟩ (.bool x.tr)).setCell ⟨b, o + 2, none⟩ (.int .i64 x.num)).setCell ⟨b, o + 3, none⟩ (.string x.str)).setCell ⟨b, o + 4, none⟩ (.slice D x.items.length d)).setCell ⟨b, o + 5, none⟩ (.slice D' x.keys.length d'))).cell? ⟨b, i, none⟩ = wr.cell? ⟨b, i, none⟩ := fun i hi => by rw [hb'.cell, hfar i hi, hb.cell]
  have o3 : TV ((((((w2.setCell ⟨b, o, none⟩ (.int .i64 x.kind)).setCell ⟨b, o + 1, none⟩ (.bool x.tr)).setCell ⟨b, o + 2, none⟩ (.int .i64 x.num)).setCell ⟨b, o + 3, none⟩ (.string x.str)).setCell ⟨b, o + 4, none⟩ (.slice D x.items.length d)).setCell ⟨b, o + 5, none⟩ (.slice D' x.keys.length d')) (fun k => LO ≤ k ∧ k < (((((((w2.setCell ⟨b, o, none⟩ (.int .i64 x.kind)).setCell ⟨b, o + 1, none⟩ (.bool x.tr)).setCell ⟨b, o + 2, none⟩ (.int .i64 x.num)).setCell ⟨b, o + 3, none⟩ (.string x.str)).setCell ⟨b, o + 4, none⟩ (.slice D x.items.length d)).setCell ⟨b, o + 5, none⟩ (.slice D' x.keys.length d'))).heap.size) x D d D' d' := by
    refine (hT.keep fun k hk => put6_heap (by omega)).wide fun k hk => ⟨by omega, by rw [hsz]; exact hk.2⟩
  obtain ⟨E, e, E', e', k6, kv⟩ := f2 ((((((w2.setCell ⟨b, o, none⟩ (.int .i64 x.kind)).setCell ⟨b, o + 1, none⟩ (.bool x.tr)).setCell ⟨b, o + 2, none⟩ (.int .i64 x.num)).setCell ⟨b, o + 3, none⟩ (.string x.str)).setCell ⟨b, o + 4, none⟩ (.slice D x.items.length d)).setCell ⟨b, o + 5, none⟩ (.slice D' x.keys.length d')) x D d D' d' o1 o2 (by rw [hsz]; omega) h6' o3
  exact ⟨F x, E, e, E', e', f1 x x rfl, k6, kv⟩
end Go.Proofs.YthkpeomdklcnmaaGreatDoor
