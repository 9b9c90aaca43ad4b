/- How any three values are in the order, and whether two are the same, is the document's; the order is a whole one. No condition: any three lists of nodes. -/
import Derived.Test.YtleikaiokoahdaaRows
import Derived.Test.YtleikaiokoahdaaOpen
import Derived.Test.YtleikaiokoahdaaLTree
import Derived.Test.YtleikaiokoahdaaOrder3
import Derived.Test.YtleikaiokoahdaaLess3
import Derived.Test.YtleikaiokoahdaaVSame
import Derived.Test.YtleikaiokoahdaaInv
import Derived.Test.YtleikaiokoahdaaCells
import Derived.Test.YtleikaiokoahdaaAwake
import Derived.WalkKit
import Derived.ProofKit
import Derived.OpenShut
import Derived.ChangeOld
import Derived.ShutString
import Derived.Below
namespace Go.Proofs.Ytleikaiokoahdaa.valueOrders
open Go.ChangeShapes Go.WideShapes Go.ChangeAt Go.RowKit
open Go.ChangeMaps (open_string shut_string)
set_option linter.unusedVariables false

theorem own : ownKnob Try.prog.godebug = none := by kernel_rfl
theorem laidOut : laidOutB Try.prog = true := by kernel_rfl

/-- a pointer to a box -/
def ptr (g : Nat) : Value := .pointer (some ⟨g, 0, none⟩)
theorem ptr_inj {g h : Nat} (e : ptr g = ptr h) : g = h := by injection e with e; injection e with e; injection e
/-- block b is none of the boxes that have come up -/
def NoBox (l : Nat → Bool) (x : Nat → Value) (b : Nat) : Prop := (l 6 = true → x 6 ≠ ptr b) ∧ (l 7 = true → x 7 ≠ ptr b) ∧ (l 8 = true → x 8 ≠ ptr b)
def Got (l : Nat → Bool) (x : Nat → Value) (w : World) (v : Value) (t : T) : Prop := ∃ C f C' f', v = .agg #[.int .i64 t.kind, .bool t.tr, .int .i64 t.num, .string t.str, .slice C t.items.length f, .slice C' t.keys.length f'] ∧ TV w (fun b => b < w.heap.size ∧ NoBox l x b) t C f C' f'
def IsBox (H : Nat) (w : World) (v : Value) (cs : Array Value) : Prop := ∃ g, v = ptr g ∧ H ≤ g ∧ Blk w g 34 cs
/-- what holds before the stores -/
structure Pre (W : World) (a b c : Value) (t u v : T) (l : Nat → Bool) (x : Nat → Value) (w : World) : Prop where
  bel : Below W.heap.size W w
  r0 : l 0 = true → x 0 = a
  r2 : l 2 = true → x 2 = b
  r4 : l 4 = true → x 4 = c
  g1 : l 1 = true → Got l x w (x 1) t
  g3 : l 3 = true → Got l x w (x 3) u
  g5 : l 5 = true → Got l x w (x 5) v
  b6 : l 6 = true → IsBox W.heap.size w (x 6) #[.int .i64 0, .bool false, .int .i64 0, .string ⟨#[]⟩, .slice none 0 0, .slice none 0 0]
  b7 : l 7 = true → IsBox W.heap.size w (x 7) #[.int .i64 0, .bool false, .int .i64 0, .string ⟨#[]⟩, .slice none 0 0, .slice none 0 0]
  b8 : l 8 = true → IsBox W.heap.size w (x 8) #[.int .i64 0, .bool false, .int .i64 0, .string ⟨#[]⟩, .slice none 0 0, .slice none 0 0]
  d67 : l 6 = true → l 7 = true → x 6 ≠ x 7
  d68 : l 6 = true → l 8 = true → x 6 ≠ x 8
  d78 : l 7 = true → l 8 = true → x 7 ≠ x 8
  c0 : l 1 = true → l 0 = true
  c1 : l 3 = true → l 1 = true ∧ l 2 = true
  c2 : l 5 = true → l 3 = true ∧ l 4 = true
theorem Got.onto {l : Nat → Bool} {x : Nat → Value} {w w' : World} {v : Value} {t : T} (h : Got l x w v t) (hb : Below w.heap.size w w') : Got l x w' v t := by
  obtain ⟨C, f, C', f', e, ht⟩ := h
  exact ⟨C, f, C', f', e, (ht.keep fun b hb' => hb.block b hb'.1).wide fun b hb' => ⟨Nat.lt_of_lt_of_le hb'.1 hb.size, hb'.2⟩⟩
theorem IsBox.onto {H : Nat} {w w' : World} {v : Value} {cs : Array Value} (h : IsBox H w v cs) (hb : Below w.heap.size w w') : IsBox H w' v cs := by
  obtain ⟨g, e, h1, h2⟩ := h
  exact ⟨g, e, h1, h2.onto hb⟩
theorem Pre.onto {W : World} {a b c : Value} {t u v : T} {l : Nat → Bool} {x : Nat → Value} {w w' : World} (h : Pre W a b c t u v l x w) (hb : Below w.heap.size w w') : Pre W a b c t u v l x w' :=
  ⟨h.bel.trans (hb.mono h.bel.size), h.r0, h.r2, h.r4, fun k => (h.g1 k).onto hb, fun k => (h.g3 k).onto hb, fun k => (h.g5 k).onto hb, fun k => (h.b6 k).onto hb, fun k => (h.b7 k).onto hb, fun k => (h.b8 k).onto hb, h.d67, h.d68, h.d78, h.c0, h.c1, h.c2⟩
theorem Got.same {l l' : Nat → Bool} {x x' : Nat → Value} {w : World} {v : Value} {t : T} (h : Got l x w v t) (hl : ∀ i, 6 ≤ i → l' i = l i) (hx : ∀ i, 6 ≤ i → x' i = x i) : Got l' x' w v t := by
  obtain ⟨C, f, C', f', e, ht⟩ := h
  refine ⟨C, f, C', f', e, ht.wide fun b hb => ⟨hb.1, ?_⟩⟩
  unfold NoBox
  rw [hl 6 (by omega), hl 7 (by omega), hl 8 (by omega), hx 6 (by omega), hx 7 (by omega), hx 8 (by omega)]
  exact hb.2
theorem got_new {H : Nat} {l : Nat → Bool} {x : Nat → Value} {w w' : World} {t : T} {C : Option Addr} {f : Nat} {C' : Option Addr} {f' : Nat} (ht : TV w' (fun b => w.heap.size ≤ b ∧ b < w'.heap.size) t C f C' f')
    (h6 : l 6 = true → IsBox H w (x 6) #[.int .i64 0, .bool false, .int .i64 0, .string ⟨#[]⟩, .slice none 0 0, .slice none 0 0]) (h7 : l 7 = true → IsBox H w (x 7) #[.int .i64 0, .bool false, .int .i64 0, .string ⟨#[]⟩, .slice none 0 0, .slice none 0 0]) (h8 : l 8 = true → IsBox H w (x 8) #[.int .i64 0, .bool false, .int .i64 0, .string ⟨#[]⟩, .slice none 0 0, .slice none 0 0]) : Got l x w' (.agg #[.int .i64 t.kind, .bool t.tr, .int .i64 t.num, .string t.str, .slice C t.items.length f, .slice C' t.keys.length f']) t := by
  have key : ∀ {v : Value} {b : Nat}, IsBox H w v #[.int .i64 0, .bool false, .int .i64 0, .string ⟨#[]⟩, .slice none 0 0, .slice none 0 0] → w.heap.size ≤ b → v ≠ ptr b := by
    rintro v b ⟨g, rfl, _, hg⟩ hb e
    have := ptr_inj e
    have := hg.lt
    omega
  exact ⟨C, f, C', f', rfl, ht.wide fun b hb => ⟨hb.2, fun k => key (h6 k) hb.1, fun k => key (h7 k) hb.1, fun k => key (h8 k) hb.1⟩⟩
theorem Got.box {l l' : Nat → Bool} {x x' : Nat → Value} {w : World} {o : Obj} {v : Value} {t : T} (h : Got l x w v t) (hn : ∀ b, b < w.heap.size → NoBox l x b → NoBox l' x' b) : Got l' x' (w.alloc o) v t := by
  obtain ⟨C, f, C', f', e, ht⟩ := h
  exact ⟨C, f, C', f', e, (ht.keep fun b hb' => Below.heap_alloc _ _ _ hb'.1).wide fun b hb' => ⟨by simp; omega, hn b hb'.1 hb'.2⟩⟩
theorem box_ne {H : Nat} {w : World} {v : Value} {cs : Array Value} (h : IsBox H w v cs) : v ≠ ptr w.heap.size := by
  obtain ⟨g, rfl, _, hg⟩ := h
  intro e
  have := ptr_inj e
  have := hg.lt
  omega
theorem isBox_new (H : Nat) (w : World) (cs : Array Value) (hH : H ≤ w.heap.size) : IsBox H (w.alloc (.cells cs 34)) (ptr w.heap.size) cs := ⟨_, rfl, hH, Blk.new w _ _⟩
theorem IsBox.alloc {H : Nat} {w : World} {v : Value} {cs : Array Value} (h : IsBox H w v cs) (o : Obj) : IsBox H (w.alloc o) v cs := by
  obtain ⟨g, e, h1, h2⟩ := h
  exact ⟨g, e, h1, h2.alloc o⟩
/-- what holds from the first store on: n stores are done -/
def Post (W : World) (t u v : T) (n : Nat) (l : Nat → Bool) (x : Nat → Value) (w : World) : Prop :=
  ∃ g6 g7 g8 C1 f1 C1' f1' C3 f3 C3' f3' C5 f5 C5' f5', x 6 = ptr g6 ∧ x 7 = ptr g7 ∧ x 8 = ptr g8 ∧ x 1 = .agg #[.int .i64 t.kind, .bool t.tr, .int .i64 t.num, .string t.str, .slice C1 t.items.length f1, .slice C1' t.keys.length f1'] ∧ x 3 = .agg #[.int .i64 u.kind, .bool u.tr, .int .i64 u.num, .string u.str, .slice C3 u.items.length f3, .slice C3' u.keys.length f3'] ∧ x 5 = .agg #[.int .i64 v.kind, .bool v.tr, .int .i64 v.num, .string v.str, .slice C5 v.items.length f5, .slice C5' v.keys.length f5'] ∧
    g6 ≠ g7 ∧ g6 ≠ g8 ∧ g7 ≠ g8 ∧ (W.heap.size ≤ g6 ∧ W.heap.size ≤ g7 ∧ W.heap.size ≤ g8) ∧
    Blk w g6 34 (if 1 ≤ n then #[.int .i64 t.kind, .bool t.tr, .int .i64 t.num, .string t.str, .slice C1 t.items.length f1, .slice C1' t.keys.length f1'] else #[.int .i64 0, .bool false, .int .i64 0, .string ⟨#[]⟩, .slice none 0 0, .slice none 0 0]) ∧ Blk w g7 34 (if 2 ≤ n then #[.int .i64 u.kind, .bool u.tr, .int .i64 u.num, .string u.str, .slice C3 u.items.length f3, .slice C3' u.keys.length f3'] else #[.int .i64 0, .bool false, .int .i64 0, .string ⟨#[]⟩, .slice none 0 0, .slice none 0 0]) ∧ Blk w g8 34 (if 3 ≤ n then #[.int .i64 v.kind, .bool v.tr, .int .i64 v.num, .string v.str, .slice C5 v.items.length f5, .slice C5' v.keys.length f5'] else #[.int .i64 0, .bool false, .int .i64 0, .string ⟨#[]⟩, .slice none 0 0, .slice none 0 0]) ∧
    TV w (fun b => b < w.heap.size ∧ b ≠ g6 ∧ b ≠ g7 ∧ b ≠ g8) t C1 f1 C1' f1' ∧ TV w (fun b => b < w.heap.size ∧ b ≠ g6 ∧ b ≠ g7 ∧ b ≠ g8) u C3 f3 C3' f3' ∧ TV w (fun b => b < w.heap.size ∧ b ≠ g6 ∧ b ≠ g7 ∧ b ≠ g8) v C5 f5 C5' f5' ∧ Below W.heap.size W w
theorem Pre.post {W : World} {a b c : Value} {t u v : T} {l : Nat → Bool} {x : Nat → Value} {w : World} (h : Pre W a b c t u v l x w) (h5 : l 5 = true) (h6 : l 6 = true) (h7 : l 7 = true) (h8 : l 8 = true) : Post W t u v 0 l x w := by
  have h3 := (h.c2 h5).1
  have h1 := (h.c1 h3).1
  obtain ⟨g6, e6, k6, m6⟩ := h.b6 h6
  obtain ⟨g7, e7, k7, m7⟩ := h.b7 h7
  obtain ⟨g8, e8, k8, m8⟩ := h.b8 h8
  obtain ⟨C1, f1, C1', f1', e1, t1⟩ := h.g1 h1
  obtain ⟨C3, f3, C3', f3', e3, t3⟩ := h.g3 h3
  obtain ⟨C5, f5, C5', f5', e5, t5⟩ := h.g5 h5
  have hS : ∀ q, q < w.heap.size ∧ NoBox l x q → q < w.heap.size ∧ q ≠ g6 ∧ q ≠ g7 ∧ q ≠ g8 := fun q hq =>
    ⟨hq.1, fun e => hq.2.1 h6 (by rw [e6, e]), fun e => hq.2.2.1 h7 (by rw [e7, e]), fun e => hq.2.2.2 h8 (by rw [e8, e])⟩
  refine ⟨g6, g7, g8, C1, f1, C1', f1', C3, f3, C3', f3', C5, f5, C5', f5', e6, e7, e8, e1, e3, e5, ?_, ?_, ?_, ⟨k6, k7, k8⟩, m6, m7, m8, t1.wide hS, t3.wide hS, t5.wide hS, h.bel⟩
  · intro e; exact h.d67 h6 h7 (by rw [e6, e7, e])
  · intro e; exact h.d68 h6 h8 (by rw [e6, e8, e])
  · intro e; exact h.d78 h7 h8 (by rw [e7, e8, e])
/-- the stores that are done -/
def stores (l : Nat → Bool) : Nat := (if l 9 = true then 1 else 0) + (if l 10 = true then 1 else 0) + (if l 11 = true then 1 else 0)
def Inv4 (W : World) (a b c : Value) (t u v : T) (l : Nat → Bool) (x : Nat → Value) (w : World) : Prop :=
  (l 9 = false → l 10 = false ∧ l 11 = false ∧ Pre W a b c t u v l x w) ∧
  (l 9 = true → (∀ i, i < 9 → l i = true) ∧ (l 10 = false → l 11 = false ∧ Post W t u v 1 l x w) ∧ (l 10 = true → (l 11 = false → Post W t u v 2 l x w) ∧ (l 11 = true → Post W t u v 3 l x w)))
theorem Inv4.early {W : World} {a b c : Value} {t u v : T} {l : Nat → Bool} {x : Nat → Value} {w : World} (h : Inv4 W a b c t u v l x w) {i : Nat} (hi : i < 9) (hl : l i = false) : l 9 = false ∧ l 10 = false ∧ l 11 = false ∧ Pre W a b c t u v l x w := by
  cases h9 : l 9 with
  | false => exact ⟨rfl, h.1 h9⟩
  | true => have := (h.2 h9).1 i hi; rw [hl] at this; cases this
theorem Inv4.pre {W : World} {a b c : Value} {t u v : T} {l : Nat → Bool} {x : Nat → Value} {w : World} (h9 : l 9 = false) (h10 : l 10 = false) (h11 : l 11 = false) (h : Pre W a b c t u v l x w) : Inv4 W a b c t u v l x w :=
  ⟨fun _ => ⟨h10, h11, h⟩, fun h => by rw [h9] at h; cases h⟩
theorem Post.same {W : World} {t u v : T} {n : Nat} {l l' : Nat → Bool} {x x' : Nat → Value} {w : World} (h : Post W t u v n l x w) (hx : ∀ i, i < 9 → x' i = x i) : Post W t u v n l' x' w := by
  unfold Post at *
  rw [hx 6 (by omega), hx 7 (by omega), hx 8 (by omega), hx 1 (by omega), hx 3 (by omega), hx 5 (by omega)]
  exact h
theorem TV.set6 {w : World} {g6 g7 g8 g : Nat} (hg : g = g6 ∨ g = g7 ∨ g = g8) {t : T} {A : Option Addr} {c : Nat} {A' : Option Addr} {c' : Nat} {v0 v1 v2 v3 v4 v5 : Value} (h : TV w (fun b => b < w.heap.size ∧ b ≠ g6 ∧ b ≠ g7 ∧ b ≠ g8) t A c A' c') :
    TV ((((((w.setCell ⟨g, 0, none⟩ v0).setCell ⟨g, 1, none⟩ v1).setCell ⟨g, 2, none⟩ v2).setCell ⟨g, 3, none⟩ v3).setCell ⟨g, 4, none⟩ v4).setCell ⟨g, 5, none⟩ v5) (fun b => b < (((((((w.setCell ⟨g, 0, none⟩ v0).setCell ⟨g, 1, none⟩ v1).setCell ⟨g, 2, none⟩ v2).setCell ⟨g, 3, none⟩ v3).setCell ⟨g, 4, none⟩ v4).setCell ⟨g, 5, none⟩ v5)).heap.size ∧ b ≠ g6 ∧ b ≠ g7 ∧ b ≠ g8) t A c A' c' := by
  have hz : (((((((w.setCell ⟨g, 0, none⟩ v0).setCell ⟨g, 1, none⟩ v1).setCell ⟨g, 2, none⟩ v2).setCell ⟨g, 3, none⟩ v3).setCell ⟨g, 4, none⟩ v4).setCell ⟨g, 5, none⟩ v5)).heap.size = w.heap.size := by simp [World.setCell]
  refine (h.keep fun b hb => ?_).wide fun b hb => by rw [hz]; exact hb
  have hne : b ≠ g := by rcases hg with rfl | rfl | rfl; exact hb.2.1; exact hb.2.2.1; exact hb.2.2.2
  rw [Below.heap_setCell _ _ _ _ hne, Below.heap_setCell _ _ _ _ hne, Below.heap_setCell _ _ _ _ hne, Below.heap_setCell _ _ _ _ hne, Below.heap_setCell _ _ _ _ hne, Below.heap_setCell _ _ _ _ hne]
theorem blk_far6 {w : World} {q g : Nat} {ty : TypeId} {cs : Array Value} {v0 v1 v2 v3 v4 v5 : Value} (h : Blk w q ty cs) (hne : q ≠ g) : Blk ((((((w.setCell ⟨g, 0, none⟩ v0).setCell ⟨g, 1, none⟩ v1).setCell ⟨g, 2, none⟩ v2).setCell ⟨g, 3, none⟩ v3).setCell ⟨g, 4, none⟩ v4).setCell ⟨g, 5, none⟩ v5) q ty cs :=
  (((((h.far hne v0).far hne v1).far hne v2).far hne v3).far hne v4).far hne v5
theorem below_set6 {w W : World} {g : Nat} {v0 v1 v2 v3 v4 v5 : Value} (h : Below W.heap.size W w) (hg : W.heap.size ≤ g) : Below W.heap.size W ((((((w.setCell ⟨g, 0, none⟩ v0).setCell ⟨g, 1, none⟩ v1).setCell ⟨g, 2, none⟩ v2).setCell ⟨g, 3, none⟩ v3).setCell ⟨g, 4, none⟩ v4).setCell ⟨g, 5, none⟩ v5) :=
  (((((h.setCell hg v0).setCell hg v1).setCell hg v2).setCell hg v3).setCell hg v4).setCell hg v5
/-- want, as the law reckons it, is the order -/
def wantOf (p q : Bool) : Int := if p = true then -1 else if q = true then 1 else 0
theorem want_ord {t u : T} : wantOf (ltB (ord t u)) (ltB (ord u t)) = ord t u := by
  have h1 := ord_neg t u
  have h2 := ord_range t u
  unfold wantOf ltB
  rcases h2 with h | h | h <;> rw [h1, h] <;> decide
theorem same_ord {t u : T} (ht : t.Good) (hu : u.Good) : (ord t u == 0) = true ↔ t = u := by
  constructor
  · intro h; exact ord_zero t u ht hu (by simpa using h)
  · rintro rfl; simp [ord_self]
theorem rsame_b (t u : T) (A : Option Addr) (c : Nat) (A' : Option Addr) (c' : Nat) (B : Option Addr) (d : Nat) (B' : Option Addr) (d' : Nat) (w : World) (b : Bool) (hb : b = true ↔ t = u) (ht : t.Nice) (hv : TV w (· < w.heap.size) t A c A' c') (hu : TV w (· < w.heap.size) u B d B' d') :
    Calls Try.prog 13 #[.agg #[.int .i64 t.kind, .bool t.tr, .int .i64 t.num, .string t.str, .slice A t.items.length c, .slice A' t.keys.length c'], .agg #[.int .i64 u.kind, .bool u.tr, .int .i64 u.num, .string u.str, .slice B u.items.length d, .slice B' u.keys.length d']] w fun e w' => e = .returned (.bool b) ∧ Below w.heap.size w w' := by
  cases b with
  | true => exact rsame_eq' (hb.1 rfl) A c A' c' B d B' d' w ht.le ht.small hv hu
  | false => exact rsame_not t u A c A' c' B d B' d' w (fun h => by have := hb.2 h; cases this) ht.le ht.small hv hu
theorem order_b (t u : T) (o : Int) (A : Option Addr) (c : Nat) (A' : Option Addr) (c' : Nat) (B : Option Addr) (d : Nat) (B' : Option Addr) (d' : Nat) (w : World) (ho : ord t u = o) (ht : t.Nice) (hu : u.Nice) (hv : TV w (· < w.heap.size) t A c A' c') (hw : TV w (· < w.heap.size) u B d B' d') :
    Calls Try.prog 11 #[.agg #[.int .i64 t.kind, .bool t.tr, .int .i64 t.num, .string t.str, .slice A t.items.length c, .slice A' t.keys.length c'], .agg #[.int .i64 u.kind, .bool u.tr, .int .i64 u.num, .string u.str, .slice B u.items.length d, .slice B' u.keys.length d']] w fun e w' => e = .returned (.int .i64 o) ∧ Below w.heap.size w w' := by
  subst ho
  exact order_at 100000 t u A c A' c' B d B' d' w ht.le (Nat.le_refl _) hu.le ht.small hu.small ht.good hu.good hv hw
theorem less_b (t u : T) (b : Bool) (A : Option Addr) (c : Nat) (A' : Option Addr) (c' : Nat) (B : Option Addr) (d : Nat) (B' : Option Addr) (d' : Nat) (w : World) (ho : ltB (ord t u) = b) (ht : t.Nice) (hu : u.Nice) (hv : TV w (· < w.heap.size) t A c A' c') (hw : TV w (· < w.heap.size) u B d B' d') :
    Calls Try.prog 10 #[.agg #[.int .i64 t.kind, .bool t.tr, .int .i64 t.num, .string t.str, .slice A t.items.length c, .slice A' t.keys.length c'], .agg #[.int .i64 u.kind, .bool u.tr, .int .i64 u.num, .string u.str, .slice B u.items.length d, .slice B' u.keys.length d']] w fun e w' => e = .returned (.bool b) ∧ Below w.heap.size w w' := by
  subst ho
  exact less_at 100000 t u A c A' c' B d B' d' w ht.le (Nat.le_refl _) hu.le ht.small hu.small ht.good hu.good hv hw
theorem vsame_b (t u : T) (b : Bool) (A : Option Addr) (c : Nat) (A' : Option Addr) (c' : Nat) (B : Option Addr) (d : Nat) (B' : Option Addr) (d' : Nat) (w : World) (ho : (ord t u == 0) = b) (ht : t.Nice) (hu : u.Nice) (hv : TV w (· < w.heap.size) t A c A' c') (hw : TV w (· < w.heap.size) u B d B' d') :
    Calls Try.prog 12 #[.agg #[.int .i64 t.kind, .bool t.tr, .int .i64 t.num, .string t.str, .slice A t.items.length c, .slice A' t.keys.length c'], .agg #[.int .i64 u.kind, .bool u.tr, .int .i64 u.num, .string u.str, .slice B u.items.length d, .slice B' u.keys.length d']] w fun e w' => e = .returned (.bool b) ∧ Below w.heap.size w w' := by
  subst ho
  exact vsame_any t u A c A' c' B d B' d' w ht hu hv hw
theorem Pre.read0 {W : World} {a b c : Value} {t u v : T} {l : Nat → Bool} {x : Nat → Value} {w : World} (h : Pre W a b c t u v l x w) : Pre W a b c t u v (upd l 0 true) (upd x 0 a) w :=
  ⟨h.bel, fun _ => rfl, h.r2, h.r4, fun k => (h.g1 k).same (fun i hi => upd_ne l true (by omega)) (fun i hi => upd_ne x _ (by omega)), fun k => (h.g3 k).same (fun i hi => upd_ne l true (by omega)) (fun i hi => upd_ne x _ (by omega)), fun k => (h.g5 k).same (fun i hi => upd_ne l true (by omega)) (fun i hi => upd_ne x _ (by omega)), h.b6, h.b7, h.b8, h.d67, h.d68, h.d78, fun _ => rfl, h.c1, h.c2⟩
theorem Pre.read2 {W : World} {a b c : Value} {t u v : T} {l : Nat → Bool} {x : Nat → Value} {w : World} (h : Pre W a b c t u v l x w) : Pre W a b c t u v (upd l 2 true) (upd x 2 b) w :=
  ⟨h.bel, h.r0, fun _ => rfl, h.r4, fun k => (h.g1 k).same (fun i hi => upd_ne l true (by omega)) (fun i hi => upd_ne x _ (by omega)), fun k => (h.g3 k).same (fun i hi => upd_ne l true (by omega)) (fun i hi => upd_ne x _ (by omega)), fun k => (h.g5 k).same (fun i hi => upd_ne l true (by omega)) (fun i hi => upd_ne x _ (by omega)), h.b6, h.b7, h.b8, h.d67, h.d68, h.d78, h.c0, fun k => ⟨(h.c1 k).1, rfl⟩, h.c2⟩
theorem Pre.read4 {W : World} {a b c : Value} {t u v : T} {l : Nat → Bool} {x : Nat → Value} {w : World} (h : Pre W a b c t u v l x w) : Pre W a b c t u v (upd l 4 true) (upd x 4 c) w :=
  ⟨h.bel, h.r0, h.r2, fun _ => rfl, fun k => (h.g1 k).same (fun i hi => upd_ne l true (by omega)) (fun i hi => upd_ne x _ (by omega)), fun k => (h.g3 k).same (fun i hi => upd_ne l true (by omega)) (fun i hi => upd_ne x _ (by omega)), fun k => (h.g5 k).same (fun i hi => upd_ne l true (by omega)) (fun i hi => upd_ne x _ (by omega)), h.b6, h.b7, h.b8, h.d67, h.d68, h.d78, h.c0, h.c1, fun k => ⟨(h.c2 k).1, rfl⟩⟩
theorem Pre.call1 {W : World} {a b c : Value} {t u v : T} {l : Nat → Bool} {x : Nat → Value} {w w' : World} (h : Pre W a b c t u v l x w) (h0 : l 0 = true) {C : Option Addr} {f : Nat} {C' : Option Addr} {f' : Nat} (ht : TV w' (fun b => w.heap.size ≤ b ∧ b < w'.heap.size) t C f C' f') (hb : Below w.heap.size w w') : Pre W a b c t u v (upd l 1 true) (upd x 1 (.agg #[.int .i64 t.kind, .bool t.tr, .int .i64 t.num, .string t.str, .slice C t.items.length f, .slice C' t.keys.length f'])) w' :=
  have h' := h.onto hb
  ⟨h'.bel, h'.r0, h'.r2, h'.r4, fun _ => (got_new ht h.b6 h.b7 h.b8).same (fun i hi => upd_ne l true (by omega)) (fun i hi => upd_ne x _ (by omega)), fun k => (h'.g3 k).same (fun i hi => upd_ne l true (by omega)) (fun i hi => upd_ne x _ (by omega)), fun k => (h'.g5 k).same (fun i hi => upd_ne l true (by omega)) (fun i hi => upd_ne x _ (by omega)), h'.b6, h'.b7, h'.b8, h'.d67, h'.d68, h'.d78, fun _ => h0, fun k => ⟨rfl, (h.c1 k).2⟩, h.c2⟩
theorem Pre.call3 {W : World} {a b c : Value} {t u v : T} {l : Nat → Bool} {x : Nat → Value} {w w' : World} (h : Pre W a b c t u v l x w) (h1 : l 1 = true) (h2 : l 2 = true) {C : Option Addr} {f : Nat} {C' : Option Addr} {f' : Nat} (ht : TV w' (fun b => w.heap.size ≤ b ∧ b < w'.heap.size) u C f C' f') (hb : Below w.heap.size w w') : Pre W a b c t u v (upd l 3 true) (upd x 3 (.agg #[.int .i64 u.kind, .bool u.tr, .int .i64 u.num, .string u.str, .slice C u.items.length f, .slice C' u.keys.length f'])) w' :=
  have h' := h.onto hb
  ⟨h'.bel, h'.r0, h'.r2, h'.r4, fun k => (h'.g1 k).same (fun i hi => upd_ne l true (by omega)) (fun i hi => upd_ne x _ (by omega)), fun _ => (got_new ht h.b6 h.b7 h.b8).same (fun i hi => upd_ne l true (by omega)) (fun i hi => upd_ne x _ (by omega)), fun k => (h'.g5 k).same (fun i hi => upd_ne l true (by omega)) (fun i hi => upd_ne x _ (by omega)), h'.b6, h'.b7, h'.b8, h'.d67, h'.d68, h'.d78, h.c0, fun _ => ⟨h1, h2⟩, fun k => ⟨rfl, (h.c2 k).2⟩⟩
theorem Pre.call5 {W : World} {a b c : Value} {t u v : T} {l : Nat → Bool} {x : Nat → Value} {w w' : World} (h : Pre W a b c t u v l x w) (h3 : l 3 = true) (h4 : l 4 = true) {C : Option Addr} {f : Nat} {C' : Option Addr} {f' : Nat} (ht : TV w' (fun b => w.heap.size ≤ b ∧ b < w'.heap.size) v C f C' f') (hb : Below w.heap.size w w') : Pre W a b c t u v (upd l 5 true) (upd x 5 (.agg #[.int .i64 v.kind, .bool v.tr, .int .i64 v.num, .string v.str, .slice C v.items.length f, .slice C' v.keys.length f'])) w' :=
  have h' := h.onto hb
  ⟨h'.bel, h'.r0, h'.r2, h'.r4, fun k => (h'.g1 k).same (fun i hi => upd_ne l true (by omega)) (fun i hi => upd_ne x _ (by omega)), fun k => (h'.g3 k).same (fun i hi => upd_ne l true (by omega)) (fun i hi => upd_ne x _ (by omega)), fun _ => (got_new ht h.b6 h.b7 h.b8).same (fun i hi => upd_ne l true (by omega)) (fun i hi => upd_ne x _ (by omega)), h'.b6, h'.b7, h'.b8, h'.d67, h'.d68, h'.d78, h.c0, h.c1, fun _ => ⟨h3, h4⟩⟩
theorem Pre.box6 {W : World} {a b c : Value} {t u v : T} {l : Nat → Bool} {x : Nat → Value} {w : World} (h : Pre W a b c t u v l x w) : Pre W a b c t u v (upd l 6 true) (upd x 6 (ptr w.heap.size)) (w.alloc (.cells #[.int .i64 0, .bool false, .int .i64 0, .string ⟨#[]⟩, .slice none 0 0, .slice none 0 0] 34)) :=
  ⟨h.bel.alloc h.bel.size _, h.r0, h.r2, h.r4, fun k => (h.g1 k).box fun b hb hq => ⟨fun _ e => by have := ptr_inj (show ptr w.heap.size = ptr b from e); omega, hq.2.1, hq.2.2⟩, fun k => (h.g3 k).box fun b hb hq => ⟨fun _ e => by have := ptr_inj (show ptr w.heap.size = ptr b from e); omega, hq.2.1, hq.2.2⟩, fun k => (h.g5 k).box fun b hb hq => ⟨fun _ e => by have := ptr_inj (show ptr w.heap.size = ptr b from e); omega, hq.2.1, hq.2.2⟩, fun _ => isBox_new _ _ _ h.bel.size, fun k => (h.b7 k).alloc _, fun k => (h.b8 k).alloc _, fun _ k e => box_ne (h.b7 k) e.symm, fun _ k e => box_ne (h.b8 k) e.symm, h.d78, h.c0, h.c1, h.c2⟩
theorem Pre.box7 {W : World} {a b c : Value} {t u v : T} {l : Nat → Bool} {x : Nat → Value} {w : World} (h : Pre W a b c t u v l x w) : Pre W a b c t u v (upd l 7 true) (upd x 7 (ptr w.heap.size)) (w.alloc (.cells #[.int .i64 0, .bool false, .int .i64 0, .string ⟨#[]⟩, .slice none 0 0, .slice none 0 0] 34)) :=
  ⟨h.bel.alloc h.bel.size _, h.r0, h.r2, h.r4, fun k => (h.g1 k).box fun b hb hq => ⟨hq.1, fun _ e => by have := ptr_inj (show ptr w.heap.size = ptr b from e); omega, hq.2.2⟩, fun k => (h.g3 k).box fun b hb hq => ⟨hq.1, fun _ e => by have := ptr_inj (show ptr w.heap.size = ptr b from e); omega, hq.2.2⟩, fun k => (h.g5 k).box fun b hb hq => ⟨hq.1, fun _ e => by have := ptr_inj (show ptr w.heap.size = ptr b from e); omega, hq.2.2⟩, fun k => (h.b6 k).alloc _, fun _ => isBox_new _ _ _ h.bel.size, fun k => (h.b8 k).alloc _, fun k _ e => box_ne (h.b6 k) e, h.d68, fun _ k e => box_ne (h.b8 k) e.symm, h.c0, h.c1, h.c2⟩
theorem Pre.box8 {W : World} {a b c : Value} {t u v : T} {l : Nat → Bool} {x : Nat → Value} {w : World} (h : Pre W a b c t u v l x w) : Pre W a b c t u v (upd l 8 true) (upd x 8 (ptr w.heap.size)) (w.alloc (.cells #[.int .i64 0, .bool false, .int .i64 0, .string ⟨#[]⟩, .slice none 0 0, .slice none 0 0] 34)) :=
  ⟨h.bel.alloc h.bel.size _, h.r0, h.r2, h.r4, fun k => (h.g1 k).box fun b hb hq => ⟨hq.1, hq.2.1, fun _ e => by have := ptr_inj (show ptr w.heap.size = ptr b from e); omega⟩, fun k => (h.g3 k).box fun b hb hq => ⟨hq.1, hq.2.1, fun _ e => by have := ptr_inj (show ptr w.heap.size = ptr b from e); omega⟩, fun k => (h.g5 k).box fun b hb hq => ⟨hq.1, hq.2.1, fun _ e => by have := ptr_inj (show ptr w.heap.size = ptr b from e); omega⟩, fun k => (h.b6 k).alloc _, fun k => (h.b7 k).alloc _, fun _ => isBox_new _ _ _ h.bel.size, h.d67, fun k _ e => box_ne (h.b6 k) e, fun k _ e => box_ne (h.b7 k) e, h.c0, h.c1, h.c2⟩
theorem Post.store1 {W : World} {t u v : T} {l : Nat → Bool} {x : Nat → Value} {w : World} (h : Post W t u v 0 l x w) : ∃ g C f C' f', x 6 = ptr g ∧ x 1 = .agg #[.int .i64 t.kind, .bool t.tr, .int .i64 t.num, .string t.str, .slice C t.items.length f, .slice C' t.keys.length f'] ∧ Blk w g 34 #[.int .i64 0, .bool false, .int .i64 0, .string ⟨#[]⟩, .slice none 0 0, .slice none 0 0] ∧ ∀ (l' : Nat → Bool) (x' : Nat → Value), (∀ i, i < 9 → x' i = x i) → Post W t u v 1 l' x' ((((((w.setCell ⟨g, 0, none⟩ (.int .i64 t.kind)).setCell ⟨g, 1, none⟩ (.bool t.tr)).setCell ⟨g, 2, none⟩ (.int .i64 t.num)).setCell ⟨g, 3, none⟩ (.string t.str)).setCell ⟨g, 4, none⟩ (.slice C t.items.length f)).setCell ⟨g, 5, none⟩ (.slice C' t.keys.length f')) := by
  obtain ⟨g6, g7, g8, C1, f1, C1', f1', C3, f3, C3', f3', C5, f5, C5', f5', e6, e7, e8, e1, e3, e5, n67, n68, n78, ⟨k6, k7, k8⟩, m6, m7, m8, t1, t3, t5, hb⟩ := h
  refine ⟨g6, C1, f1, C1', f1', e6, e1, m6, fun l' x' hx => ?_⟩
  refine Post.same (l := l) (x := x) ?_ hx
  exact ⟨g6, g7, g8, C1, f1, C1', f1', C3, f3, C3', f3', C5, f5, C5', f5', e6, e7, e8, e1, e3, e5, n67, n68, n78, ⟨k6, k7, k8⟩, res_put m6 rfl _ _ _ _ _, blk_far6 m7 (Ne.symm n67), blk_far6 m8 (Ne.symm n68), TV.set6 (.inl rfl) t1, TV.set6 (.inl rfl) t3, TV.set6 (.inl rfl) t5, below_set6 hb k6⟩
theorem Post.store2 {W : World} {t u v : T} {l : Nat → Bool} {x : Nat → Value} {w : World} (h : Post W t u v 1 l x w) : ∃ g C f C' f', x 7 = ptr g ∧ x 3 = .agg #[.int .i64 u.kind, .bool u.tr, .int .i64 u.num, .string u.str, .slice C u.items.length f, .slice C' u.keys.length f'] ∧ Blk w g 34 #[.int .i64 0, .bool false, .int .i64 0, .string ⟨#[]⟩, .slice none 0 0, .slice none 0 0] ∧ ∀ (l' : Nat → Bool) (x' : Nat → Value), (∀ i, i < 9 → x' i = x i) → Post W t u v 2 l' x' ((((((w.setCell ⟨g, 0, none⟩ (.int .i64 u.kind)).setCell ⟨g, 1, none⟩ (.bool u.tr)).setCell ⟨g, 2, none⟩ (.int .i64 u.num)).setCell ⟨g, 3, none⟩ (.string u.str)).setCell ⟨g, 4, none⟩ (.slice C u.items.length f)).setCell ⟨g, 5, none⟩ (.slice C' u.keys.length f')) := by
  obtain ⟨g6, g7, g8, C1, f1, C1', f1', C3, f3, C3', f3', C5, f5, C5', f5', e6, e7, e8, e1, e3, e5, n67, n68, n78, ⟨k6, k7, k8⟩, m6, m7, m8, t1, t3, t5, hb⟩ := h
  refine ⟨g7, C3, f3, C3', f3', e7, e3, m7, fun l' x' hx => ?_⟩
  refine Post.same (l := l) (x := x) ?_ hx
  exact ⟨g6, g7, g8, C1, f1, C1', f1', C3, f3, C3', f3', C5, f5, C5', f5', e6, e7, e8, e1, e3, e5, n67, n68, n78, ⟨k6, k7, k8⟩, blk_far6 m6 n67, res_put m7 rfl _ _ _ _ _, blk_far6 m8 (Ne.symm n78), TV.set6 (.inr (.inl rfl)) t1, TV.set6 (.inr (.inl rfl)) t3, TV.set6 (.inr (.inl rfl)) t5, below_set6 hb k7⟩
theorem Post.store3 {W : World} {t u v : T} {l : Nat → Bool} {x : Nat → Value} {w : World} (h : Post W t u v 2 l x w) : ∃ g C f C' f', x 8 = ptr g ∧ x 5 = .agg #[.int .i64 v.kind, .bool v.tr, .int .i64 v.num, .string v.str, .slice C v.items.length f, .slice C' v.keys.length f'] ∧ Blk w g 34 #[.int .i64 0, .bool false, .int .i64 0, .string ⟨#[]⟩, .slice none 0 0, .slice none 0 0] ∧ ∀ (l' : Nat → Bool) (x' : Nat → Value), (∀ i, i < 9 → x' i = x i) → Post W t u v 3 l' x' ((((((w.setCell ⟨g, 0, none⟩ (.int .i64 v.kind)).setCell ⟨g, 1, none⟩ (.bool v.tr)).setCell ⟨g, 2, none⟩ (.int .i64 v.num)).setCell ⟨g, 3, none⟩ (.string v.str)).setCell ⟨g, 4, none⟩ (.slice C v.items.length f)).setCell ⟨g, 5, none⟩ (.slice C' v.keys.length f')) := by
  obtain ⟨g6, g7, g8, C1, f1, C1', f1', C3, f3, C3', f3', C5, f5, C5', f5', e6, e7, e8, e1, e3, e5, n67, n68, n78, ⟨k6, k7, k8⟩, m6, m7, m8, t1, t3, t5, hb⟩ := h
  refine ⟨g8, C5, f5, C5', f5', e8, e5, m8, fun l' x' hx => ?_⟩
  refine Post.same (l := l) (x := x) ?_ hx
  exact ⟨g6, g7, g8, C1, f1, C1', f1', C3, f3, C3', f3', C5, f5, C5', f5', e6, e7, e8, e1, e3, e5, n67, n68, n78, ⟨k6, k7, k8⟩, blk_far6 m6 n68, blk_far6 m7 n78, res_put m8 rfl _ _ _ _ _, TV.set6 (.inr (.inr rfl)) t1, TV.set6 (.inr (.inr rfl)) t3, TV.set6 (.inr (.inr rfl)) t5, below_set6 hb k8⟩
set_option maxRecDepth 100000 in
set_option maxHeartbeats 16000000 in
theorem walk (A : Option Addr) (n c : Nat) (A1 : Option Addr) (n1 c1 : Nat) (A2 : Option Addr) (n2 c2 : Nat) (w : World) (hnc : n ≤ c) (hcm : c ≤ maxLen) (hN : Nodes w (· < w.heap.size) A n) (hnc1 : n1 ≤ c1) (hcm1 : c1 ≤ maxLen) (hN1 : Nodes w (· < w.heap.size) A1 n1) (hnc2 : n2 ≤ c2) (hcm2 : c2 ≤ maxLen) (hN2 : Nodes w (· < w.heap.size) A2 n2) :
    Calls Try.prog 4 #[.slice A n c, .slice A1 n1 c1, .slice A2 n2 c2] w fun e w' => e = .returned (.bool true) ∧ Below w.heap.size w w' := by
  have HN := Lib.hid hN
  have HN1 := Lib.hid hN1
  have HN2 := Lib.hid hN2
  clear hN hN1 hN2
  go_enter Try.func4, Try.ntmps4
  go_wp2_with fail
  refine (awake_any _).mono ?_
  rintro e w1 ⟨rfl, hb1⟩
  have H1 := Lib.hid hb1
  clear hb1
  go_wp2_with fail
  refine (tree_any A n c _ hnc hcm (HN.out.on H1.out)).mono ?_
  rintro e w2 ⟨t, B, d, B', d', rfl, htn, htv, hb2⟩
  have H2 := Lib.hid (H1.out.trans (hb2.mono H1.out.size))
  have HtN := Lib.hid htn
  have HT := Lib.hid htv
  clear hb2 htn htv H1
  unfold T.agg
  go_wp2_with fail
  refine (tree_any A1 n1 c1 _ hnc1 hcm1 (HN1.out.on H2.out)).mono ?_
  rintro e w3 ⟨u, B1, d1, B1', d1', rfl, hun, huv, hb3⟩
  have H3 := Lib.hid (H2.out.trans (hb3.mono H2.out.size))
  have HuN := Lib.hid hun
  have HU := Lib.hid huv
  have HT3 := Lib.hid (HT.out.on hb3)
  clear hb3 hun huv H2 HT
  unfold T.agg
  go_wp2_with fail
  refine (tree_any A2 n2 c2 _ hnc2 hcm2 (HN2.out.on H3.out)).mono ?_
  rintro e w4 ⟨v, B2, d2, B2', d2', rfl, hvn, hvv, hb4⟩
  have H4 := Lib.hid (H3.out.trans (hb4.mono H3.out.size))
  have HvN := Lib.hid hvn
  have HV := Lib.hid hvv
  have HT4 := Lib.hid (HT3.out.on hb4)
  have HU4 := Lib.hid (HU.out.on hb4)
  clear hb4 hvn hvv H3 HT3 HU
  unfold T.agg
  go_upto_region 4 with fail
  have hW : Below w.heap.size w (((w4.alloc (.cells #[.int .i64 t.kind, .bool t.tr, .int .i64 t.num, .string t.str, .slice B t.items.length d, .slice B' t.keys.length d'] 30)).alloc (.cells #[.int .i64 u.kind, .bool u.tr, .int .i64 u.num, .string u.str, .slice B1 u.items.length d1, .slice B1' u.keys.length d1'] 30)).alloc (.cells #[.int .i64 v.kind, .bool v.tr, .int .i64 v.num, .string v.str, .slice B2 v.items.length d2, .slice B2' v.keys.length d2'] 30)) := ((H4.out.alloc H4.out.size _).alloc (by have := H4.out.size; simp; omega) _).alloc (by have := H4.out.size; simp; omega) _
  have hW4 : Below w4.heap.size w4 (((w4.alloc (.cells #[.int .i64 t.kind, .bool t.tr, .int .i64 t.num, .string t.str, .slice B t.items.length d, .slice B' t.keys.length d'] 30)).alloc (.cells #[.int .i64 u.kind, .bool u.tr, .int .i64 u.num, .string u.str, .slice B1 u.items.length d1, .slice B1' u.keys.length d1'] 30)).alloc (.cells #[.int .i64 v.kind, .bool v.tr, .int .i64 v.num, .string v.str, .slice B2 v.items.length d2, .slice B2' v.keys.length d2'] 30)) := (((Below.refl _ _).alloc (Nat.le_refl _) _).alloc (by simp) _).alloc (by simp; omega) _
  have hB0 : Blk (((w4.alloc (.cells #[.int .i64 t.kind, .bool t.tr, .int .i64 t.num, .string t.str, .slice B t.items.length d, .slice B' t.keys.length d'] 30)).alloc (.cells #[.int .i64 u.kind, .bool u.tr, .int .i64 u.num, .string u.str, .slice B1 u.items.length d1, .slice B1' u.keys.length d1'] 30)).alloc (.cells #[.int .i64 v.kind, .bool v.tr, .int .i64 v.num, .string v.str, .slice B2 v.items.length d2, .slice B2' v.keys.length d2'] 30)) w4.heap.size 30 #[.int .i64 t.kind, .bool t.tr, .int .i64 t.num, .string t.str, .slice B t.items.length d, .slice B' t.keys.length d'] := ((Blk.new w4 _ _).alloc _).alloc _
  have hB1 : Blk (((w4.alloc (.cells #[.int .i64 t.kind, .bool t.tr, .int .i64 t.num, .string t.str, .slice B t.items.length d, .slice B' t.keys.length d'] 30)).alloc (.cells #[.int .i64 u.kind, .bool u.tr, .int .i64 u.num, .string u.str, .slice B1 u.items.length d1, .slice B1' u.keys.length d1'] 30)).alloc (.cells #[.int .i64 v.kind, .bool v.tr, .int .i64 v.num, .string v.str, .slice B2 v.items.length d2, .slice B2' v.keys.length d2'] 30)) (w4.heap.size + 1) 30 #[.int .i64 u.kind, .bool u.tr, .int .i64 u.num, .string u.str, .slice B1 u.items.length d1, .slice B1' u.keys.length d1'] := by
    have := (Blk.new (w4.alloc (.cells #[.int .i64 t.kind, .bool t.tr, .int .i64 t.num, .string t.str, .slice B t.items.length d, .slice B' t.keys.length d'] 30)) 30 #[.int .i64 u.kind, .bool u.tr, .int .i64 u.num, .string u.str, .slice B1 u.items.length d1, .slice B1' u.keys.length d1']).alloc (.cells #[.int .i64 v.kind, .bool v.tr, .int .i64 v.num, .string v.str, .slice B2 v.items.length d2, .slice B2' v.keys.length d2'] 30)
    simpa using this
  have hB2 : Blk (((w4.alloc (.cells #[.int .i64 t.kind, .bool t.tr, .int .i64 t.num, .string t.str, .slice B t.items.length d, .slice B' t.keys.length d'] 30)).alloc (.cells #[.int .i64 u.kind, .bool u.tr, .int .i64 u.num, .string u.str, .slice B1 u.items.length d1, .slice B1' u.keys.length d1'] 30)).alloc (.cells #[.int .i64 v.kind, .bool v.tr, .int .i64 v.num, .string v.str, .slice B2 v.items.length d2, .slice B2' v.keys.length d2'] 30)) (w4.heap.size + 1 + 1) 30 #[.int .i64 v.kind, .bool v.tr, .int .i64 v.num, .string v.str, .slice B2 v.items.length d2, .slice B2' v.keys.length d2'] := by
    have := Blk.new ((w4.alloc (.cells #[.int .i64 t.kind, .bool t.tr, .int .i64 t.num, .string t.str, .slice B t.items.length d, .slice B' t.keys.length d'] 30)).alloc (.cells #[.int .i64 u.kind, .bool u.tr, .int .i64 u.num, .string u.str, .slice B1 u.items.length d1, .slice B1' u.keys.length d1'] 30)) 30 #[.int .i64 v.kind, .bool v.tr, .int .i64 v.num, .string v.str, .slice B2 v.items.length d2, .slice B2' v.keys.length d2']
    simpa using this
  have hTV := HT4.out.on hW4
  have hUV := HU4.out.on hW4
  have hVV := HV.out.on hW4
  clear HT4 HU4 HV H4 hW4
  change Code.wp _ _ _ _ (((w4.alloc (.cells #[.int .i64 t.kind, .bool t.tr, .int .i64 t.num, .string t.str, .slice B t.items.length d, .slice B' t.keys.length d'] 30)).alloc (.cells #[.int .i64 u.kind, .bool u.tr, .int .i64 u.num, .string u.str, .slice B1 u.items.length d1, .slice B1' u.keys.length d1'] 30)).alloc (.cells #[.int .i64 v.kind, .bool v.tr, .int .i64 v.num, .string v.str, .slice B2 v.items.length d2, .slice B2' v.keys.length d2'] 30))
  generalize (((w4.alloc (.cells #[.int .i64 t.kind, .bool t.tr, .int .i64 t.num, .string t.str, .slice B t.items.length d, .slice B' t.keys.length d'] 30)).alloc (.cells #[.int .i64 u.kind, .bool u.tr, .int .i64 u.num, .string u.str, .slice B1 u.items.length d1, .slice B1' u.keys.length d1'] 30)).alloc (.cells #[.int .i64 v.kind, .bool v.tr, .int .i64 v.num, .string v.str, .slice B2 v.items.length d2, .slice B2' v.keys.length d2'] 30)) = W at *
  generalize w4.heap.size = G at *
  clear w4
  have HW := Lib.hid hW
  have HB0 := Lib.hid hB0
  have HB1 := Lib.hid hB1
  have HB2 := Lib.hid hB2
  have HtV := Lib.hid hTV
  have HuV := Lib.hid hUV
  have HvV := Lib.hid hVV
  clear hW hB0 hB1 hB2 hTV hUV hVV
  refine wp_region_inv [some 23, some 24, some 25, some 26, some 27, some 28, some 10, some 11, some 12, none, none, none] (by kernel_rfl) (by rfl) (by kernel_rfl) (by kernel_rfl) (Inv4 W (.agg #[.int .i64 t.kind, .bool t.tr, .int .i64 t.num, .string t.str, .slice B t.items.length d, .slice B' t.keys.length d']) (.agg #[.int .i64 u.kind, .bool u.tr, .int .i64 u.num, .string u.str, .slice B1 u.items.length d1, .slice B1' u.keys.length d1']) (.agg #[.int .i64 v.kind, .bool v.tr, .int .i64 v.num, .string v.str, .slice B2 v.items.length d2, .slice B2' v.keys.length d2']) t u v) ?h0 ?hend ?steps
  case h0 =>
    intro x
    exact Inv4.pre rfl rfl rfl ⟨(Below.refl _ _).drew, nofun, nofun, nofun, nofun, nofun, nofun, nofun, nofun, nofun, nofun, nofun, nofun, nofun, nofun, nofun⟩
  case steps =>
      refine ⟨?_, ?_, ?_, ?_, ?_, ?_, ?_, ?_, ?_, ?_, ?_, ?_, trivial⟩
      · intro l x w' hl hd hI K hK
        have hE := Inv4.early (i := 0) hI (by decide) hl
        have h9 := hE.1
        have h10 := hE.2.1
        have h11 := hE.2.2.1
        have hP := hE.2.2.2
        clear hE
        have hq := HB0.out.onto hP.bel
        have q : w'.cell? ⟨G, 0, none⟩ = some (.int .i64 t.kind) ∧ w'.cell? ⟨G, 1, none⟩ = some (.bool t.tr) ∧ w'.cell? ⟨G, 2, none⟩ = some (.int .i64 t.num) ∧ w'.cell? ⟨G, 3, none⟩ = some (.string t.str) ∧ w'.cell? ⟨G, 4, none⟩ = some (.slice B t.items.length d) ∧ w'.cell? ⟨G, 5, none⟩ = some (.slice B' t.keys.length d') := ⟨hq.cell 0, hq.cell 1, hq.cell 2, hq.cell 3, hq.cell 4, hq.cell 5⟩
        have q0 := q.1
        have q1 := q.2.1
        have q2 := q.2.2.1
        have q3 := q.2.2.2.1
        have q4 := q.2.2.2.2.1
        have q5 := q.2.2.2.2.2
        clear q
        have HF := Lib.hid (hK.out (.agg #[.int .i64 t.kind, .bool t.tr, .int .i64 t.num, .string t.str, .slice B t.items.length d, .slice B' t.keys.length d']) w' (Inv4.pre h9 h10 h11 hP.read0))
        clear hI hd hq hK hl h9 h10 h11 hP
        simp only [putL, Act.put, List.setIfInBounds_toArray, List.set_cons_zero, List.set_cons_succ]
        go_simp
        have HG := HF.out
        simp only [putL, Act.put, List.setIfInBounds_toArray, List.set_cons_zero, List.set_cons_succ] at HG
        exact HG
      · intro l x w' hl hd hI K hK
        have hE := Inv4.early (i := 1) hI (by decide) hl
        have h9 := hE.1
        have h10 := hE.2.1
        have h11 := hE.2.2.1
        have hP := hE.2.2.2
        clear hE
        have h0 : l 0 = true := hd ⟨0, .data⟩ (by simp) rfl
        have e := hP.r0 h0
        have HP := Lib.hid hP
        have HE := Lib.hid e
        have HH := Lib.hid (show upd l 1 true 9 = false ∧ upd l 1 true 10 = false ∧ upd l 1 true 11 = false from ⟨h9, h10, h11⟩)
        clear hI hd hl h9 h10 h11 hP e
        simp only [putL, Act.put, List.setIfInBounds_toArray, List.set_cons_zero, List.set_cons_succ]
        rw [HE.out]
        go_simp
        go_at_call 7
        refine (real_cells t B d B' d' _ HtN.out.le HtN.out.small (HtV.out.on HP.out.bel)).mono ?_
        rintro e w'' ⟨C, f, C', f', rfl, hr, hb3⟩
        have HF := hK.out (.agg #[.int .i64 t.kind, .bool t.tr, .int .i64 t.num, .string t.str, .slice C t.items.length f, .slice C' t.keys.length f']) w'' (Inv4.pre HH.out.1 HH.out.2.1 HH.out.2.2 (HP.out.call1 h0 hr hb3))
        simp only [putL, Act.put, List.setIfInBounds_toArray, List.set_cons_zero, List.set_cons_succ] at HF
        rw [HE.out] at HF
        exact HF
      · intro l x w' hl hd hI K hK
        have hE := Inv4.early (i := 2) hI (by decide) hl
        have h9 := hE.1
        have h10 := hE.2.1
        have h11 := hE.2.2.1
        have hP := hE.2.2.2
        clear hE
        have hq := HB1.out.onto hP.bel
        have q : w'.cell? ⟨G + 1, 0, none⟩ = some (.int .i64 u.kind) ∧ w'.cell? ⟨G + 1, 1, none⟩ = some (.bool u.tr) ∧ w'.cell? ⟨G + 1, 2, none⟩ = some (.int .i64 u.num) ∧ w'.cell? ⟨G + 1, 3, none⟩ = some (.string u.str) ∧ w'.cell? ⟨G + 1, 4, none⟩ = some (.slice B1 u.items.length d1) ∧ w'.cell? ⟨G + 1, 5, none⟩ = some (.slice B1' u.keys.length d1') := ⟨hq.cell 0, hq.cell 1, hq.cell 2, hq.cell 3, hq.cell 4, hq.cell 5⟩
        have q0 := q.1
        have q1 := q.2.1
        have q2 := q.2.2.1
        have q3 := q.2.2.2.1
        have q4 := q.2.2.2.2.1
        have q5 := q.2.2.2.2.2
        clear q
        have HF := Lib.hid (hK.out (.agg #[.int .i64 u.kind, .bool u.tr, .int .i64 u.num, .string u.str, .slice B1 u.items.length d1, .slice B1' u.keys.length d1']) w' (Inv4.pre h9 h10 h11 hP.read2))
        clear hI hd hq hK hl h9 h10 h11 hP
        simp only [putL, Act.put, List.setIfInBounds_toArray, List.set_cons_zero, List.set_cons_succ]
        go_simp
        have HG := HF.out
        simp only [putL, Act.put, List.setIfInBounds_toArray, List.set_cons_zero, List.set_cons_succ] at HG
        exact HG
      · intro l x w' hl hd hI K hK
        have hE := Inv4.early (i := 3) hI (by decide) hl
        have h9 := hE.1
        have h10 := hE.2.1
        have h11 := hE.2.2.1
        have hP := hE.2.2.2
        clear hE
        have h2 : l 2 = true := hd ⟨2, .data⟩ (by simp) rfl
        have h1 : l 1 = true := hd ⟨1, .chain⟩ (by simp) rfl
        have e := hP.r2 h2
        have HP := Lib.hid hP
        have HE := Lib.hid e
        have HH := Lib.hid (show upd l 3 true 9 = false ∧ upd l 3 true 10 = false ∧ upd l 3 true 11 = false from ⟨h9, h10, h11⟩)
        clear hI hd hl h9 h10 h11 hP e
        simp only [putL, Act.put, List.setIfInBounds_toArray, List.set_cons_zero, List.set_cons_succ]
        rw [HE.out]
        go_simp
        go_at_call 7
        refine (real_cells u B1 d1 B1' d1' _ HuN.out.le HuN.out.small (HuV.out.on HP.out.bel)).mono ?_
        rintro e w'' ⟨C, f, C', f', rfl, hr, hb3⟩
        have HF := hK.out (.agg #[.int .i64 u.kind, .bool u.tr, .int .i64 u.num, .string u.str, .slice C u.items.length f, .slice C' u.keys.length f']) w'' (Inv4.pre HH.out.1 HH.out.2.1 HH.out.2.2 (HP.out.call3 h1 h2 hr hb3))
        simp only [putL, Act.put, List.setIfInBounds_toArray, List.set_cons_zero, List.set_cons_succ] at HF
        rw [HE.out] at HF
        exact HF
      · intro l x w' hl hd hI K hK
        have hE := Inv4.early (i := 4) hI (by decide) hl
        have h9 := hE.1
        have h10 := hE.2.1
        have h11 := hE.2.2.1
        have hP := hE.2.2.2
        clear hE
        have hq := HB2.out.onto hP.bel
        have q : w'.cell? ⟨G + 1 + 1, 0, none⟩ = some (.int .i64 v.kind) ∧ w'.cell? ⟨G + 1 + 1, 1, none⟩ = some (.bool v.tr) ∧ w'.cell? ⟨G + 1 + 1, 2, none⟩ = some (.int .i64 v.num) ∧ w'.cell? ⟨G + 1 + 1, 3, none⟩ = some (.string v.str) ∧ w'.cell? ⟨G + 1 + 1, 4, none⟩ = some (.slice B2 v.items.length d2) ∧ w'.cell? ⟨G + 1 + 1, 5, none⟩ = some (.slice B2' v.keys.length d2') := ⟨hq.cell 0, hq.cell 1, hq.cell 2, hq.cell 3, hq.cell 4, hq.cell 5⟩
        have q0 := q.1
        have q1 := q.2.1
        have q2 := q.2.2.1
        have q3 := q.2.2.2.1
        have q4 := q.2.2.2.2.1
        have q5 := q.2.2.2.2.2
        clear q
        have HF := Lib.hid (hK.out (.agg #[.int .i64 v.kind, .bool v.tr, .int .i64 v.num, .string v.str, .slice B2 v.items.length d2, .slice B2' v.keys.length d2']) w' (Inv4.pre h9 h10 h11 hP.read4))
        clear hI hd hq hK hl h9 h10 h11 hP
        simp only [putL, Act.put, List.setIfInBounds_toArray, List.set_cons_zero, List.set_cons_succ]
        go_simp
        have HG := HF.out
        simp only [putL, Act.put, List.setIfInBounds_toArray, List.set_cons_zero, List.set_cons_succ] at HG
        exact HG
      · intro l x w' hl hd hI K hK
        have hE := Inv4.early (i := 5) hI (by decide) hl
        have h9 := hE.1
        have h10 := hE.2.1
        have h11 := hE.2.2.1
        have hP := hE.2.2.2
        clear hE
        have h4 : l 4 = true := hd ⟨4, .data⟩ (by simp) rfl
        have h3 : l 3 = true := hd ⟨3, .chain⟩ (by simp) rfl
        have e := hP.r4 h4
        have HP := Lib.hid hP
        have HE := Lib.hid e
        have HH := Lib.hid (show upd l 5 true 9 = false ∧ upd l 5 true 10 = false ∧ upd l 5 true 11 = false from ⟨h9, h10, h11⟩)
        clear hI hd hl h9 h10 h11 hP e
        simp only [putL, Act.put, List.setIfInBounds_toArray, List.set_cons_zero, List.set_cons_succ]
        rw [HE.out]
        go_simp
        go_at_call 7
        refine (real_cells v B2 d2 B2' d2' _ HvN.out.le HvN.out.small (HvV.out.on HP.out.bel)).mono ?_
        rintro e w'' ⟨C, f, C', f', rfl, hr, hb3⟩
        have HF := hK.out (.agg #[.int .i64 v.kind, .bool v.tr, .int .i64 v.num, .string v.str, .slice C v.items.length f, .slice C' v.keys.length f']) w'' (Inv4.pre HH.out.1 HH.out.2.1 HH.out.2.2 (HP.out.call5 h3 h4 hr hb3))
        simp only [putL, Act.put, List.setIfInBounds_toArray, List.set_cons_zero, List.set_cons_succ] at HF
        rw [HE.out] at HF
        exact HF
      · intro l x w' hl hd hI K hK
        have hE := Inv4.early (i := 6) hI (by decide) hl
        have h9 := hE.1
        have h10 := hE.2.1
        have h11 := hE.2.2.1
        have hP := hE.2.2.2
        clear hE
        have HF := Lib.hid (hK.out (ptr w'.heap.size) _ (Inv4.pre h9 h10 h11 hP.box6))
        clear hI hd hl h9 h10 h11 hP hK
        simp only [putL, Act.put, List.setIfInBounds_toArray, List.set_cons_zero, List.set_cons_succ]
        go_simp
        have HG := HF.out
        simp only [putL, Act.put, List.setIfInBounds_toArray, List.set_cons_zero, List.set_cons_succ] at HG
        exact HG
      · intro l x w' hl hd hI K hK
        have hE := Inv4.early (i := 7) hI (by decide) hl
        have h9 := hE.1
        have h10 := hE.2.1
        have h11 := hE.2.2.1
        have hP := hE.2.2.2
        clear hE
        have HF := Lib.hid (hK.out (ptr w'.heap.size) _ (Inv4.pre h9 h10 h11 hP.box7))
        clear hI hd hl h9 h10 h11 hP hK
        simp only [putL, Act.put, List.setIfInBounds_toArray, List.set_cons_zero, List.set_cons_succ]
        go_simp
        have HG := HF.out
        simp only [putL, Act.put, List.setIfInBounds_toArray, List.set_cons_zero, List.set_cons_succ] at HG
        exact HG
      · intro l x w' hl hd hI K hK
        have hE := Inv4.early (i := 8) hI (by decide) hl
        have h9 := hE.1
        have h10 := hE.2.1
        have h11 := hE.2.2.1
        have hP := hE.2.2.2
        clear hE
        have HF := Lib.hid (hK.out (ptr w'.heap.size) _ (Inv4.pre h9 h10 h11 hP.box8))
        clear hI hd hl h9 h10 h11 hP hK
        simp only [putL, Act.put, List.setIfInBounds_toArray, List.set_cons_zero, List.set_cons_succ]
        go_simp
        have HG := HF.out
        simp only [putL, Act.put, List.setIfInBounds_toArray, List.set_cons_zero, List.set_cons_succ] at HG
        exact HG
      · intro l x w' hl hd hI K hK
        have h9 : l 9 = false := hl
        have hP := (hI.1 h9).2.2
        have h10 : l 10 = false := (hI.1 h9).1
        have h11 : l 11 = false := (hI.1 h9).2.1
        have h5 : l 5 = true := hd ⟨5, .chain⟩ (by simp) rfl
        have h6 : l 6 = true := hd ⟨6, .data⟩ (by simp) rfl
        have h7 : l 7 = true := hd ⟨7, .phase⟩ (by simp) rfl
        have h8 : l 8 = true := hd ⟨8, .phase⟩ (by simp) rfl
        have hall : ∀ i, i < 9 → l i = true := fun i hi => by
          have h3 := hP.c2 h5
          have h1 := hP.c1 h3.1
          have h0 := hP.c0 h1.1
          rcases (by omega : i = 0 ∨ i = 1 ∨ i = 2 ∨ i = 3 ∨ i = 4 ∨ i = 5 ∨ i = 6 ∨ i = 7 ∨ i = 8) with rfl | rfl | rfl | rfl | rfl | rfl | rfl | rfl | rfl
          · exact h0
          · exact h1.1
          · exact h1.2
          · exact h3.1
          · exact h3.2
          · exact h5
          · exact h6
          · exact h7
          · exact h8
        have hpo := hP.post h5 h6 h7 h8
        have HA := Lib.hid (show (∀ i, i < 9 → l i = true) ∧ l 10 = false ∧ l 11 = false from ⟨hall, h10, h11⟩)
        have y := hpo.store1
        cases y
        rename_i g y
        cases y
        rename_i C y
        cases y
        rename_i f y
        cases y
        rename_i C' y
        cases y
        rename_i f' y
        have ex := y.1
        have ev := y.2.1
        have hb := y.2.2.1
        have hn := y.2.2.2
        clear y
        have HN := Lib.hid hn
        have HF := Lib.hid (hK.out undef _ ⟨(fun h => nomatch (show true = false from h)), fun _ => ⟨fun i hi => (upd_ne l true (by omega)).trans (HA.out.1 i hi), fun _ => ⟨HA.out.2.2, HN.out _ _ fun i hi => upd_ne x _ (by omega)⟩, (fun h => Bool.noConfusion (HA.out.2.1.symm.trans (show l 10 = _ from h)))⟩⟩)
        have EX := Lib.hid ex
        have EV := Lib.hid ev
        have q : w'.cell? ⟨g, 0, none⟩ = some (.int .i64 0) ∧ w'.cell? ⟨g, 1, none⟩ = some (.bool false) ∧ w'.cell? ⟨g, 2, none⟩ = some (.int .i64 0) ∧ w'.cell? ⟨g, 3, none⟩ = some (.string ⟨#[]⟩) ∧ w'.cell? ⟨g, 4, none⟩ = some (.slice none 0 0) ∧ w'.cell? ⟨g, 5, none⟩ = some (.slice none 0 0) := ⟨hb.cell 0, hb.cell 1, hb.cell 2, hb.cell 3, hb.cell 4, hb.cell 5⟩
        have q0 := q.1
        have q1 := q.2.1
        have q2 := q.2.2.1
        have q3 := q.2.2.2.1
        have q4 := q.2.2.2.2.1
        have q5 := q.2.2.2.2.2
        clear q
        have f0 := hb.free 0
        have f1 := hb.free 1
        have f2 := hb.free 2
        have f3 := hb.free 3
        have f4 := hb.free 4
        have f5 := hb.free 5
        clear hI hd hK hl hpo hn hb ex ev hall h9 h10 h11
        simp only [putL, Act.put, List.setIfInBounds_toArray, List.set_cons_zero, List.set_cons_succ]
        rw [EX.out, EV.out]
        unfold ptr
        go_simp
        have HG := HF.out
        simp only [putL, Act.put, List.setIfInBounds_toArray, List.set_cons_zero, List.set_cons_succ] at HG
        rw [EX.out, EV.out] at HG
        exact HG
      · intro l x w' hl hd hI K hK
        have h10 : l 10 = false := hl
        have h9 : l 9 = true := hd ⟨9, .chain⟩ (by simp) rfl
        have hall := (hI.2 h9).1
        have h11 : l 11 = false := ((hI.2 h9).2.1 h10).1
        have hpo := ((hI.2 h9).2.1 h10).2
        have HA := Lib.hid (show (∀ i, i < 9 → l i = true) ∧ l 9 = true ∧ l 11 = false from ⟨hall, h9, h11⟩)
        have y := hpo.store2
        cases y
        rename_i g y
        cases y
        rename_i C y
        cases y
        rename_i f y
        cases y
        rename_i C' y
        cases y
        rename_i f' y
        have ex := y.1
        have ev := y.2.1
        have hb := y.2.2.1
        have hn := y.2.2.2
        clear y
        have HN := Lib.hid hn
        have HF := Lib.hid (hK.out undef _ ⟨(fun h => Bool.noConfusion (HA.out.2.1.symm.trans (show l 9 = _ from h))), fun _ => ⟨fun i hi => (upd_ne l true (by omega)).trans (HA.out.1 i hi), (fun h => nomatch (show true = false from h)), fun _ => ⟨fun _ => HN.out _ _ fun i hi => upd_ne x _ (by omega), (fun h => Bool.noConfusion (HA.out.2.2.symm.trans (show l 11 = _ from h)))⟩⟩⟩)
        have EX := Lib.hid ex
        have EV := Lib.hid ev
        have q : w'.cell? ⟨g, 0, none⟩ = some (.int .i64 0) ∧ w'.cell? ⟨g, 1, none⟩ = some (.bool false) ∧ w'.cell? ⟨g, 2, none⟩ = some (.int .i64 0) ∧ w'.cell? ⟨g, 3, none⟩ = some (.string ⟨#[]⟩) ∧ w'.cell? ⟨g, 4, none⟩ = some (.slice none 0 0) ∧ w'.cell? ⟨g, 5, none⟩ = some (.slice none 0 0) := ⟨hb.cell 0, hb.cell 1, hb.cell 2, hb.cell 3, hb.cell 4, hb.cell 5⟩
        have q0 := q.1
        have q1 := q.2.1
        have q2 := q.2.2.1
        have q3 := q.2.2.2.1
        have q4 := q.2.2.2.2.1
        have q5 := q.2.2.2.2.2
        clear q
        have f0 := hb.free 0
        have f1 := hb.free 1
        have f2 := hb.free 2
        have f3 := hb.free 3
        have f4 := hb.free 4
        have f5 := hb.free 5
        clear hI hd hK hl hpo hn hb ex ev hall h9 h10 h11
        simp only [putL, Act.put, List.setIfInBounds_toArray, List.set_cons_zero, List.set_cons_succ]
        rw [EX.out, EV.out]
        unfold ptr
        go_simp
        have HG := HF.out
        simp only [putL, Act.put, List.setIfInBounds_toArray, List.set_cons_zero, List.set_cons_succ] at HG
        rw [EX.out, EV.out] at HG
        exact HG
      · intro l x w' hl hd hI K hK
        have h11 : l 11 = false := hl
        have h10 : l 10 = true := hd ⟨10, .chain⟩ (by simp) rfl
        have h9 : l 9 = true := by
          cases h9 : l 9 with
          | true => rfl
          | false => have := (hI.1 h9).1; rw [h10] at this; cases this
        have hall := (hI.2 h9).1
        have hpo := ((hI.2 h9).2.2 h10).1 h11
        have HA := Lib.hid (show (∀ i, i < 9 → l i = true) ∧ l 9 = true ∧ l 10 = true from ⟨hall, h9, h10⟩)
        have y := hpo.store3
        cases y
        rename_i g y
        cases y
        rename_i C y
        cases y
        rename_i f y
        cases y
        rename_i C' y
        cases y
        rename_i f' y
        have ex := y.1
        have ev := y.2.1
        have hb := y.2.2.1
        have hn := y.2.2.2
        clear y
        have HN := Lib.hid hn
        have HF := Lib.hid (hK.out undef _ ⟨(fun h => Bool.noConfusion (HA.out.2.1.symm.trans (show l 9 = _ from h))), fun _ => ⟨fun i hi => (upd_ne l true (by omega)).trans (HA.out.1 i hi), (fun h => Bool.noConfusion (HA.out.2.2.symm.trans (show l 10 = _ from h))), fun _ => ⟨(fun h => nomatch (show true = false from h)), fun _ => HN.out _ _ fun i hi => upd_ne x _ (by omega)⟩⟩⟩)
        have EX := Lib.hid ex
        have EV := Lib.hid ev
        have q : w'.cell? ⟨g, 0, none⟩ = some (.int .i64 0) ∧ w'.cell? ⟨g, 1, none⟩ = some (.bool false) ∧ w'.cell? ⟨g, 2, none⟩ = some (.int .i64 0) ∧ w'.cell? ⟨g, 3, none⟩ = some (.string ⟨#[]⟩) ∧ w'.cell? ⟨g, 4, none⟩ = some (.slice none 0 0) ∧ w'.cell? ⟨g, 5, none⟩ = some (.slice none 0 0) := ⟨hb.cell 0, hb.cell 1, hb.cell 2, hb.cell 3, hb.cell 4, hb.cell 5⟩
        have q0 := q.1
        have q1 := q.2.1
        have q2 := q.2.2.1
        have q3 := q.2.2.2.1
        have q4 := q.2.2.2.2.1
        have q5 := q.2.2.2.2.2
        clear q
        have f0 := hb.free 0
        have f1 := hb.free 1
        have f2 := hb.free 2
        have f3 := hb.free 3
        have f4 := hb.free 4
        have f5 := hb.free 5
        clear hI hd hK hl hpo hn hb ex ev hall h9 h10 h11
        simp only [putL, Act.put, List.setIfInBounds_toArray, List.set_cons_zero, List.set_cons_succ]
        rw [EX.out, EV.out]
        unfold ptr
        go_simp
        have HG := HF.out
        simp only [putL, Act.put, List.setIfInBounds_toArray, List.set_cons_zero, List.set_cons_succ] at HG
        rw [EX.out, EV.out] at HG
        exact HG
  case hend =>
    intro l x w' hl hI
    have hpo := ((hI.2 (hl 9 (by decide))).2.2 (hl 10 (by decide))).2 (hl 11 (by decide))
    obtain ⟨g6, g7, g8, C1, f1, C1', f1', C3, f3, C3', f3', C5, f5, C5', f5', e6, e7, e8, e1, e3, e5, n67, n68, n78, ⟨k6, k7, k8⟩, m6, m7, m8, t1, t3, t5, hb⟩ := hpo
    simp only [putL, Act.put, List.setIfInBounds_toArray, List.set_cons_zero, List.set_cons_succ]
    rw [e6, e7, e8]
    unfold ptr
    have hT1 := HtV.out.on hb
    have hT2 := HuV.out.on hb
    have hT3 := HvV.out.on hb
    have q1 : TV w' (· < w'.heap.size) t C1 f1 C1' f1' := t1.wide fun b hb => hb.1
    have q2 : TV w' (· < w'.heap.size) u C3 f3 C3' f3' := t3.wide fun b hb => hb.1
    have q3 : TV w' (· < w'.heap.size) v C5 f5 C5' f5' := t5.wide fun b hb => hb.1
    have HWW := Lib.hid (HW.out.trans (hb.mono HW.out.size))
    have HK1 := Lib.hid hT1
    have HK2 := Lib.hid hT2
    have HK3 := Lib.hid hT3
    have HX1 := Lib.hid q1
    have HX2 := Lib.hid q2
    have HX3 := Lib.hid q3
    have p0 := HB0.out.onto hb
    have p1 := HB1.out.onto hb
    have p2 := HB2.out.onto hb
    have M6 := Lib.hid (show Blk w' g6 34 #[.int .i64 t.kind, .bool t.tr, .int .i64 t.num, .string t.str, .slice C1 t.items.length f1, .slice C1' t.keys.length f1'] from m6)
    have M7 := Lib.hid (show Blk w' g7 34 #[.int .i64 u.kind, .bool u.tr, .int .i64 u.num, .string u.str, .slice C3 u.items.length f3, .slice C3' u.keys.length f3'] from m7)
    have M8 := Lib.hid (show Blk w' g8 34 #[.int .i64 v.kind, .bool v.tr, .int .i64 v.num, .string v.str, .slice C5 v.items.length f5, .slice C5' v.keys.length f5'] from m8)
    have P0 := Lib.hid p0
    have P1 := Lib.hid p1
    have P2 := Lib.hid p2
    clear e1 e3 e5 e6 e7 e8 hl hI hT1 hT2 hT3 q1 q2 q3 hb p0 p1 p2 m6 m7 m8 t1 t3 t5 HB0 HB1 HB2 HtV HuV HvV HW k6 k7 k8 n67 n68 n78
    clear HN HN1 HN2
    have r1 := ord_range t u
    have r2 := ord_neg t u
    have tr := ord_trip t u v
    have HS := Lib.hid (same_ord HtN.out.good HuN.out.good)
    obtain ⟨o, ho⟩ : ∃ o, ord t u = o := ⟨_, rfl⟩
    obtain ⟨o2, ho2⟩ : ∃ o, ord u v = o := ⟨_, rfl⟩
    obtain ⟨o3, ho3⟩ : ∃ o, ord t v = o := ⟨_, rfl⟩
    rw [ho] at r1 r2
    rw [ho, ho2, ho3] at tr
    have HO := Lib.hid ho
    have HO2 := Lib.hid ho2
    have HO3 := Lib.hid ho3
    have HON := Lib.hid r2
    have hlt : ltB (ord t u) = (o == -1) := by rw [ho]; rfl
    have hgt : ltB (ord u t) = (o == 1) := by rw [r2]; unfold ltB; rcases r1 with h | h | h <;> subst h <;> decide
    have heq : (ord t u == 0) = (o == 0) := by rw [ho]
    have hsm : (o == 0) = true ↔ t = u := by rw [← ho]; exact HS.out
    have HLT := Lib.hid hlt
    have HGT := Lib.hid hgt
    have HEQ := Lib.hid heq
    have HSM := Lib.hid hsm
    have TR : (o = -1 → o2 = -1 → o3 = -1) ∧ (o = 0 → o3 = o2) ∧ (o2 = 0 → o3 = o) ∧ (o2 = -1 ∨ o2 = 0 ∨ o2 = 1) ∧ (o3 = -1 ∨ o3 = 0 ∨ o3 = 1) := ⟨tr.2.2.2.2.2.1, tr.2.2.2.1, tr.2.2.2.2.1, tr.2.1, tr.2.2.1⟩
    have HTR := Lib.hid TR
    clear hlt hgt heq hsm TR tr r2 ho ho2 ho3 HS
    have HR := Lib.hid r1
    clear r1
    go_upto_block 0 with fail
    have a : w'.cell? ⟨G, 0, none⟩ = some (.int .i64 t.kind) ∧ w'.cell? ⟨G, 1, none⟩ = some (.bool t.tr) ∧ w'.cell? ⟨G, 2, none⟩ = some (.int .i64 t.num) ∧ w'.cell? ⟨G, 3, none⟩ = some (.string t.str) ∧ w'.cell? ⟨G, 4, none⟩ = some (.slice B t.items.length d) ∧ w'.cell? ⟨G, 5, none⟩ = some (.slice B' t.keys.length d') := ⟨P0.out.cell 0, P0.out.cell 1, P0.out.cell 2, P0.out.cell 3, P0.out.cell 4, P0.out.cell 5⟩
    have a0 := a.1
    have a1 := a.2.1
    have a2 := a.2.2.1
    have a3 := a.2.2.2.1
    have a4 := a.2.2.2.2.1
    have a5 := a.2.2.2.2.2
    clear a
    have b : w'.cell? ⟨G + 1, 0, none⟩ = some (.int .i64 u.kind) ∧ w'.cell? ⟨G + 1, 1, none⟩ = some (.bool u.tr) ∧ w'.cell? ⟨G + 1, 2, none⟩ = some (.int .i64 u.num) ∧ w'.cell? ⟨G + 1, 3, none⟩ = some (.string u.str) ∧ w'.cell? ⟨G + 1, 4, none⟩ = some (.slice B1 u.items.length d1) ∧ w'.cell? ⟨G + 1, 5, none⟩ = some (.slice B1' u.keys.length d1') := ⟨P1.out.cell 0, P1.out.cell 1, P1.out.cell 2, P1.out.cell 3, P1.out.cell 4, P1.out.cell 5⟩
    have b0 := b.1
    have b1 := b.2.1
    have b2 := b.2.2.1
    have b3 := b.2.2.2.1
    have b4 := b.2.2.2.2.1
    have b5 := b.2.2.2.2.2
    clear b
    go_cut [13] (fun s wx => s = .int .i64 o ∧ Below w'.heap.size w' wx)
    case first =>
      rcases HR.out with rfl | rfl | rfl
      · go_wp2_with fail
        refine (less_b t u true B d B' d' B1 d1 B1' d1' _ (by rw [HLT.out]; rfl) HtN.out HuN.out HK1.out HK2.out).mono ?_
        rintro e w5 ⟨rfl, hb5⟩
        have H5 := Lib.hid hb5
        clear hb5
        go_wp2_with fail
        go_meet
        exact ⟨rfl, H5.out⟩
      · go_wp2_with fail
        refine (less_b t u false B d B' d' B1 d1 B1' d1' _ (by rw [HLT.out]; rfl) HtN.out HuN.out HK1.out HK2.out).mono ?_
        rintro e w5 ⟨rfl, hb5⟩
        have H5 := Lib.hid hb5
        have P05 := P0.out.onto hb5
        have P15 := P1.out.onto hb5
        clear a0 a1 a2 a3 a4 a5 b0 b1 b2 b3 b4 b5
        have a : w5.cell? ⟨G, 0, none⟩ = some (.int .i64 t.kind) ∧ w5.cell? ⟨G, 1, none⟩ = some (.bool t.tr) ∧ w5.cell? ⟨G, 2, none⟩ = some (.int .i64 t.num) ∧ w5.cell? ⟨G, 3, none⟩ = some (.string t.str) ∧ w5.cell? ⟨G, 4, none⟩ = some (.slice B t.items.length d) ∧ w5.cell? ⟨G, 5, none⟩ = some (.slice B' t.keys.length d') := ⟨P05.cell 0, P05.cell 1, P05.cell 2, P05.cell 3, P05.cell 4, P05.cell 5⟩
        have a0 := a.1
        have a1 := a.2.1
        have a2 := a.2.2.1
        have a3 := a.2.2.2.1
        have a4 := a.2.2.2.2.1
        have a5 := a.2.2.2.2.2
        clear a
        have b : w5.cell? ⟨G + 1, 0, none⟩ = some (.int .i64 u.kind) ∧ w5.cell? ⟨G + 1, 1, none⟩ = some (.bool u.tr) ∧ w5.cell? ⟨G + 1, 2, none⟩ = some (.int .i64 u.num) ∧ w5.cell? ⟨G + 1, 3, none⟩ = some (.string u.str) ∧ w5.cell? ⟨G + 1, 4, none⟩ = some (.slice B1 u.items.length d1) ∧ w5.cell? ⟨G + 1, 5, none⟩ = some (.slice B1' u.keys.length d1') := ⟨P15.cell 0, P15.cell 1, P15.cell 2, P15.cell 3, P15.cell 4, P15.cell 5⟩
        have b0 := b.1
        have b1 := b.2.1
        have b2 := b.2.2.1
        have b3 := b.2.2.2.1
        have b4 := b.2.2.2.2.1
        have b5 := b.2.2.2.2.2
        clear b
        clear hb5 P05 P15
        go_wp2_with fail
        refine (less_b u t false B1 d1 B1' d1' B d B' d' _ (by rw [HGT.out]; rfl) HuN.out HtN.out (HK2.out.on H5.out) (HK1.out.on H5.out)).mono ?_
        rintro e w6 ⟨rfl, hb6⟩
        have H6 := Lib.hid (H5.out.trans (hb6.mono H5.out.size))
        clear hb6
        go_wp2_with fail
        go_meet
        exact ⟨rfl, H6.out⟩
      · go_wp2_with fail
        refine (less_b t u false B d B' d' B1 d1 B1' d1' _ (by rw [HLT.out]; rfl) HtN.out HuN.out HK1.out HK2.out).mono ?_
        rintro e w5 ⟨rfl, hb5⟩
        have H5 := Lib.hid hb5
        have P05 := P0.out.onto hb5
        have P15 := P1.out.onto hb5
        clear a0 a1 a2 a3 a4 a5 b0 b1 b2 b3 b4 b5
        have a : w5.cell? ⟨G, 0, none⟩ = some (.int .i64 t.kind) ∧ w5.cell? ⟨G, 1, none⟩ = some (.bool t.tr) ∧ w5.cell? ⟨G, 2, none⟩ = some (.int .i64 t.num) ∧ w5.cell? ⟨G, 3, none⟩ = some (.string t.str) ∧ w5.cell? ⟨G, 4, none⟩ = some (.slice B t.items.length d) ∧ w5.cell? ⟨G, 5, none⟩ = some (.slice B' t.keys.length d') := ⟨P05.cell 0, P05.cell 1, P05.cell 2, P05.cell 3, P05.cell 4, P05.cell 5⟩
        have a0 := a.1
        have a1 := a.2.1
        have a2 := a.2.2.1
        have a3 := a.2.2.2.1
        have a4 := a.2.2.2.2.1
        have a5 := a.2.2.2.2.2
        clear a
        have b : w5.cell? ⟨G + 1, 0, none⟩ = some (.int .i64 u.kind) ∧ w5.cell? ⟨G + 1, 1, none⟩ = some (.bool u.tr) ∧ w5.cell? ⟨G + 1, 2, none⟩ = some (.int .i64 u.num) ∧ w5.cell? ⟨G + 1, 3, none⟩ = some (.string u.str) ∧ w5.cell? ⟨G + 1, 4, none⟩ = some (.slice B1 u.items.length d1) ∧ w5.cell? ⟨G + 1, 5, none⟩ = some (.slice B1' u.keys.length d1') := ⟨P15.cell 0, P15.cell 1, P15.cell 2, P15.cell 3, P15.cell 4, P15.cell 5⟩
        have b0 := b.1
        have b1 := b.2.1
        have b2 := b.2.2.1
        have b3 := b.2.2.2.1
        have b4 := b.2.2.2.2.1
        have b5 := b.2.2.2.2.2
        clear b
        clear hb5 P05 P15
        go_wp2_with fail
        refine (less_b u t true B1 d1 B1' d1' B d B' d' _ (by rw [HGT.out]; rfl) HuN.out HtN.out (HK2.out.on H5.out) (HK1.out.on H5.out)).mono ?_
        rintro e w6 ⟨rfl, hb6⟩
        have H6 := Lib.hid (H5.out.trans (hb6.mono H5.out.size))
        clear hb6
        go_wp2_with fail
        go_meet
        exact ⟨rfl, H6.out⟩
    case rest =>
    obtain ⟨rfl, hbc⟩ := hcut
    clear a0 a1 a2 a3 a4 a5 b0 b1 b2 b3 b4 b5
    have HC := Lib.hid hbc
    clear hbc
    have P0c := P0.out.onto HC.out
    have P1c := P1.out.onto HC.out
    have M6c := M6.out.onto HC.out
    have M7c := M7.out.onto HC.out
    have M8c := M8.out.onto HC.out
    have HK1c := Lib.hid (HK1.out.on HC.out)
    have HK2c := Lib.hid (HK2.out.on HC.out)
    have HX1c := Lib.hid (HX1.out.on HC.out)
    have HX2c := Lib.hid (HX2.out.on HC.out)
    have HX3c := Lib.hid (HX3.out.on HC.out)
    have HWc := Lib.hid (HWW.out.trans (HC.out.mono HWW.out.size))
    clear HC HK1 HK2 HX1 HX2 HX3 P0 P1 P2 M6 M7 M8 HWW HK3
    clear w' W
    have x : wc.cell? ⟨g6, 0, none⟩ = some (.int .i64 t.kind) ∧ wc.cell? ⟨g6, 1, none⟩ = some (.bool t.tr) ∧ wc.cell? ⟨g6, 2, none⟩ = some (.int .i64 t.num) ∧ wc.cell? ⟨g6, 3, none⟩ = some (.string t.str) ∧ wc.cell? ⟨g6, 4, none⟩ = some (.slice C1 t.items.length f1) ∧ wc.cell? ⟨g6, 5, none⟩ = some (.slice C1' t.keys.length f1') := ⟨M6c.cell 0, M6c.cell 1, M6c.cell 2, M6c.cell 3, M6c.cell 4, M6c.cell 5⟩
    have x0 := x.1
    have x1 := x.2.1
    have x2 := x.2.2.1
    have x3 := x.2.2.2.1
    have x4 := x.2.2.2.2.1
    have x5 := x.2.2.2.2.2
    clear x
    have y : wc.cell? ⟨g7, 0, none⟩ = some (.int .i64 u.kind) ∧ wc.cell? ⟨g7, 1, none⟩ = some (.bool u.tr) ∧ wc.cell? ⟨g7, 2, none⟩ = some (.int .i64 u.num) ∧ wc.cell? ⟨g7, 3, none⟩ = some (.string u.str) ∧ wc.cell? ⟨g7, 4, none⟩ = some (.slice C3 u.items.length f3) ∧ wc.cell? ⟨g7, 5, none⟩ = some (.slice C3' u.keys.length f3') := ⟨M7c.cell 0, M7c.cell 1, M7c.cell 2, M7c.cell 3, M7c.cell 4, M7c.cell 5⟩
    have y0 := y.1
    have y1 := y.2.1
    have y2 := y.2.2.1
    have y3 := y.2.2.2.1
    have y4 := y.2.2.2.2.1
    have y5 := y.2.2.2.2.2
    clear y
    have HP0 := Lib.hid P0c
    have HP1 := Lib.hid P1c
    have HM6 := Lib.hid M6c
    have HM7 := Lib.hid M7c
    have HM8 := Lib.hid M8c
    clear P0c P1c M6c M7c M8c
    go_wp2_with fail
    refine (order_b t u o C1 f1 C1' f1' C3 f3 C3' f3' _ HO.out HtN.out HuN.out HX1c.out HX2c.out).mono ?_
    rintro e wd ⟨rfl, hbd⟩
    have HD := Lib.hid hbd
    have HWd := Lib.hid (HWc.out.trans (hbd.mono HWc.out.size))
    clear hbd x0 x1 x2 x3 x4 x5 y0 y1 y2 y3 y4 y5
    have hneg : IntKind.i64.wrap (-o) = -o := by rcases HR.out with rfl | rfl | rfl <;> rfl
    obtain ⟨z, hz⟩ : ∃ z : Bool, (o == 0) = z := ⟨_, rfl⟩
    have HZE := Lib.hid (show (ord t u == 0) = z from HEQ.out.trans hz)
    have HZM := Lib.hid (show z = true ↔ t = u by rw [← hz]; exact HSM.out)
    have hoo : (o != o) = false := by simp
    have hnn : (-o != -o) = false := by simp
    have hzz : (z == z) = true := by simp
    go_upto_region 11 with fail
    have HSS := Lib.hid (show ∀ w', Below wd.heap.size wd w' → ((w'.cell? ⟨g6, 0, none⟩ = some (.int .i64 t.kind) ∧ w'.cell? ⟨g6, 1, none⟩ = some (.bool t.tr) ∧ w'.cell? ⟨g6, 2, none⟩ = some (.int .i64 t.num) ∧ w'.cell? ⟨g6, 3, none⟩ = some (.string t.str) ∧ w'.cell? ⟨g6, 4, none⟩ = some (.slice C1 t.items.length f1) ∧ w'.cell? ⟨g6, 5, none⟩ = some (.slice C1' t.keys.length f1')) ∧ (w'.cell? ⟨g7, 0, none⟩ = some (.int .i64 u.kind) ∧ w'.cell? ⟨g7, 1, none⟩ = some (.bool u.tr) ∧ w'.cell? ⟨g7, 2, none⟩ = some (.int .i64 u.num) ∧ w'.cell? ⟨g7, 3, none⟩ = some (.string u.str) ∧ w'.cell? ⟨g7, 4, none⟩ = some (.slice C3 u.items.length f3) ∧ w'.cell? ⟨g7, 5, none⟩ = some (.slice C3' u.keys.length f3')) ∧ (w'.cell? ⟨G, 0, none⟩ = some (.int .i64 t.kind) ∧ w'.cell? ⟨G, 1, none⟩ = some (.bool t.tr) ∧ w'.cell? ⟨G, 2, none⟩ = some (.int .i64 t.num) ∧ w'.cell? ⟨G, 3, none⟩ = some (.string t.str) ∧ w'.cell? ⟨G, 4, none⟩ = some (.slice B t.items.length d) ∧ w'.cell? ⟨G, 5, none⟩ = some (.slice B' t.keys.length d')) ∧ (w'.cell? ⟨G + 1, 0, none⟩ = some (.int .i64 u.kind) ∧ w'.cell? ⟨G + 1, 1, none⟩ = some (.bool u.tr) ∧ w'.cell? ⟨G + 1, 2, none⟩ = some (.int .i64 u.num) ∧ w'.cell? ⟨G + 1, 3, none⟩ = some (.string u.str) ∧ w'.cell? ⟨G + 1, 4, none⟩ = some (.slice B1 u.items.length d1) ∧ w'.cell? ⟨G + 1, 5, none⟩ = some (.slice B1' u.keys.length d1'))) from fun w' hb => by
      have h6 := (HM6.out.onto HD.out).onto hb
      have h7 := (HM7.out.onto HD.out).onto hb
      have h0 := (HP0.out.onto HD.out).onto hb
      have h1 := (HP1.out.onto HD.out).onto hb
      exact ⟨⟨h6.cell 0, h6.cell 1, h6.cell 2, h6.cell 3, h6.cell 4, h6.cell 5⟩, ⟨h7.cell 0, h7.cell 1, h7.cell 2, h7.cell 3, h7.cell 4, h7.cell 5⟩, ⟨h0.cell 0, h0.cell 1, h0.cell 2, h0.cell 3, h0.cell 4, h0.cell 5⟩, ⟨h1.cell 0, h1.cell 1, h1.cell 2, h1.cell 3, h1.cell 4, h1.cell 5⟩⟩)
    have HBc := Lib.hid (Below.refl wd.heap.size wd)
    have HX1d := Lib.hid (HX1c.out.on HD.out)
    have HX2d := Lib.hid (HX2c.out.on HD.out)
    have HX3d := Lib.hid (HX3c.out.on HD.out)
    have HK1d := Lib.hid (HK1c.out.on HD.out)
    have HK2d := Lib.hid (HK2c.out.on HD.out)
    clear HX1c HX2c HX3c HK1c HK2c HWc
    obtain ⟨⟨x0, x1, x2, x3, x4, x5⟩, ⟨y0, y1, y2, y3, y4, y5⟩, ⟨a0, a1, a2, a3, a4, a5⟩, ⟨b0, b1, b2, b3, b4, b5⟩⟩ := HSS.out wd (Below.refl _ _)
    go_region_held3 (fun w' => (w'.cell? ⟨g6, 0, none⟩ = some (.int .i64 t.kind) ∧ w'.cell? ⟨g6, 1, none⟩ = some (.bool t.tr) ∧ w'.cell? ⟨g6, 2, none⟩ = some (.int .i64 t.num) ∧ w'.cell? ⟨g6, 3, none⟩ = some (.string t.str) ∧ w'.cell? ⟨g6, 4, none⟩ = some (.slice C1 t.items.length f1) ∧ w'.cell? ⟨g6, 5, none⟩ = some (.slice C1' t.keys.length f1')) ∧ (w'.cell? ⟨g7, 0, none⟩ = some (.int .i64 u.kind) ∧ w'.cell? ⟨g7, 1, none⟩ = some (.bool u.tr) ∧ w'.cell? ⟨g7, 2, none⟩ = some (.int .i64 u.num) ∧ w'.cell? ⟨g7, 3, none⟩ = some (.string u.str) ∧ w'.cell? ⟨g7, 4, none⟩ = some (.slice C3 u.items.length f3) ∧ w'.cell? ⟨g7, 5, none⟩ = some (.slice C3' u.keys.length f3')) ∧ (w'.cell? ⟨G, 0, none⟩ = some (.int .i64 t.kind) ∧ w'.cell? ⟨G, 1, none⟩ = some (.bool t.tr) ∧ w'.cell? ⟨G, 2, none⟩ = some (.int .i64 t.num) ∧ w'.cell? ⟨G, 3, none⟩ = some (.string t.str) ∧ w'.cell? ⟨G, 4, none⟩ = some (.slice B t.items.length d) ∧ w'.cell? ⟨G, 5, none⟩ = some (.slice B' t.keys.length d')) ∧ (w'.cell? ⟨G + 1, 0, none⟩ = some (.int .i64 u.kind) ∧ w'.cell? ⟨G + 1, 1, none⟩ = some (.bool u.tr) ∧ w'.cell? ⟨G + 1, 2, none⟩ = some (.int .i64 u.num) ∧ w'.cell? ⟨G + 1, 3, none⟩ = some (.string u.str) ∧ w'.cell? ⟨G + 1, 4, none⟩ = some (.slice B1 u.items.length d1) ∧ w'.cell? ⟨G + 1, 5, none⟩ = some (.slice B1' u.keys.length d1')))
      (first
        | with_reducible exact HSS.out _ HBc.out
        | with_reducible exact HSS.out _ (below_drewN HBc.out _)
        | exact HSS.out _ HBc.out.drew
        | go_keep)
      (first
        | (go_at_call 11
           with_reducible refine (order_b u t (-o) C3 f3 C3' f3' C1 f1 C1' f1' _ HON.out HuN.out HtN.out (HX2d.out.on ?_) (HX1d.out.on ?_)).mono ?_
           · exact (by first | with_reducible exact HBc.out | with_reducible exact below_drewN HBc.out _ | exact HBc.out.drew)
           · exact (by first | with_reducible exact HBc.out | with_reducible exact below_drewN HBc.out _ | exact HBc.out.drew)
           rintro e7 w7 ⟨rfl, hb7⟩
           have HBc := Lib.hid (show Below wd.heap.size wd w7 from by first | with_reducible exact HBc.out.trans (hb7.mono HBc.out.size) | with_reducible exact (below_drewN HBc.out _).trans (hb7.mono HBc.out.size) | exact HBc.out.drew.trans (hb7.mono HBc.out.size))
           clear hb7)
        | (go_at_call 12
           with_reducible refine (vsame_b t u z C1 f1 C1' f1' C3 f3 C3' f3' _ HZE.out HtN.out HuN.out (HX1d.out.on ?_) (HX2d.out.on ?_)).mono ?_
           · exact (by first | with_reducible exact HBc.out | with_reducible exact below_drewN HBc.out _ | exact HBc.out.drew)
           · exact (by first | with_reducible exact HBc.out | with_reducible exact below_drewN HBc.out _ | exact HBc.out.drew)
           rintro e8 w8 ⟨rfl, hb8⟩
           have HBc := Lib.hid (show Below wd.heap.size wd w8 from by first | with_reducible exact HBc.out.trans (hb8.mono HBc.out.size) | with_reducible exact (below_drewN HBc.out _).trans (hb8.mono HBc.out.size) | exact HBc.out.drew.trans (hb8.mono HBc.out.size))
           clear hb8)
        | (go_at_call 13
           with_reducible refine (rsame_b t u B d B' d' B1 d1 B1' d1' _ z HZM.out HtN.out (HK1d.out.on ?_) (HK2d.out.on ?_)).mono ?_
           · exact (by first | with_reducible exact HBc.out | with_reducible exact below_drewN HBc.out _ | exact HBc.out.drew)
           · exact (by first | with_reducible exact HBc.out | with_reducible exact below_drewN HBc.out _ | exact HBc.out.drew)
           rintro e9 w9 ⟨rfl, hb9⟩
           have HBc := Lib.hid (show Below wd.heap.size wd w9 from by first | with_reducible exact HBc.out.trans (hb9.mono HBc.out.size) | with_reducible exact (below_drewN HBc.out _).trans (hb9.mono HBc.out.size) | exact HBc.out.drew.trans (hb9.mono HBc.out.size))
           clear hb9))
    all_goals
      clear x0 x1 x2 x3 x4 x5 y0 y1 y2 y3 y4 y5 a0 a1 a2 a3 a4 a5 b0 b1 b2 b3 b4 b5
      have HE := Lib.hid (show Below wd.heap.size wd w9 from (by first | with_reducible exact HBc.out | with_reducible exact below_drewN HBc.out _ | exact HBc.out.drew))
      have HWe := Lib.hid (HWd.out.trans (HE.out.mono HWd.out.size))
      have HX1e := Lib.hid (HX1d.out.on HE.out)
      have HX2e := Lib.hid (HX2d.out.on HE.out)
      have HX3e := Lib.hid (HX3d.out.on HE.out)
      have N6 := (HM6.out.onto HD.out).onto HE.out
      have N7 := (HM7.out.onto HD.out).onto HE.out
      have N8 := (HM8.out.onto HD.out).onto HE.out
      have x : w9.cell? ⟨g6, 0, none⟩ = some (.int .i64 t.kind) ∧ w9.cell? ⟨g6, 1, none⟩ = some (.bool t.tr) ∧ w9.cell? ⟨g6, 2, none⟩ = some (.int .i64 t.num) ∧ w9.cell? ⟨g6, 3, none⟩ = some (.string t.str) ∧ w9.cell? ⟨g6, 4, none⟩ = some (.slice C1 t.items.length f1) ∧ w9.cell? ⟨g6, 5, none⟩ = some (.slice C1' t.keys.length f1') := ⟨N6.cell 0, N6.cell 1, N6.cell 2, N6.cell 3, N6.cell 4, N6.cell 5⟩
      have x0 := x.1
      have x1 := x.2.1
      have x2 := x.2.2.1
      have x3 := x.2.2.2.1
      have x4 := x.2.2.2.2.1
      have x5 := x.2.2.2.2.2
      clear x
      have y : w9.cell? ⟨g7, 0, none⟩ = some (.int .i64 u.kind) ∧ w9.cell? ⟨g7, 1, none⟩ = some (.bool u.tr) ∧ w9.cell? ⟨g7, 2, none⟩ = some (.int .i64 u.num) ∧ w9.cell? ⟨g7, 3, none⟩ = some (.string u.str) ∧ w9.cell? ⟨g7, 4, none⟩ = some (.slice C3 u.items.length f3) ∧ w9.cell? ⟨g7, 5, none⟩ = some (.slice C3' u.keys.length f3') := ⟨N7.cell 0, N7.cell 1, N7.cell 2, N7.cell 3, N7.cell 4, N7.cell 5⟩
      have y0 := y.1
      have y1 := y.2.1
      have y2 := y.2.2.1
      have y3 := y.2.2.2.1
      have y4 := y.2.2.2.2.1
      have y5 := y.2.2.2.2.2
      clear y
      have z' : w9.cell? ⟨g8, 0, none⟩ = some (.int .i64 v.kind) ∧ w9.cell? ⟨g8, 1, none⟩ = some (.bool v.tr) ∧ w9.cell? ⟨g8, 2, none⟩ = some (.int .i64 v.num) ∧ w9.cell? ⟨g8, 3, none⟩ = some (.string v.str) ∧ w9.cell? ⟨g8, 4, none⟩ = some (.slice C5 v.items.length f5) ∧ w9.cell? ⟨g8, 5, none⟩ = some (.slice C5' v.keys.length f5') := ⟨N8.cell 0, N8.cell 1, N8.cell 2, N8.cell 3, N8.cell 4, N8.cell 5⟩
      have z'0 := z'.1
      have z'1 := z'.2.1
      have z'2 := z'.2.2.1
      have z'3 := z'.2.2.2.1
      have z'4 := z'.2.2.2.2.1
      have z'5 := z'.2.2.2.2.2
      clear z'
      have HN6 := Lib.hid N6
      have HN8 := Lib.hid N8
      clear N6 N7 N8 HX1d HX2d HX3d
      by_cases h1 : 0 < o
      · have q1 : decide ((0 : Int) < o) = true := decide_eq_true h1
        go_wp2_with fail
        go_ret
        exact ⟨rfl, HWe.out⟩
      · have q1 : decide ((0 : Int) < o) = false := decide_eq_false h1
        go_wp2_with fail
        refine (order_b u v o2 C3 f3 C3' f3' C5 f5 C5' f5' _ HO2.out HuN.out HvN.out HX2e.out HX3e.out).mono ?_
        rintro e wf ⟨rfl, hbf⟩
        have HWf := Lib.hid (HWe.out.trans (hbf.mono HWe.out.size))
        have N6 := HN6.out.onto hbf
        have N8 := HN8.out.onto hbf
        have HX1f := Lib.hid (HX1e.out.on hbf)
        have HX3f := Lib.hid (HX3e.out.on hbf)
        clear hbf x0 x1 x2 x3 x4 x5 y0 y1 y2 y3 y4 y5 z'0 z'1 z'2 z'3 z'4 z'5
        have x : wf.cell? ⟨g6, 0, none⟩ = some (.int .i64 t.kind) ∧ wf.cell? ⟨g6, 1, none⟩ = some (.bool t.tr) ∧ wf.cell? ⟨g6, 2, none⟩ = some (.int .i64 t.num) ∧ wf.cell? ⟨g6, 3, none⟩ = some (.string t.str) ∧ wf.cell? ⟨g6, 4, none⟩ = some (.slice C1 t.items.length f1) ∧ wf.cell? ⟨g6, 5, none⟩ = some (.slice C1' t.keys.length f1') := ⟨N6.cell 0, N6.cell 1, N6.cell 2, N6.cell 3, N6.cell 4, N6.cell 5⟩
        have x0 := x.1
        have x1 := x.2.1
        have x2 := x.2.2.1
        have x3 := x.2.2.2.1
        have x4 := x.2.2.2.2.1
        have x5 := x.2.2.2.2.2
        clear x
        have z' : wf.cell? ⟨g8, 0, none⟩ = some (.int .i64 v.kind) ∧ wf.cell? ⟨g8, 1, none⟩ = some (.bool v.tr) ∧ wf.cell? ⟨g8, 2, none⟩ = some (.int .i64 v.num) ∧ wf.cell? ⟨g8, 3, none⟩ = some (.string v.str) ∧ wf.cell? ⟨g8, 4, none⟩ = some (.slice C5 v.items.length f5) ∧ wf.cell? ⟨g8, 5, none⟩ = some (.slice C5' v.keys.length f5') := ⟨N8.cell 0, N8.cell 1, N8.cell 2, N8.cell 3, N8.cell 4, N8.cell 5⟩
        have z'0 := z'.1
        have z'1 := z'.2.1
        have z'2 := z'.2.2.1
        have z'3 := z'.2.2.2.1
        have z'4 := z'.2.2.2.2.1
        have z'5 := z'.2.2.2.2.2
        clear z'
        clear N6 N8
        by_cases h2 : 0 < o2
        · have q2 : decide ((0 : Int) < o2) = true := decide_eq_true h2
          go_wp2_with fail
          go_ret
          exact ⟨rfl, HWf.out⟩
        · have q2 : decide ((0 : Int) < o2) = false := decide_eq_false h2
          have h3 : o3 ≤ 0 := by
            have r := HR.out
            obtain ⟨k1, k2, k3, k4, k5⟩ := HTR.out
            rcases r with r | r | r
            · rcases k4 with k | k | k
              · have := k1 r k; omega
              · have := k3 k; omega
              · omega
            · have := k2 r; omega
            · omega
          have q3 : decide (o3 ≤ 0) = true := decide_eq_true h3
          go_wp2_with fail
          refine (order_b t v o3 C1 f1 C1' f1' C5 f5 C5' f5' _ HO3.out HtN.out HvN.out HX1f.out HX3f.out).mono ?_
          rintro e wg ⟨rfl, hbg⟩
          have HWg := Lib.hid (HWf.out.trans (hbg.mono HWf.out.size))
          clear hbg
          go_wp2_with fail
          go_ret
          exact ⟨rfl, HWg.out⟩

set_option maxRecDepth 100000 in
theorem lifted (os : Os) (started : os.Started) (H : Type) (enc : TypeId × Value → H) :
    ReturnsInHanded {} Try.checked os 4 .any (Rows.valueOrdersSpec.pre6 enc Try.prog Try.f4 Rows.valueOrdersRow.domain false) (Rows.valueOrdersSpec.post enc Try.prog Try.f4 false true false false) := by
  refine returnsInHanded_of_change (C := Try.checked) own started (by kernel_rfl) Try.func4
    (ChangeSpec.witness6 (enc := enc) (C := Try.checked) false ⟨#[], #[.slice none 0 0, .slice none 0 0, .slice none 0 0], []⟩ 8 (by kernel_rfl) (by kernel_rfl) (by kernel_rfl) (by kernel_rfl)) ?_
  intro W base args ds gs before hval0 hW hcnd _
  have hval : ∀ (j : Nat) t v, Try.f4.params[j]? = some t → args[j]? = some v → Value.okWide Try.prog W .any base t v := hval0
  have hW' := hW
  obtain ⟨p, q, hA0, hV, rfl, hfz, hnd⟩ := hW
  have hA : DataW.TrodAll enc Try.prog W 0 (fun _ => true) true Try.f4.params.toList args.toList ds p := hA0
  rw [Try.params4] at hA hval
  obtain ⟨v0, vs0, d0, ds0, p0, q0, hargs, rfl, rfl, h0, r0⟩ := trodAll_cons hA
  obtain ⟨v1, vs1, d1, ds1, p1, q1, rfl, rfl, rfl, h1, r1⟩ := trodAll_cons r0
  obtain ⟨v2, vs2, d2, ds2, p2, q2, rfl, rfl, rfl, h2, r2⟩ := trodAll_cons r1
  obtain ⟨rfl, rfl, rfl⟩ := trodAll_nil r2
  obtain rfl : args = #[v0, v1, v2] := by cases args; simp_all
  obtain ⟨rfl, rfl⟩ := trodVars_none hV
  obtain ⟨a0, n0, c0, rfl⟩ := okWide_slice Try.underlying22 (hval 0 22 v0 rfl rfl)
  have k0 := h0
  have lt0 : ∀ x ∈ p0, x.block < W.heap.size := by obtain ⟨m, hm⟩ := k0; exact DataW.trod_lt m _ _ _ hm
  obtain ⟨f0, hf0⟩ := h0
  obtain ⟨hnc0, hcm0, hN0⟩ := nodes_open (show DataW.trod enc Try.prog W 0 _ _ f0 22 [.slice a0 n0 c0] = some (d0, p0) from hf0)
  obtain ⟨a1, n1, c1, rfl⟩ := okWide_slice Try.underlying22 (hval 1 22 v1 rfl rfl)
  have k1 := h1
  have lt1 : ∀ x ∈ p1, x.block < W.heap.size := by obtain ⟨m, hm⟩ := k1; exact DataW.trod_lt m _ _ _ hm
  obtain ⟨f1, hf1⟩ := h1
  obtain ⟨hnc1, hcm1, hN1⟩ := nodes_open (show DataW.trod enc Try.prog W 0 _ _ f1 22 [.slice a1 n1 c1] = some (d1, p1) from hf1)
  obtain ⟨a2, n2, c2, rfl⟩ := okWide_slice Try.underlying22 (hval 2 22 v2 rfl rfl)
  have k2 := h2
  have lt2 : ∀ x ∈ p2, x.block < W.heap.size := by obtain ⟨m, hm⟩ := k2; exact DataW.trod_lt m _ _ _ hm
  obtain ⟨f2, hf2⟩ := h2
  obtain ⟨hnc2, hcm2, hN2⟩ := nodes_open (show DataW.trod enc Try.prog W 0 _ _ f2 22 [.slice a2 n2 c2] = some (d2, p2) from hf2)
  clear hA0 hval0
  refine (walk a0 n0 c0 a1 n1 c1 a2 n2 c2 W hnc0 hcm0 hN0 hnc1 hcm1 hN1 hnc2 hcm2 hN2).mono fun e W' ⟨he, bel⟩ => ?_
  subst he
  exact ⟨_, rfl, _, _, _, [], _, [], hW', trodAll_mk1 (shut_bool Try.underlying4 _), (trodAll_cons_mk (Below.trod laidOut (by kernel_rfl) (of_decide_eq_true (by kernel_rfl)) k0 bel lt0) (trodAll_cons_mk (Below.trod laidOut (by kernel_rfl) (of_decide_eq_true (by kernel_rfl)) k1 bel lt1) (trodAll_cons_mk (Below.trod laidOut (by kernel_rfl) (of_decide_eq_true (by kernel_rfl)) k2 bel lt2) trodAll_mk0))), rfl, bel.frame _, fun h => by cases h⟩

theorem over : Rows.valueOrdersRow.holds Try.pinned (OpenSpec.ofChange Rows.valueOrdersSpec) :=
  OpenClaim.holds_of_wide 4 Try.f4 rfl rfl rfl rfl rfl rfl rfl ⟨rfl, rfl, rfl, rfl, rfl⟩ rfl rfl rfl rfl rfl (by kernel_rfl) Try.func4 (by kernel_rfl)
    (of_decide_eq_true (by kernel_rfl)) (by unfold Func.isWrapper; first | (rw [if_pos (by decide +kernel)]; kernel_rfl) | (rw [if_neg (by decide +kernel)]; exact ⟨rfl, rfl⟩))
    (fun os started H enc _ => lifted os started H enc)

/-- The statement. -/
theorem proved : Rows.ValueOrdersSaid := over
end Go.Proofs.Ytleikaiokoahdaa.valueOrders
