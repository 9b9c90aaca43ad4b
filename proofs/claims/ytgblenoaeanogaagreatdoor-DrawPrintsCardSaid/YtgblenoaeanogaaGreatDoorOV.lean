/- Ref: the program's value as the document's. Sizes and depths: contracts of the program's and the reference's. The reference's Same, of the same value. The law's Tree: contract. Find and Item: contracts. Arguments of the laws, opened: strings, bytes, nodes. The reference's Same, of two that aren't. Contracts whose arguments' cells are written out, as a walk has them. -/
import Derived.Test.YtgblenoaeanogaaGreatDoorMM
import Derived.Outline
import Derived.Deep.DeepCutAuto
import Derived.Deep.RegionLaw
import Derived.Deep.CutBlock
import Derived.Deep.LoopGhost
import Derived.Deep.Slices
import Derived.Deep.Fields
import Derived.ChangeSame
import Derived.SliceStrings
import Derived.ChangeSlices
import Derived.Lib.SmallJoins
import Derived.ChangeMaps5
set_option linter.unusedVariables false
set_option maxRecDepth 100000
set_option maxHeartbeats 8000000
open Go.Lib (hid)
namespace Go.Proofs.YtgblenoaeanogaaGreatDoor
open Go.RowKit
open Go.RowKit
open Go.RowKit
open Go.RowKit
def Bytes8 (w : World) (S : Nat → Prop) (A : Option Addr) (m : Nat) : Prop := ∀ j, j < m → ∃ (b o : Nat) (d : Int), A = some ⟨b, o, none⟩ ∧ S b ∧ 0 ≤ d ∧ d < 256 ∧ w.cell? ⟨b, o + j, none⟩ = some (.int .u8 d)
def Strs (w : World) (S : Nat → Prop) (A : Option Addr) (m : Nat) : Prop := ∀ j, j < m → ∃ (b o : Nat) (s : ByteArray), A = some ⟨b, o, none⟩ ∧ S b ∧ w.cell? ⟨b, o + j, none⟩ = some (.string s)
def NodeAt (w : World) (S : Nat → Prop) (b o : Nat) : Prop := ∃ (k n : Int) (s : ByteArray) (I : Option Addr) (mi ci : Nat) (K : Option Addr) (mk ck : Nat),
 0 ≤ k ∧ k < 256 ∧ -9223372036854775808 ≤ n ∧ n ≤ 9223372036854775807 ∧ w.cell? ⟨b, o, none⟩ = some (.int .u8 k) ∧ w.cell? ⟨b, o + 1, none⟩ = some (.int .i64 n) ∧ w.cell? ⟨b, o + 2, none⟩ = some (.string s) ∧
 w.cell? ⟨b, o + 3, none⟩ = some (.slice I mi ci) ∧ w.cell? ⟨b, o + 4, none⟩ = some (.slice K mk ck) ∧ Bytes8 w S I mi ∧ Strs w S K mk
def Nodes (w : World) (S : Nat → Prop) (A : Option Addr) (n : Nat) : Prop := ∀ i, i < n → ∃ b o, A = some ⟨b, o, none⟩ ∧ S b ∧ NodeAt w S b (o + i * 5)
theorem Bytes8.keep {w w' : World} {S : Nat → Prop} {A : Option Addr} {m : Nat} (h : Bytes8 w S A m) (hk : Keeps S w w') : Bytes8 w' S A m := fun j hj => by
 obtain ⟨b, o, d, e, hs, h0, h1, hc⟩ := h j hj
 exact ⟨b, o, d, e, hs, h0, h1, (hk.cell hs _).trans hc⟩
theorem Strs.keep {w w' : World} {S : Nat → Prop} {A : Option Addr} {m : Nat} (h : Strs w S A m) (hk : Keeps S w w') : Strs w' S A m := fun j hj => by
 obtain ⟨b, o, d, e, hs, hc⟩ := h j hj
 exact ⟨b, o, d, e, hs, (hk.cell hs _).trans hc⟩
theorem Nodes.keep {w w' : World} {S : Nat → Prop} {A : Option Addr} {n : Nat} (h : Nodes w S A n) (hk : Keeps S w w') : Nodes w' S A n := fun i hi => by
 obtain ⟨b, o, e, hs, k, m, s, I, mi, ci, K, mk, ck, h0, h1, h2, h3, c0, c1, c2, c3, c4, hI, hK⟩ := h i hi
 exact ⟨b, o, e, hs, k, m, s, I, mi, ci, K, mk, ck, h0, h1, h2, h3, (hk.cell hs _).trans c0, (hk.cell hs _).trans c1, (hk.cell hs _).trans c2, (hk.cell hs _).trans c3, (hk.cell hs _).trans c4, hI.keep hk, hK.keep hk⟩
theorem made_get {m j : Nat} (hj : j < m) {i : Nat} (hi : i < 6) : (madeCells #[.int .i64 0, .bool false, .int .i64 0, .string ⟨#[]⟩, .slice none 0 0, .slice none 0 0] (m * 6))[j * 6 + i]? = (#[.int .i64 0, .bool false, .int .i64 0, .string ⟨#[]⟩, .slice none 0 0, .slice none 0 0] : Array Value)[i]? := by
 unfold madeCells
 rw [Array.getElem?_map, Array.getElem?_range, if_pos (by omega), Option.map_some]
 have e : (j * 6 + i) % (#[.int .i64 0, .bool false, .int .i64 0, .string ⟨#[]⟩, .slice none 0 0, .slice none 0 0] : Array Value).size = i := by
  show (j * 6 + i) % 6 = i
  omega
 rw [e]
 have hi' : i < (#[.int .i64 0, .bool false, .int .i64 0, .string ⟨#[]⟩, .slice none 0 0, .slice none 0 0] : Array Value).size := hi
 rw [getElem!_pos _ i hi', Array.getElem?_eq_getElem hi']
def Alls (lo V m lim : Nat) (w : World) : Prop := ∃ cs, Blk w V 50 cs ∧ cs.size = m * 6 ∧
 ∀ j, j < m → ∃ t B d B' d', Six w V (j * 6) t B d B' d' ∧ t.Nice ∧ TV w (fun b => lo ≤ b ∧ b < lim) t B d B' d'
theorem Alls.new (w : World) (lo m : Nat) : Alls lo w.heap.size m lo (w.alloc (.cells (madeCells #[.int .i64 0, .bool false, .int .i64 0, .string ⟨#[]⟩, .slice none 0 0, .slice none 0 0] (m * 6)) 50)) := by
 have hb := Blk.new w 50 (madeCells #[.int .i64 0, .bool false, .int .i64 0, .string ⟨#[]⟩, .slice none 0 0, .slice none 0 0] (m * 6))
 refine ⟨_, hb, size_madeCells _ _, fun j hj => ⟨T.zero, none, 0, none, 0, ?_, nice_zero, TV.leaf _ _ rfl rfl⟩⟩
 have h : ∀ i, i < 6 → (w.alloc (.cells (madeCells #[.int .i64 0, .bool false, .int .i64 0, .string ⟨#[]⟩, .slice none 0 0, .slice none 0 0] (m * 6)) 50)).cell? ⟨w.heap.size, j * 6 + i, none⟩ = (#[.int .i64 0, .bool false, .int .i64 0, .string ⟨#[]⟩, .slice none 0 0, .slice none 0 0] : Array Value)[i]? := fun i hi => by rw [hb.cell, made_get hj hi]
 exact ⟨h 0 (by omega), h 1 (by omega), h 2 (by omega), h 3 (by omega), h 4 (by omega), h 5 (by omega)⟩
theorem Alls.keep {lo V m lim : Nat} {w w' : World} (h : Alls lo V m lim w) (hk : ∀ b, b = V ∨ lo ≤ b ∧ b < lim → w'.heap[b]? = w.heap[b]?) : Alls lo V m lim w' := by
 obtain ⟨cs, hb, hz, hi⟩ := h
 refine ⟨cs, (hk V (.inl rfl)).trans hb, hz, fun j hj => ?_⟩
 obtain ⟨t, B, d, B', d', h6, hn, ht⟩ := hi j hj
 exact ⟨t, B, d, B', d', h6.on_blk (hk V (.inl rfl)), hn, ht.keep fun b hb => hk b (.inr hb)⟩
theorem Alls.onto {lo V m lim : Nat} {w w' : World} (h : Alls lo V m lim w) {N : Nat} (hb : Below N w w') (hV : V < N) (hl : lim ≤ N) : Alls lo V m lim w' :=
 h.keep fun b hb' => hb.block b (by omega)
theorem Alls.far {lo V m lim : Nat} {w : World} (h : Alls lo V m lim w) {p : Addr} (hV : V < lim) (hp : lim ≤ p.block) (u : Value) : Alls lo V m lim (w.setCell p u) :=
 h.keep fun b hb => Below.heap_setCell _ _ _ _ (by omega)
theorem Alls.wide {lo V m lim lim' : Nat} {w : World} (h : Alls lo V m lim w) (hl : lim ≤ lim') : Alls lo V m lim' w := by
 obtain ⟨cs, hb, hz, hi⟩ := h
 refine ⟨cs, hb, hz, fun j hj => ?_⟩
 obtain ⟨t, B, d, B', d', h6, hn, ht⟩ := hi j hj
 exact ⟨t, B, d, B', d', h6, hn, ht.wide fun b hb => ⟨hb.1, by omega⟩⟩
theorem Alls.at_ {lo V m lim : Nat} {w : World} (h : Alls lo V m lim w) {j : Nat} (hj : j < m) : ∃ t B d B' d', Six w V (j * 6) t B d B' d' ∧ t.Nice ∧ TV w (fun b => lo ≤ b ∧ b < lim) t B d B' d' := by
 obtain ⟨cs, hb, hz, hi⟩ := h
 exact hi j hj
theorem Alls.blk {lo V m lim : Nat} {w : World} (h : Alls lo V m lim w) : ∃ cs, Blk w V 50 cs ∧ cs.size = m * 6 := by
 obtain ⟨cs, hb, hz, hi⟩ := h
 exact ⟨cs, hb, hz⟩
theorem Alls.put {lo V m lim : Nat} {w : World} (h : Alls lo V m lim w) (hV : V < lo) {k : Nat} (hk : k < m) {t : T} (hn : t.Nice) {A : Option Addr} {c : Nat} {A' : Option Addr} {c' : Nat} (ht : TV w (fun b => lo ≤ b ∧ b < lim) t A c A' c') :
 Alls lo V m lim ((((((w.setCell ⟨V, k * 6, none⟩ (.int .i64 t.kind)).setCell ⟨V, k * 6 + 1, none⟩ (.bool t.tr)).setCell ⟨V, k * 6 + 2, none⟩ (.int .i64 t.num)).setCell ⟨V, k * 6 + 3, none⟩ (.string t.str)).setCell ⟨V, k * 6 + 4, none⟩ (.slice A t.items.length c)).setCell ⟨V, k * 6 + 5, none⟩ (.slice A' t.keys.length c')) := by
 obtain ⟨cs, hb, hz, hi⟩ := h
 obtain ⟨cs', hb', hz', h6', hfar⟩ := six_put hb (o := k * 6) (by omega) t A c A' c'
 have hkeep : ∀ b, b ≠ V → (((((((w.setCell ⟨V, k * 6, none⟩ (.int .i64 t.kind)).setCell ⟨V, k * 6 + 1, none⟩ (.bool t.tr)).setCell ⟨V, k * 6 + 2, none⟩ (.int .i64 t.num)).setCell ⟨V, k * 6 + 3, none⟩ (.string t.str)).setCell ⟨V, k * 6 + 4, none⟩ (.slice A t.items.length c)).setCell ⟨V, k * 6 + 5, none⟩ (.slice A' t.keys.length c'))).heap[b]? = w.heap[b]? := by
  intro b hne
  rw [Below.heap_setCell _ _ _ _ hne, Below.heap_setCell _ _ _ _ hne, Below.heap_setCell _ _ _ _ hne, Below.heap_setCell _ _ _ _ hne, Below.heap_setCell _ _ _ _ hne, Below.heap_setCell _ _ _ _ hne]
 generalize ((((((w.setCell ⟨V, k * 6, none⟩ (.int .i64 t.kind)).setCell ⟨V, k * 6 + 1, none⟩ (.bool t.tr)).setCell ⟨V, k * 6 + 2, none⟩ (.int .i64 t.num)).setCell ⟨V, k * 6 + 3, none⟩ (.string t.str)).setCell ⟨V, k * 6 + 4, none⟩ (.slice A t.items.length c)).setCell ⟨V, k * 6 + 5, none⟩ (.slice A' t.keys.length c')) = W at *
 refine ⟨cs', hb', by omega, fun j hj => ?_⟩
 by_cases hjk : j = k
 ·
  subst hjk
  exact ⟨t, A, c, A', c', h6', hn, ht.keep fun b hb => hkeep b (by omega)⟩
 ·
  obtain ⟨u, B, d, B', d', k6, kn, kt⟩ := hi j hj
  refine ⟨u, B, d, B', d', ?_, kn, kt.keep fun b hb => hkeep b (by omega)⟩
  have hc : ∀ i, i < 6 → W.cell? ⟨V, j * 6 + i, none⟩ = w.cell? ⟨V, j * 6 + i, none⟩ := fun i hi => by
   rw [hb'.cell, hb.cell]; exact hfar _ (by omega)
  obtain ⟨e0, e1, e2, e3, e4, e5⟩ := k6
  exact ⟨(hc 0 (by omega)).trans e0, (hc 1 (by omega)).trans e1, (hc 2 (by omega)).trans e2, (hc 3 (by omega)).trans e3, (hc 4 (by omega)).trans e4, (hc 5 (by omega)).trans e5⟩
def InBox (lo G : Nat) (w : World) : Prop := ∃ t A c A' c', Blk w G 50 (T.cs t A c A' c') ∧ t.Nice ∧ TV w (fun b => lo ≤ b ∧ b < w.heap.size ∧ b ≠ G) t A c A' c'
def Switched (w : World) (M lim : Nat) (wx : World) : Prop := InBox (w.heap.size + 2) (lim + 1) wx ∧ Alls (w.heap.size + 2) (w.heap.size + 1) M lim wx ∧ Blk wx w.heap.size 50 #[.int .i64 0, .bool false, .int .i64 0, .string ⟨#[]⟩, .slice none 0 0, .slice none 0 0] ∧ Below w.heap.size w wx ∧ lim + 2 ≤ wx.heap.size
theorem InBox.onto {lo G : Nat} {w w' : World} (h : InBox lo G w) (hb : Below w.heap.size w w') : InBox lo G w' := by
 obtain ⟨t, A, c, A', c', h1, h2, h3⟩ := h
 exact ⟨t, A, c, A', c', h1.onto hb, h2, (h3.keep fun b hb' => hb.block b hb'.2.1).wide fun b hb' => ⟨hb'.1, Nat.lt_of_lt_of_le hb'.2.1 hb.size, hb'.2.2⟩⟩
theorem Switched.onto {w : World} {M lim : Nat} {wx wy : World} (h : Switched w M lim wx) (hb : Below wx.heap.size wx wy) (hV : w.heap.size + 1 < wx.heap.size) : Switched w M lim wy := by
 obtain ⟨h1, h2, h3, h4, h5⟩ := h
 exact ⟨h1.onto hb, h2.onto hb hV (by omega), h3.onto hb, h4.trans (hb.mono h4.size), Nat.le_trans h5 hb.size⟩
def Appended (w : World) (lim : Nat) (l : List T) (x : T) (wc wy : World) : Prop := ∃ (A3 : Option Addr) (d3 : Nat) (xs3 : List Value), Coll 50 wy (lim + 2) (fun b => b < w.heap.size + 2 ∨ b = lim + 1) (l ++ [x]) (.slice A3 (l ++ [x]).length d3) xs3 ∧
 Blk wy (lim + 1) 50 #[.int .i64 4, .bool false, .int .i64 0, .string ⟨#[]⟩, .slice A3 (l ++ [x]).length d3, .slice none 0 0] ∧ (∀ b, b < lim + 1 → wy.heap[b]? = wc.heap[b]?) ∧ Below w.heap.size w wy ∧ lim + 2 ≤ wy.heap.size
theorem Appended.of {w wc w3 : World} {lim : Nat} {l : List T} {x : T} {A2 A3 : Option Addr} {d2 d3 : Nat} {xs3 : List Value}
 (hc : Coll 50 w3 (lim + 2) (fun b => b < w.heap.size + 2 ∨ b = lim + 1) (l ++ [x]) (.slice A3 (l.length + 1) d3) xs3)
 (hb : Blk w3 (lim + 1) 50 #[.int .i64 4, .bool false, .int .i64 0, .string ⟨#[]⟩, .slice A2 l.length d2, .slice none 0 0])
 (hk : ∀ b, b < lim + 2 → w3.heap[b]? = wc.heap[b]?) (hw : Below w.heap.size w w3) (hz : lim + 2 ≤ w3.heap.size) (hl : w.heap.size ≤ lim + 1) :
 Appended w lim l x wc (w3.setCell ⟨lim + 1, 4, none⟩ (.slice A3 (l.length + 1) d3)) := by
 have e : (l ++ [x]).length = l.length + 1 := by simp
 unfold Appended
 rw [e]
 exact ⟨A3, d3, xs3, hc.set (.inr rfl) _, hb.set_ 4 _, fun b hb => (Below.heap_setCell _ _ _ _ (by show b ≠ lim + 1; omega)).trans (hk b (by omega)), hw.setCell hl _, by simp [World.setCell]; omega⟩
def PutDone (w : World) (lim : Nat) (wc wy : World) : Prop := ∃ (l : List T) (ks : List ByteArray) (A2 : Option Addr) (d2 : Nat) (K2 : Option Addr) (e2 : Nat), TV wy (fun b => w.heap.size + 2 ≤ b ∧ b < wy.heap.size ∧ b ≠ lim + 1) (T.ofObj l ks) A2 d2 K2 e2 ∧ (T.ofObj l ks).Nice ∧
 Blk wy (lim + 1) 50 #[.int .i64 5, .bool false, .int .i64 0, .string ⟨#[]⟩, .slice A2 l.length d2, .slice K2 ks.length e2] ∧ (∀ b, b < lim + 1 → wy.heap[b]? = wc.heap[b]?) ∧ Below w.heap.size w wy ∧ lim + 2 ≤ wy.heap.size
theorem PutDone.of {w wc w3 : World} {lim : Nat} {l : List T} {ks : List ByteArray} {A2 : Option Addr} {d2 : Nat} {K2 : Option Addr} {e2 : Nat} {cs : Array Value}
 (hv : TV w3 (fun b => (w.heap.size + 2 ≤ b ∧ b < wc.heap.size ∧ b ≠ lim + 1) ∨ wc.heap.size ≤ b ∧ b < w3.heap.size) (T.ofObj l ks) A2 d2 K2 e2) (hn : (T.ofObj l ks).Nice) (hb : Blk w3 (lim + 1) 50 cs) (hcs : cs.size = 6)
 (hk : Below wc.heap.size wc w3) (hw : Below w.heap.size w w3) (hz : lim + 2 ≤ wc.heap.size) (hl : w.heap.size + 2 ≤ lim) :
 PutDone w lim wc ((((((w3.setCell ⟨lim + 1, 0, none⟩ (.int .i64 5)).setCell ⟨lim + 1, 1, none⟩ (.bool false)).setCell ⟨lim + 1, 2, none⟩ (.int .i64 0)).setCell ⟨lim + 1, 3, none⟩ (.string ⟨#[]⟩)).setCell ⟨lim + 1, 4, none⟩ (.slice A2 l.length d2)).setCell ⟨lim + 1, 5, none⟩ (.slice K2 ks.length e2)) := by
 have hF := res_put hb hcs (T.ofObj l ks) A2 d2 K2 e2
 change Blk ((((((w3.setCell ⟨lim + 1, 0, none⟩ (.int .i64 5)).setCell ⟨lim + 1, 1, none⟩ (.bool false)).setCell ⟨lim + 1, 2, none⟩ (.int .i64 0)).setCell ⟨lim + 1, 3, none⟩ (.string ⟨#[]⟩)).setCell ⟨lim + 1, 4, none⟩ (.slice A2 l.length d2)).setCell ⟨lim + 1, 5, none⟩ (.slice K2 ks.length e2)) _ _ _ at hF
 have hK : ∀ b, b ≠ lim + 1 → (((((((w3.setCell ⟨lim + 1, 0, none⟩ (.int .i64 5)).setCell ⟨lim + 1, 1, none⟩ (.bool false)).setCell ⟨lim + 1, 2, none⟩ (.int .i64 0)).setCell ⟨lim + 1, 3, none⟩ (.string ⟨#[]⟩)).setCell ⟨lim + 1, 4, none⟩ (.slice A2 l.length d2)).setCell ⟨lim + 1, 5, none⟩ (.slice K2 ks.length e2))).heap[b]? = w3.heap[b]? := by
  intro b hb
  rw [Below.heap_setCell _ _ _ _ hb, Below.heap_setCell _ _ _ _ hb, Below.heap_setCell _ _ _ _ hb, Below.heap_setCell _ _ _ _ hb, Below.heap_setCell _ _ _ _ hb, Below.heap_setCell _ _ _ _ hb]
 have hZ : (((((((w3.setCell ⟨lim + 1, 0, none⟩ (.int .i64 5)).setCell ⟨lim + 1, 1, none⟩ (.bool false)).setCell ⟨lim + 1, 2, none⟩ (.int .i64 0)).setCell ⟨lim + 1, 3, none⟩ (.string ⟨#[]⟩)).setCell ⟨lim + 1, 4, none⟩ (.slice A2 l.length d2)).setCell ⟨lim + 1, 5, none⟩ (.slice K2 ks.length e2))).heap.size = w3.heap.size := by simp [World.setCell]
 have hl1 : w.heap.size ≤ lim + 1 := by omega
 have hE : Below w.heap.size w ((((((w3.setCell ⟨lim + 1, 0, none⟩ (.int .i64 5)).setCell ⟨lim + 1, 1, none⟩ (.bool false)).setCell ⟨lim + 1, 2, none⟩ (.int .i64 0)).setCell ⟨lim + 1, 3, none⟩ (.string ⟨#[]⟩)).setCell ⟨lim + 1, 4, none⟩ (.slice A2 l.length d2)).setCell ⟨lim + 1, 5, none⟩ (.slice K2 ks.length e2)) := (((((hw.setCell hl1 _).setCell hl1 _).setCell hl1 _).setCell hl1 _).setCell hl1 _).setCell hl1 _
 generalize ((((((w3.setCell ⟨lim + 1, 0, none⟩ (.int .i64 5)).setCell ⟨lim + 1, 1, none⟩ (.bool false)).setCell ⟨lim + 1, 2, none⟩ (.int .i64 0)).setCell ⟨lim + 1, 3, none⟩ (.string ⟨#[]⟩)).setCell ⟨lim + 1, 4, none⟩ (.slice A2 l.length d2)).setCell ⟨lim + 1, 5, none⟩ (.slice K2 ks.length e2)) = W at *
 have hs := hk.size
 refine ⟨l, ks, A2, d2, K2, e2, (hv.keep fun b hb' => hK b (by omega)).wide fun b hb' => by omega, hn, hF, fun b hb' => (hK b (by omega)).trans (hk.block b (by omega)), hE, by omega⟩
open Go.RowKit
theorem bytes_eq {a b : ByteArray} (h : a.toList = b.toList) : a = b := by
 rcases sl_tri a b with h1 | h1 | h1
 · unfold sl at h1; rw [h] at h1; have := sl_irrefl b; unfold sl at this; rw [this] at h1; cases h1
 · exact h1
 · unfold sl at h1; rw [h] at h1; have := sl_irrefl b; unfold sl at this; rw [this] at h1; cases h1
theorem rfind_any (t : T) (A : Option Addr) (c : Nat) (A' : Option Addr) (c' : Nat) (q : ByteArray) (p : Nat) (w : World) (hl : t.keys.length ≤ 100000) (hr : SReads w (· < w.heap.size) A' t.keys) (hp : p ≤ t.keys.length) (hb : ∀ (i : Nat) (x : ByteArray), i < p → t.keys[i]? = some x → x ≠ q) (he : p < t.keys.length → t.keys[p]? = some q) (r : Int) (h1 : p < t.keys.length → r = p) (h2 : p = t.keys.length → r = -1) :
 Calls Tryz.prog 65 #[t.agg A c A' c', .string q] w fun e w' => e = .returned (.int .i64 r) ∧ Below w.heap.size w w' := by
 have HR := hid hr
 have HB := hid hb
 have HE := hid he
 clear hr hb he
 unfold T.agg
 go_enter Tryz.func65, Tryz.ntmps65
 go_wp2_with fail
 have hW : Below w.heap.size w (w.alloc (.cells (t.cs A c A' c') 50)) := (Below.refl _ _).alloc (Nat.le_refl _) _
 have hb0 : Blk (w.alloc (.cells (t.cs A c A' c') 50)) w.heap.size 50 (t.cs A c A' c') := Blk.new w _ _
 go_loopw [9] (fun i wr => ∃ k : Nat, k ≤ p ∧ i = .int .i64 k ∧ Blk wr w.heap.size 50 (t.cs A c A' c') ∧ Below w.heap.size w wr) (fun i _ => t.keys.length - (intOf i).toNat)
 case atStart => exact ⟨0, Nat.zero_le _, rfl, hb0, hW⟩
 case round =>
  clear hb0 hW
  obtain ⟨k, hk, rfl, hb0, hbel⟩ := hrel
  have HB0 := hid hb0
  have Hbel := hid hbel
  have a5 : wr.cell? ⟨w.heap.size, 5, none⟩ = some (.slice A' t.keys.length c') := hb0.cell 5
  clear hb0 hbel
  by_cases hlt : k < t.keys.length
  ·
   have u1 : decide (k < t.keys.length) = true := decide_eq_true hlt
   obtain ⟨b, o, s, rfl, hb, hx, hc⟩ := HR.out.at_ hlt
   have e0 := ((Keeps.of_below Hbel.out).cell hb (o + k)).trans hc
   have i1 : (k : Int) < t.keys.length := by omega
   have i2 : (0 : Int) ≤ k := by omega
   by_cases hkp : k < p
   ·
    have hne := HB.out k s hkp hx
    have hd : (s.toList == q.toList) = false := by
     rw [beq_eq_false_iff_ne]; intro h; exact hne (bytes_eq h)
    clear hc
    go_wp2_with fail
    go_roundw
    case rel => exact ⟨k + 1, hkp, by go_num, HB0.out, Hbel.out⟩
    case measure => simp [intOf]; omega
   ·
    obtain rfl : k = p := by omega
    obtain rfl : s = q := by have := HE.out hlt; rw [hx] at this; injection this
    obtain rfl := h1 hlt
    clear hc h1 h2
    go_wp2_with fail
    go_ret
    exact ⟨rfl, Hbel.out⟩
  ·
   obtain rfl : t.keys.length = k := by omega
   obtain rfl : p = t.keys.length := by omega
   obtain rfl := h2 rfl
   clear h1 h2
   go_wp2_with fail
   go_ret
   exact ⟨rfl, Hbel.out⟩
open Go.RowKit Go.ChangeShapes Go.WideShapes Go.Deep
theorem Bytes8.wide {w : World} {S S' : Nat → Prop} {A : Option Addr} {m : Nat} (h : Bytes8 w S A m) (hs : ∀ b, S b → S' b) : Bytes8 w S' A m := fun j hj => by
 obtain ⟨b, o, d, e, h0, r⟩ := h j hj
 exact ⟨b, o, d, e, hs b h0, r⟩
theorem Strs.wide {w : World} {S S' : Nat → Prop} {A : Option Addr} {m : Nat} (h : Strs w S A m) (hs : ∀ b, S b → S' b) : Strs w S' A m := fun j hj => by
 obtain ⟨b, o, d, e, h0, r⟩ := h j hj
 exact ⟨b, o, d, e, hs b h0, r⟩
theorem Nodes.on {w w' : World} {A : Option Addr} {n : Nat} (h : Nodes w (· < w.heap.size) A n) (hb : Below w.heap.size w w') : Nodes w' (· < w'.heap.size) A n := fun i hi => by
 obtain ⟨b, o, e, hs, k, m, s, I, mi, ci, K, mk, ck, h0, h1, h2, h3, c0, c1, c2, c3, c4, hI, hK⟩ := (h.keep (.of_below hb)) i hi
 have hw : ∀ b, b < w.heap.size → b < w'.heap.size := fun b hb' => Nat.lt_of_lt_of_le hb' hb.size
 exact ⟨b, o, e, hw b hs, k, m, s, I, mi, ci, K, mk, ck, h0, h1, h2, h3, c0, c1, c2, c3, c4, hI.wide hw, hK.wide hw⟩
section
variable {H : Type} {enc : TypeId × Value → H} {P : Program} {w : World} {base : Nat} {spare : Nat → Bool} {held : Bool}
end
section
variable {H : Type} {enc : TypeId × Value → H} {w : World} {spare : Nat → Bool} {held : Bool}
end
open Go.RowKit
open Go.RowKit
set_option maxRecDepth 100000
end Go.Proofs.YtgblenoaeanogaaGreatDoor
