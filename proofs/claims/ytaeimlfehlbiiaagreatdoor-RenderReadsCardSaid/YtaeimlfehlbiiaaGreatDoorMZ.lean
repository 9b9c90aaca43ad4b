/- The law's Tree: contract. -/
import Derived.Test.YtaeimlfehlbiiaaGreatDoorMM
import Derived.Test.YtaeimlfehlbiiaaGreatDoorNJ
import Derived.Outline
import Derived.Deep.DeepCutAuto
import Derived.Deep.RegionLaw
import Derived.Deep.CutBlock
import Derived.Deep.LoopGhost
namespace Go.Proofs.YtaeimlfehlbiiaaGreatDoor
open Go.RowKit
set_option linter.unusedVariables false
def Bytes8 (w : World) (S : Nat → Prop) (A : Option Addr) (m : Nat) : Prop := ∀ j, j < m → ∃ (b o : Nat) (d : Int), A = some ⟨b, o, none⟩ ∧ S b ∧ 0 ≤ d ∧ d < 256 ∧ w.cell? ⟨b, o + j, none⟩ = some (.int .u8 d)
def Strs (w : World) (S : Nat → Prop) (A : Option Addr) (m : Nat) : Prop := ∀ j, j < m → ∃ (b o : Nat) (s : ByteArray), A = some ⟨b, o, none⟩ ∧ S b ∧ w.cell? ⟨b, o + j, none⟩ = some (.string s)
def NodeAt (w : World) (S : Nat → Prop) (b o : Nat) : Prop := ∃ (k n : Int) (s : ByteArray) (I : Option Addr) (mi ci : Nat) (K : Option Addr) (mk ck : Nat),
 0 ≤ k ∧ k < 256 ∧ -9223372036854775808 ≤ n ∧ n ≤ 9223372036854775807 ∧ w.cell? ⟨b, o, none⟩ = some (.int .u8 k) ∧ w.cell? ⟨b, o + 1, none⟩ = some (.int .i64 n) ∧ w.cell? ⟨b, o + 2, none⟩ = some (.string s) ∧
 w.cell? ⟨b, o + 3, none⟩ = some (.slice I mi ci) ∧ w.cell? ⟨b, o + 4, none⟩ = some (.slice K mk ck) ∧ Bytes8 w S I mi ∧ Strs w S K mk
def Nodes (w : World) (S : Nat → Prop) (A : Option Addr) (n : Nat) : Prop := ∀ i, i < n → ∃ b o, A = some ⟨b, o, none⟩ ∧ S b ∧ NodeAt w S b (o + i * 5)
theorem Bytes8.keep {w w' : World} {S : Nat → Prop} {A : Option Addr} {m : Nat} (h : Bytes8 w S A m) (hk : Keeps S w w') : Bytes8 w' S A m := fun j hj => by
 obtain ⟨b, o, d, e, hs, h0, h1, hc⟩ := h j hj
 exact ⟨b, o, d, e, hs, h0, h1, (hk.cell hs _).trans hc⟩
theorem Strs.keep {w w' : World} {S : Nat → Prop} {A : Option Addr} {m : Nat} (h : Strs w S A m) (hk : Keeps S w w') : Strs w' S A m := fun j hj => by
 obtain ⟨b, o, d, e, hs, hc⟩ := h j hj
 exact ⟨b, o, d, e, hs, (hk.cell hs _).trans hc⟩
theorem Nodes.keep {w w' : World} {S : Nat → Prop} {A : Option Addr} {n : Nat} (h : Nodes w S A n) (hk : Keeps S w w') : Nodes w' S A n := fun i hi => by
 obtain ⟨b, o, e, hs, k, m, s, I, mi, ci, K, mk, ck, h0, h1, h2, h3, c0, c1, c2, c3, c4, hI, hK⟩ := h i hi
 exact ⟨b, o, e, hs, k, m, s, I, mi, ci, K, mk, ck, h0, h1, h2, h3, (hk.cell hs _).trans c0, (hk.cell hs _).trans c1, (hk.cell hs _).trans c2, (hk.cell hs _).trans c3, (hk.cell hs _).trans c4, hI.keep hk, hK.keep hk⟩
def TreePost (w : World) (e : Ending) (w' : World) : Prop := ∃ (t : T) (B : Option Addr) (d : Nat) (B' : Option Addr) (d' : Nat), e = .returned (t.agg B d B' d') ∧ t.Nice ∧ TV w' (· < w'.heap.size) t B d B' d' ∧ Below w.heap.size w w'
set_option maxRecDepth 100000 in
set_option maxHeartbeats 4000000 in
theorem tree_none (A : Option Addr) (c : Nat) (w : World) : Calls Tryz.prog 7 #[.slice A 0 c] w (TreePost w) := by
 go_enter Tryz.func7, Tryz.ntmps7
 go_wp2_with fail
 refine bodyPost_ret (v := .agg #[.int .i64 0, .bool false, .int .i64 0, .string ⟨#[]⟩, .slice none 0 0, .slice none 0 0]) (by simp [results, Tryz.results7, go_sem]) rfl ⟨T.zero, none, 0, none, 0, rfl, nice_zero, TV.leaf _ _ rfl rfl, ?_⟩
 exact (Below.refl _ _).alloc (Nat.le_refl _) _
theorem made_get {m j : Nat} (hj : j < m) {i : Nat} (hi : i < 6) : (madeCells #[.int .i64 0, .bool false, .int .i64 0, .string ⟨#[]⟩, .slice none 0 0, .slice none 0 0] (m * 6))[j * 6 + i]? = (#[.int .i64 0, .bool false, .int .i64 0, .string ⟨#[]⟩, .slice none 0 0, .slice none 0 0] : Array Value)[i]? := by
 unfold madeCells
 rw [Array.getElem?_map, Array.getElem?_range, if_pos (by omega), Option.map_some]
 have e : (j * 6 + i) % (#[.int .i64 0, .bool false, .int .i64 0, .string ⟨#[]⟩, .slice none 0 0, .slice none 0 0] : Array Value).size = i := by
  show (j * 6 + i) % 6 = i
  omega
 rw [e]
 have hi' : i < (#[.int .i64 0, .bool false, .int .i64 0, .string ⟨#[]⟩, .slice none 0 0, .slice none 0 0] : Array Value).size := hi
 rw [getElem!_pos _ i hi', Array.getElem?_eq_getElem hi']
def Alls (lo V m lim : Nat) (w : World) : Prop := ∃ cs, Blk w V 27 cs ∧ cs.size = m * 6 ∧
 ∀ j, j < m → ∃ t B d B' d', Six w V (j * 6) t B d B' d' ∧ t.Nice ∧ TV w (fun b => lo ≤ b ∧ b < lim) t B d B' d'
theorem Alls.new (w : World) (lo m : Nat) : Alls lo w.heap.size m lo (w.alloc (.cells (madeCells #[.int .i64 0, .bool false, .int .i64 0, .string ⟨#[]⟩, .slice none 0 0, .slice none 0 0] (m * 6)) 27)) := by
 have hb := Blk.new w 27 (madeCells #[.int .i64 0, .bool false, .int .i64 0, .string ⟨#[]⟩, .slice none 0 0, .slice none 0 0] (m * 6))
 refine ⟨_, hb, size_madeCells _ _, fun j hj => ⟨T.zero, none, 0, none, 0, ?_, nice_zero, TV.leaf _ _ rfl rfl⟩⟩
 have h : ∀ i, i < 6 → (w.alloc (.cells (madeCells #[.int .i64 0, .bool false, .int .i64 0, .string ⟨#[]⟩, .slice none 0 0, .slice none 0 0] (m * 6)) 27)).cell? ⟨w.heap.size, j * 6 + i, none⟩ = (#[.int .i64 0, .bool false, .int .i64 0, .string ⟨#[]⟩, .slice none 0 0, .slice none 0 0] : Array Value)[i]? := fun i hi => by rw [hb.cell, made_get hj hi]
 exact ⟨h 0 (by omega), h 1 (by omega), h 2 (by omega), h 3 (by omega), h 4 (by omega), h 5 (by omega)⟩
theorem Alls.keep {lo V m lim : Nat} {w w' : World} (h : Alls lo V m lim w) (hk : ∀ b, b = V ∨ lo ≤ b ∧ b < lim → w'.heap[b]? = w.heap[b]?) : Alls lo V m lim w' := by
 obtain ⟨cs, hb, hz, hi⟩ := h
 refine ⟨cs, (hk V (.inl rfl)).trans hb, hz, fun j hj => ?_⟩
 obtain ⟨t, B, d, B', d', h6, hn, ht⟩ := hi j hj
 exact ⟨t, B, d, B', d', h6.on_blk (hk V (.inl rfl)), hn, ht.keep fun b hb => hk b (.inr hb)⟩
theorem Alls.onto {lo V m lim : Nat} {w w' : World} (h : Alls lo V m lim w) {N : Nat} (hb : Below N w w') (hV : V < N) (hl : lim ≤ N) : Alls lo V m lim w' :=
 h.keep fun b hb' => hb.block b (by omega)
theorem Alls.far {lo V m lim : Nat} {w : World} (h : Alls lo V m lim w) {p : Addr} (hV : V < lim) (hp : lim ≤ p.block) (u : Value) : Alls lo V m lim (w.setCell p u) :=
 h.keep fun b hb => Below.heap_setCell _ _ _ _ (by omega)
theorem Alls.wide {lo V m lim lim' : Nat} {w : World} (h : Alls lo V m lim w) (hl : lim ≤ lim') : Alls lo V m lim' w := by
 obtain ⟨cs, hb, hz, hi⟩ := h
 refine ⟨cs, hb, hz, fun j hj => ?_⟩
 obtain ⟨t, B, d, B', d', h6, hn, ht⟩ := hi j hj
 exact ⟨t, B, d, B', d', h6, hn, ht.wide fun b hb => ⟨hb.1, by omega⟩⟩
theorem Alls.at_ {lo V m lim : Nat} {w : World} (h : Alls lo V m lim w) {j : Nat} (hj : j < m) : ∃ t B d B' d', Six w V (j * 6) t B d B' d' ∧ t.Nice ∧ TV w (fun b => lo ≤ b ∧ b < lim) t B d B' d' := by
 obtain ⟨cs, hb, hz, hi⟩ := h
 exact hi j hj
theorem Alls.blk {lo V m lim : Nat} {w : World} (h : Alls lo V m lim w) : ∃ cs, Blk w V 27 cs ∧ cs.size = m * 6 := by
 obtain ⟨cs, hb, hz, hi⟩ := h
 exact ⟨cs, hb, hz⟩
theorem Alls.put {lo V m lim : Nat} {w : World} (h : Alls lo V m lim w) (hV : V < lo) {k : Nat} (hk : k < m) {t : T} (hn : t.Nice) {A : Option Addr} {c : Nat} {A' : Option Addr} {c' : Nat} (ht : TV w (fun b => lo ≤ b ∧ b < lim) t A c A' c') :
 Alls lo V m lim ((((((w.setCell ⟨V, k * 6, none⟩ (.int .i64 t.kind)).setCell ⟨V, k * 6 + 1, none⟩ (.bool t.tr)).setCell ⟨V, k * 6 + 2, none⟩ (.int .i64 t.num)).setCell ⟨V, k * 6 + 3, none⟩ (.string t.str)).setCell ⟨V, k * 6 + 4, none⟩ (.slice A t.items.length c)).setCell ⟨V, k * 6 + 5, none⟩ (.slice A' t.keys.length c')) := by
 obtain ⟨cs, hb, hz, hi⟩ := h
 obtain ⟨cs', hb', hz', h6', hfar⟩ := six_put hb (o := k * 6) (by omega) t A c A' c'
 have hkeep : ∀ b, b ≠ V → (((((((w.setCell ⟨V, k * 6, none⟩ (.int .i64 t.kind)).setCell ⟨V, k * 6 + 1, none⟩ (.bool t.tr)).setCell ⟨V, k * 6 + 2, none⟩ (.int .i64 t.num)).setCell ⟨V, k * 6 + 3, none⟩ (.string t.str)).setCell ⟨V, k * 6 + 4, none⟩ (.slice A t.items.length c)).setCell ⟨V, k * 6 + 5, none⟩ (.slice A' t.keys.length c'))).heap[b]? = w.heap[b]? := by
  intro b hne
  rw [Below.heap_setCell _ _ _ _ hne, Below.heap_setCell _ _ _ _ hne, Below.heap_setCell _ _ _ _ hne, Below.heap_setCell _ _ _ _ hne, Below.heap_setCell _ _ _ _ hne, Below.heap_setCell _ _ _ _ hne]
 generalize ((((((w.setCell ⟨V, k * 6, none⟩ (.int .i64 t.kind)).setCell ⟨V, k * 6 + 1, none⟩ (.bool t.tr)).setCell ⟨V, k * 6 + 2, none⟩ (.int .i64 t.num)).setCell ⟨V, k * 6 + 3, none⟩ (.string t.str)).setCell ⟨V, k * 6 + 4, none⟩ (.slice A t.items.length c)).setCell ⟨V, k * 6 + 5, none⟩ (.slice A' t.keys.length c')) = W at *
 refine ⟨cs', hb', by omega, fun j hj => ?_⟩
 by_cases hjk : j = k
 ·
  subst hjk
  exact ⟨t, A, c, A', c', h6', hn, ht.keep fun b hb => hkeep b (by omega)⟩
 ·
  obtain ⟨u, B, d, B', d', k6, kn, kt⟩ := hi j hj
  refine ⟨u, B, d, B', d', ?_, kn, kt.keep fun b hb => hkeep b (by omega)⟩
  have hc : ∀ i, i < 6 → W.cell? ⟨V, j * 6 + i, none⟩ = w.cell? ⟨V, j * 6 + i, none⟩ := fun i hi => by
   rw [hb'.cell, hb.cell]; exact hfar _ (by omega)
  obtain ⟨e0, e1, e2, e3, e4, e5⟩ := k6
  exact ⟨(hc 0 (by omega)).trans e0, (hc 1 (by omega)).trans e1, (hc 2 (by omega)).trans e2, (hc 3 (by omega)).trans e3, (hc 4 (by omega)).trans e4, (hc 5 (by omega)).trans e5⟩
def InBox (lo G : Nat) (w : World) : Prop := ∃ t A c A' c', Blk w G 27 (T.cs t A c A' c') ∧ t.Nice ∧ TV w (fun b => lo ≤ b ∧ b < w.heap.size ∧ b ≠ G) t A c A' c'
def Switched (w : World) (M lim : Nat) (wx : World) : Prop := InBox (w.heap.size + 2) (lim + 1) wx ∧ Alls (w.heap.size + 2) (w.heap.size + 1) M lim wx ∧ Blk wx w.heap.size 27 #[.int .i64 0, .bool false, .int .i64 0, .string ⟨#[]⟩, .slice none 0 0, .slice none 0 0] ∧ Below w.heap.size w wx ∧ lim + 2 ≤ wx.heap.size
theorem InBox.onto {lo G : Nat} {w w' : World} (h : InBox lo G w) (hb : Below w.heap.size w w') : InBox lo G w' := by
 obtain ⟨t, A, c, A', c', h1, h2, h3⟩ := h
 exact ⟨t, A, c, A', c', h1.onto hb, h2, (h3.keep fun b hb' => hb.block b hb'.2.1).wide fun b hb' => ⟨hb'.1, Nat.lt_of_lt_of_le hb'.2.1 hb.size, hb'.2.2⟩⟩
theorem Switched.onto {w : World} {M lim : Nat} {wx wy : World} (h : Switched w M lim wx) (hb : Below wx.heap.size wx wy) (hV : w.heap.size + 1 < wx.heap.size) : Switched w M lim wy := by
 obtain ⟨h1, h2, h3, h4, h5⟩ := h
 exact ⟨h1.onto hb, h2.onto hb hV (by omega), h3.onto hb, h4.trans (hb.mono h4.size), Nat.le_trans h5 hb.size⟩
theorem grown_undrew {w : World} {o : Obj} {w' : World} {row : Option Nat} (h : ((w.alloc o).drew).grownBy w' row) : (w.alloc o).grownBy w' row := ⟨h.1, h.2, h.3, h.4, h.5⟩
theorem rsize_cells (t : T) (A : Option Addr) (c : Nat) (A' : Option Addr) (c' : Nat) (w : World) (ht : t.size ≤ 100000) (hv : TV w (· < w.heap.size) t A c A' c') :
 Calls Tryz.prog 22 #[.agg #[.int .i64 t.kind, .bool t.tr, .int .i64 t.num, .string t.str, .slice A t.items.length c, .slice A' t.keys.length c']] w fun e w' => e = .returned (.int .i64 t.size) ∧ Below w.heap.size w w' :=
 rsize_any 100000 t A c A' c' w ht (Nat.le_refl _) hv
theorem rsize_list (l : List T) (A : Option Addr) (c : Nat) (w : World) (ht : (T.ofList l).size ≤ 100000) (hv : TV w (· < w.heap.size) (T.ofList l) A c none 0) :
 Calls Tryz.prog 22 #[.agg #[.int .i64 4, .bool false, .int .i64 0, .string ⟨#[]⟩, .slice A l.length c, .slice none 0 0]] w fun e w' => e = .returned (.int .i64 (T.ofList l).size) ∧ Below w.heap.size w w' :=
 rsize_any 100000 (T.ofList l) A c none 0 w ht (Nat.le_refl _) hv
def Appended (w : World) (lim : Nat) (l : List T) (x : T) (wc wy : World) : Prop := ∃ (A3 : Option Addr) (d3 : Nat) (xs3 : List Value), Coll 27 wy (lim + 2) (fun b => b < w.heap.size + 2 ∨ b = lim + 1) (l ++ [x]) (.slice A3 (l ++ [x]).length d3) xs3 ∧
 Blk wy (lim + 1) 27 #[.int .i64 4, .bool false, .int .i64 0, .string ⟨#[]⟩, .slice A3 (l ++ [x]).length d3, .slice none 0 0] ∧ (∀ b, b < lim + 1 → wy.heap[b]? = wc.heap[b]?) ∧ Below w.heap.size w wy ∧ lim + 2 ≤ wy.heap.size
theorem Appended.of {w wc w3 : World} {lim : Nat} {l : List T} {x : T} {A2 A3 : Option Addr} {d2 d3 : Nat} {xs3 : List Value}
 (hc : Coll 27 w3 (lim + 2) (fun b => b < w.heap.size + 2 ∨ b = lim + 1) (l ++ [x]) (.slice A3 (l.length + 1) d3) xs3)
 (hb : Blk w3 (lim + 1) 27 #[.int .i64 4, .bool false, .int .i64 0, .string ⟨#[]⟩, .slice A2 l.length d2, .slice none 0 0])
 (hk : ∀ b, b < lim + 2 → w3.heap[b]? = wc.heap[b]?) (hw : Below w.heap.size w w3) (hz : lim + 2 ≤ w3.heap.size) (hl : w.heap.size ≤ lim + 1) :
 Appended w lim l x wc (w3.setCell ⟨lim + 1, 4, none⟩ (.slice A3 (l.length + 1) d3)) := by
 have e : (l ++ [x]).length = l.length + 1 := by simp
 unfold Appended
 rw [e]
 exact ⟨A3, d3, xs3, hc.set (.inr rfl) _, hb.set_ 4 _, fun b hb => (Below.heap_setCell _ _ _ _ (by show b ≠ lim + 1; omega)).trans (hk b (by omega)), hw.setCell hl _, by simp [World.setCell]; omega⟩
theorem rsize_obj (l : List T) (ks : List ByteArray) (A : Option Addr) (c : Nat) (A' : Option Addr) (c' : Nat) (w : World) (ht : (T.ofObj l ks).size ≤ 100000) (hv : TV w (· < w.heap.size) (T.ofObj l ks) A c A' c') :
 Calls Tryz.prog 22 #[.agg #[.int .i64 5, .bool false, .int .i64 0, .string ⟨#[]⟩, .slice A l.length c, .slice A' ks.length c']] w fun e w' => e = .returned (.int .i64 (T.ofObj l ks).size) ∧ Below w.heap.size w w' :=
 rsize_any 100000 (T.ofObj l ks) A c A' c' w ht (Nat.le_refl _) hv
def PutObj (S : Nat → Prop) (w : World) (e : Ending) (w' : World) : Prop := ∃ (l : List T) (ks : List ByteArray) (B : Option Addr) (d : Nat) (B' : Option Addr) (d' : Nat) (b : Bool), e = .returned (.tuple #[.agg #[.int .i64 5, .bool false, .int .i64 0, .string ⟨#[]⟩, .slice B l.length d, .slice B' ks.length d'], .bool b]) ∧
 (T.ofObj l ks).Nice ∧ TV w' (fun b => S b ∨ w.heap.size ≤ b ∧ b < w'.heap.size) (T.ofObj l ks) B d B' d' ∧ Below w.heap.size w w'
theorem put_obj (S : Nat → Prop) (l : List T) (ks : List ByteArray) (x : T) (A : Option Addr) (c : Nat) (A' : Option Addr) (c' : Nat) (B : Option Addr) (d : Nat) (B' : Option Addr) (d' : Nat) (q : ByteArray) (w : World)
 (hn : (T.ofObj l ks).Nice) (hx : x.Nice) (hs : (T.ofObj l ks).size + x.size ≤ 40) (hq : okText q) (h60 : q.size ≤ 60) (hS : ∀ b, S b → b < w.heap.size) (hv : TV w S (T.ofObj l ks) A c A' c') (hxv : TV w S x B d B' d') :
 Calls Tryz.prog 23 #[.agg #[.int .i64 5, .bool false, .int .i64 0, .string ⟨#[]⟩, .slice A l.length c, .slice A' ks.length c'], .string q, .agg #[.int .i64 x.kind, .bool x.tr, .int .i64 x.num, .string x.str, .slice B x.items.length d, .slice B' x.keys.length d']] w (PutObj S w) := by
 have hlen : (T.ofObj l ks).items.length = (T.ofObj l ks).keys.length := (hn.good.here.lens rfl).symm
 have hkl : (T.ofObj l ks).keys.length ≤ 100000 := by have := T.len_size (T.ofObj l ks); have := hn.size; omega
 by_cases hh : ks[rank ks q]? = some q
 ·
  refine (put_has (T.ofObj l ks) x A c A' c' B d B' d' q w hkl (hv.wide hS) hh).mono ?_
  rintro e w' ⟨rfl, hb⟩
  exact ⟨l, ks, A, c, A', c', false, rfl, hn, (hv.keep fun b hb' => hb.block b (hS b hb')).wide fun b hb' => .inl hb', hb⟩
 ·
  refine (put_new S (T.ofObj l ks) x A c A' c' B d B' d' q w hkl hlen hS hv hxv hh).mono ?_
  rintro e w' ⟨C, f, C', f', rfl, ht, hb⟩
  exact ⟨l.take (rank ks q) ++ x :: l.drop (rank ks q), insK ks q, C, f, C', f', true, rfl, nice_put hn hx hs hq h60 hh, ht, hb⟩
def KeyCut (wc : World) (s : Value) (wy : World) : Prop := ∃ q, s = .string q ∧ okText q ∧ q.size ≤ 60 ∧ Below wc.heap.size wc wy
def PutDone (w : World) (lim : Nat) (wc wy : World) : Prop := ∃ (l : List T) (ks : List ByteArray) (A2 : Option Addr) (d2 : Nat) (K2 : Option Addr) (e2 : Nat), TV wy (fun b => w.heap.size + 2 ≤ b ∧ b < wy.heap.size ∧ b ≠ lim + 1) (T.ofObj l ks) A2 d2 K2 e2 ∧ (T.ofObj l ks).Nice ∧
 Blk wy (lim + 1) 27 #[.int .i64 5, .bool false, .int .i64 0, .string ⟨#[]⟩, .slice A2 l.length d2, .slice K2 ks.length e2] ∧ (∀ b, b < lim + 1 → wy.heap[b]? = wc.heap[b]?) ∧ Below w.heap.size w wy ∧ lim + 2 ≤ wy.heap.size
theorem PutDone.of {w wc w3 : World} {lim : Nat} {l : List T} {ks : List ByteArray} {A2 : Option Addr} {d2 : Nat} {K2 : Option Addr} {e2 : Nat} {cs : Array Value}
 (hv : TV w3 (fun b => (w.heap.size + 2 ≤ b ∧ b < wc.heap.size ∧ b ≠ lim + 1) ∨ wc.heap.size ≤ b ∧ b < w3.heap.size) (T.ofObj l ks) A2 d2 K2 e2) (hn : (T.ofObj l ks).Nice) (hb : Blk w3 (lim + 1) 27 cs) (hcs : cs.size = 6)
 (hk : Below wc.heap.size wc w3) (hw : Below w.heap.size w w3) (hz : lim + 2 ≤ wc.heap.size) (hl : w.heap.size + 2 ≤ lim) :
 PutDone w lim wc ((((((w3.setCell ⟨lim + 1, 0, none⟩ (.int .i64 5)).setCell ⟨lim + 1, 1, none⟩ (.bool false)).setCell ⟨lim + 1, 2, none⟩ (.int .i64 0)).setCell ⟨lim + 1, 3, none⟩ (.string ⟨#[]⟩)).setCell ⟨lim + 1, 4, none⟩ (.slice A2 l.length d2)).setCell ⟨lim + 1, 5, none⟩ (.slice K2 ks.length e2)) := by
 have hF := res_put hb hcs (T.ofObj l ks) A2 d2 K2 e2
 change Blk ((((((w3.setCell ⟨lim + 1, 0, none⟩ (.int .i64 5)).setCell ⟨lim + 1, 1, none⟩ (.bool false)).setCell ⟨lim + 1, 2, none⟩ (.int .i64 0)).setCell ⟨lim + 1, 3, none⟩ (.string ⟨#[]⟩)).setCell ⟨lim + 1, 4, none⟩ (.slice A2 l.length d2)).setCell ⟨lim + 1, 5, none⟩ (.slice K2 ks.length e2)) _ _ _ at hF
 have hK : ∀ b, b ≠ lim + 1 → (((((((w3.setCell ⟨lim + 1, 0, none⟩ (.int .i64 5)).setCell ⟨lim + 1, 1, none⟩ (.bool false)).setCell ⟨lim + 1, 2, none⟩ (.int .i64 0)).setCell ⟨lim + 1, 3, none⟩ (.string ⟨#[]⟩)).setCell ⟨lim + 1, 4, none⟩ (.slice A2 l.length d2)).setCell ⟨lim + 1, 5, none⟩ (.slice K2 ks.length e2))).heap[b]? = w3.heap[b]? := by
  intro b hb
  rw [Below.heap_setCell _ _ _ _ hb, Below.heap_setCell _ _ _ _ hb, Below.heap_setCell _ _ _ _ hb, Below.heap_setCell _ _ _ _ hb, Below.heap_setCell _ _ _ _ hb, Below.heap_setCell _ _ _ _ hb]
 have hZ : (((((((w3.setCell ⟨lim + 1, 0, none⟩ (.int .i64 5)).setCell ⟨lim + 1, 1, none⟩ (.bool false)).setCell ⟨lim + 1, 2, none⟩ (.int .i64 0)).setCell ⟨lim + 1, 3, none⟩ (.string ⟨#[]⟩)).setCell ⟨lim + 1, 4, none⟩ (.slice A2 l.length d2)).setCell ⟨lim + 1, 5, none⟩ (.slice K2 ks.length e2))).heap.size = w3.heap.size := by simp [World.setCell]
 have hl1 : w.heap.size ≤ lim + 1 := by omega
 have hE : Below w.heap.size w ((((((w3.setCell ⟨lim + 1, 0, none⟩ (.int .i64 5)).setCell ⟨lim + 1, 1, none⟩ (.bool false)).setCell ⟨lim + 1, 2, none⟩ (.int .i64 0)).setCell ⟨lim + 1, 3, none⟩ (.string ⟨#[]⟩)).setCell ⟨lim + 1, 4, none⟩ (.slice A2 l.length d2)).setCell ⟨lim + 1, 5, none⟩ (.slice K2 ks.length e2)) := (((((hw.setCell hl1 _).setCell hl1 _).setCell hl1 _).setCell hl1 _).setCell hl1 _).setCell hl1 _
 generalize ((((((w3.setCell ⟨lim + 1, 0, none⟩ (.int .i64 5)).setCell ⟨lim + 1, 1, none⟩ (.bool false)).setCell ⟨lim + 1, 2, none⟩ (.int .i64 0)).setCell ⟨lim + 1, 3, none⟩ (.string ⟨#[]⟩)).setCell ⟨lim + 1, 4, none⟩ (.slice A2 l.length d2)).setCell ⟨lim + 1, 5, none⟩ (.slice K2 ks.length e2)) = W at *
 have hs := hk.size
 refine ⟨l, ks, A2, d2, K2, e2, (hv.keep fun b hb' => hK b (by omega)).wide fun b hb' => by omega, hn, hF, fun b hb' => (hK b (by omega)).trans (hk.block b (by omega)), hE, by omega⟩
set_option maxRecDepth 100000 in
set_option maxHeartbeats 20000000 in
theorem tree_some (A : Option Addr) (n c : Nat) (w : World) (hn : 0 < n) (hnc : n ≤ c) (hm : n ≤ maxLen) (hcm : c ≤ maxLen) (hN : Nodes w (· < w.heap.size) A n) : Calls Tryz.prog 7 #[.slice A n c] w (TreePost w) := by
 unfold maxLen at hm hcm
 have HN := Lib.hid hN
 clear hN
 obtain ⟨i0, hi0, hz0, hz1, hz2⟩ := info_parts infoV
 have u0 : ((n : Int) == 0) = false := by rw [beq_eq_false_iff_ne]; omega
 obtain ⟨M, hM, hM1, hM2, hM3⟩ : ∃ M : Nat, min (n : Int) 12 = (M : Int) ∧ 0 < M ∧ M ≤ 12 ∧ M ≤ n := ⟨min n 12, by omega, by omega, by omega, by omega⟩
 have hmk : ∀ W : World, (Instr.makeSlice 24 (.int .i64 M) (.int .i64 M)).run Tryz.prog W = .ok (.slice (some ⟨W.heap.size, 0, none⟩) M M) (W.alloc (.cells (madeCells #[.int .i64 0, .bool false, .int .i64 0, .string ⟨#[]⟩, .slice none 0 0, .slice none 0 0] (M * 6)) 27)) := by
  intro W
  have := run_make (P := Tryz.prog) W 24 27 i0 _ Tryz.underlying24 hi0 hz0 .i64 .i64 M M (by omega) (by omega) (by rw [hz2]; omega) (by omega)
  rw [hz1] at this
  exact this
 go_enter Tryz.func7, Tryz.ntmps7
 go_wp2_with fail
 have hW : Below w.heap.size w ((w.alloc (.cells #[.int .i64 0, .bool false, .int .i64 0, .string ⟨#[]⟩, .slice none 0 0, .slice none 0 0] 27)).alloc (.cells (madeCells #[.int .i64 0, .bool false, .int .i64 0, .string ⟨#[]⟩, .slice none 0 0, .slice none 0 0] (M * 6)) 27)) := ((Below.refl _ _).alloc (Nat.le_refl _) _).alloc (by simp) _
 have hR : Blk ((w.alloc (.cells #[.int .i64 0, .bool false, .int .i64 0, .string ⟨#[]⟩, .slice none 0 0, .slice none 0 0] 27)).alloc (.cells (madeCells #[.int .i64 0, .bool false, .int .i64 0, .string ⟨#[]⟩, .slice none 0 0, .slice none 0 0] (M * 6)) 27)) w.heap.size 27 #[.int .i64 0, .bool false, .int .i64 0, .string ⟨#[]⟩, .slice none 0 0, .slice none 0 0] := (Blk.new w _ _).alloc _
 have hA : Alls (w.heap.size + 2) (w.heap.size + 1) M (w.heap.size + 2) ((w.alloc (.cells #[.int .i64 0, .bool false, .int .i64 0, .string ⟨#[]⟩, .slice none 0 0, .slice none 0 0] 27)).alloc (.cells (madeCells #[.int .i64 0, .bool false, .int .i64 0, .string ⟨#[]⟩, .slice none 0 0, .slice none 0 0] (M * 6)) 27)) := by
  have := Alls.new (w.alloc (.cells #[.int .i64 0, .bool false, .int .i64 0, .string ⟨#[]⟩, .slice none 0 0, .slice none 0 0] 27)) (w.heap.size + 2) M
  simpa using this
 have hZ : ((w.alloc (.cells #[.int .i64 0, .bool false, .int .i64 0, .string ⟨#[]⟩, .slice none 0 0, .slice none 0 0] 27)).alloc (.cells (madeCells #[.int .i64 0, .bool false, .int .i64 0, .string ⟨#[]⟩, .slice none 0 0, .slice none 0 0] (M * 6)) 27)).heap.size = w.heap.size + 2 := by simp
 change Code.wp _ _ _ _ ((w.alloc (.cells #[.int .i64 0, .bool false, .int .i64 0, .string ⟨#[]⟩, .slice none 0 0, .slice none 0 0] 27)).alloc (.cells (madeCells #[.int .i64 0, .bool false, .int .i64 0, .string ⟨#[]⟩, .slice none 0 0, .slice none 0 0] (M * 6)) 27))
 generalize ((w.alloc (.cells #[.int .i64 0, .bool false, .int .i64 0, .string ⟨#[]⟩, .slice none 0 0, .slice none 0 0] 27)).alloc (.cells (madeCells #[.int .i64 0, .bool false, .int .i64 0, .string ⟨#[]⟩, .slice none 0 0, .slice none 0 0] (M * 6)) 27)) = W at *
 have HW := Lib.hid hW
 have HR := Lib.hid hR
 have HA := Lib.hid hA
 have HZ := Lib.hid hZ
 clear hW hR hA hZ hmk
 go_loopg [4] M (fun g s4 wr => ∃ k : Nat, k ≤ M ∧ g = k ∧ s4 = .int .i64 ((k : Int) - 1) ∧ w.heap.size + 2 ≤ wr.heap.size ∧ Alls (w.heap.size + 2) (w.heap.size + 1) M wr.heap.size wr ∧ Blk wr w.heap.size 27 #[.int .i64 0, .bool false, .int .i64 0, .string ⟨#[]⟩, .slice none 0 0, .slice none 0 0] ∧ Below w.heap.size w wr)
 case atStart => exact ⟨M, Nat.le_refl _, rfl, rfl, Nat.le_of_eq HZ.out.symm, HA.out.wide (Nat.le_of_eq HZ.out.symm), HR.out, HW.out⟩
 case round =>
  clear HW HR HA HZ W
  obtain ⟨k, hk, rfl, rfl, hsz, hal, hres, hbel⟩ := hrel
  have Hal := Lib.hid hal
  have Hres := Lib.hid hres
  have Hbel := Lib.hid hbel
  clear hal hres hbel
  by_cases hk0 : 0 < gk
  ·
   obtain ⟨k, rfl⟩ : ∃ j, gk = j + 1 := ⟨gk - 1, by omega⟩
   have uk : ((((k + 1 : Nat) : Int)) - 1) = (k : Int) := by omega
   rw [uk]
   clear uk
   have u1 : decide ((0 : Int) ≤ (k : Int)) = true := decide_eq_true (by omega)
   obtain ⟨b, o, rfl, hb, kk, nn, str, I, mi, ci, K, mk, ck, h0, h1, h2, h3, c0, c1, c2, c3, c4, hI, hK⟩ := HN.out k (by omega)
   have kp : ∀ o', wr.cell? ⟨b, o', none⟩ = w.cell? ⟨b, o', none⟩ := fun o' => (Keeps.of_below Hbel.out).cell hb o'
   have e0 := (kp _).trans c0
   have e1 := (kp _).trans c1
   have e2 := (kp _).trans c2
   have e3 := (kp _).trans c3
   have e4 := (kp _).trans c4
   have HI := Lib.hid hI
   have HK := Lib.hid hK
   have m0 : 0 ≤ kk % 6 := by omega
   have m1 : kk % 6 < 6 := by omega
   clear c0 c1 c2 c3 c4 hI hK kp
   go_upto_block 2 with fail
   generalize kk % 6 = kd at *
   have hBX : Blk ((wr.alloc (.cells #[.int .u8 kk, .int .i64 nn, .string str, .slice I mi ci, .slice K mk ck] 53)).alloc (.cells #[.int .i64 kd, .bool false, .int .i64 0, .string ⟨#[]⟩, .slice none 0 0, .slice none 0 0] 27)) wr.heap.size 53 #[.int .u8 kk, .int .i64 nn, .string str, .slice I mi ci, .slice K mk ck] := (Blk.new wr _ _).alloc _
   have hBG : Blk ((wr.alloc (.cells #[.int .u8 kk, .int .i64 nn, .string str, .slice I mi ci, .slice K mk ck] 53)).alloc (.cells #[.int .i64 kd, .bool false, .int .i64 0, .string ⟨#[]⟩, .slice none 0 0, .slice none 0 0] 27)) (wr.heap.size + 1) 27 #[.int .i64 kd, .bool false, .int .i64 0, .string ⟨#[]⟩, .slice none 0 0, .slice none 0 0] := by
    have := Blk.new (wr.alloc (.cells #[.int .u8 kk, .int .i64 nn, .string str, .slice I mi ci, .slice K mk ck] 53)) 27 #[.int .i64 kd, .bool false, .int .i64 0, .string ⟨#[]⟩, .slice none 0 0, .slice none 0 0]
    simpa using this
   have hbW : Below wr.heap.size wr ((wr.alloc (.cells #[.int .u8 kk, .int .i64 nn, .string str, .slice I mi ci, .slice K mk ck] 53)).alloc (.cells #[.int .i64 kd, .bool false, .int .i64 0, .string ⟨#[]⟩, .slice none 0 0, .slice none 0 0] 27)) := ((Below.refl _ _).alloc (Nat.le_refl _) _).alloc (by simp) _
   have hzW : ((wr.alloc (.cells #[.int .u8 kk, .int .i64 nn, .string str, .slice I mi ci, .slice K mk ck] 53)).alloc (.cells #[.int .i64 kd, .bool false, .int .i64 0, .string ⟨#[]⟩, .slice none 0 0, .slice none 0 0] 27)).heap.size = wr.heap.size + 2 := by simp
   change Code.wp _ _ _ _ ((wr.alloc (.cells #[.int .u8 kk, .int .i64 nn, .string str, .slice I mi ci, .slice K mk ck] 53)).alloc (.cells #[.int .i64 kd, .bool false, .int .i64 0, .string ⟨#[]⟩, .slice none 0 0, .slice none 0 0] 27))
   generalize ((wr.alloc (.cells #[.int .u8 kk, .int .i64 nn, .string str, .slice I mi ci, .slice K mk ck] 53)).alloc (.cells #[.int .i64 kd, .bool false, .int .i64 0, .string ⟨#[]⟩, .slice none 0 0, .slice none 0 0] 27)) = W at *
   have hal2 := Hal.out.onto hbW (by omega) (Nat.le_refl _)
   have hres2 := Hres.out.on hbW (by omega)
   have hbel2 := Hbel.out.trans (hbW.mono (by omega))
   have HAL := Lib.hid hal2
   have HRES := Lib.hid hres2
   have HBEL := Lib.hid hbel2
   have HBX := Lib.hid hBX
   have HBG := Lib.hid hBG
   have HZW := Lib.hid hzW
   clear hal2 hres2 hbel2 hBX hBG hzW hbW e0 e1 e2 e3 e4 Hal Hres Hbel
   generalize wr.heap.size = lim at *
   clear wr
   have hlW : lim + 1 < W.heap.size := HBG.out.lt
   go_cut [] (fun wx => Switched w M lim wx)
   case first =>
    have g0 : W.cell? ⟨lim + 1, 0, none⟩ = some (.int .i64 kd) := HBG.out.cell 0
    have g1 : W.cell? ⟨lim + 1, 1, none⟩ = some (.bool false) := HBG.out.cell 1
    have g2 : W.cell? ⟨lim + 1, 2, none⟩ = some (.int .i64 0) := HBG.out.cell 2
    have g3 : W.cell? ⟨lim + 1, 3, none⟩ = some (.string ⟨#[]⟩) := HBG.out.cell 3
    have g4 : W.cell? ⟨lim + 1, 4, none⟩ = some (.slice none 0 0) := HBG.out.cell 4
    have g5 : W.cell? ⟨lim + 1, 5, none⟩ = some (.slice none 0 0) := HBG.out.cell 5
    have f0 := HBG.out.free 0
    have f1 := HBG.out.free 1
    have f2 := HBG.out.free 2
    have f3 := HBG.out.free 3
    have x1 : W.cell? ⟨lim, 1, none⟩ = some (.int .i64 nn) := HBX.out.cell 1
    have x2 : W.cell? ⟨lim, 2, none⟩ = some (.string str) := HBX.out.cell 2
    have x3 : W.cell? ⟨lim, 3, none⟩ = some (.slice I mi ci) := HBX.out.cell 3
    have x4 : W.cell? ⟨lim, 4, none⟩ = some (.slice K mk ck) := HBX.out.cell 4
    rcases (by omega : kd = 0 ∨ kd = 1 ∨ kd = 2 ∨ kd = 3 ∨ kd = 4 ∨ kd = 5) with rfl | rfl | rfl | rfl | rfl | rfl
    ·
     go_wp2_with fail
     go_meet
     exact ⟨⟨T.zero, none, 0, none, 0, HBG.out, nice_zero, TV.leaf _ _ rfl rfl⟩, HAL.out, HRES.out, HBEL.out, Nat.le_of_eq HZW.out.symm⟩
    ·
     go_wp2_with fail
     go_meet
     exact ⟨⟨T.ofBool _, none, 0, none, 0, HBG.out.set_ 1 _, nice_bool _, TV.leaf _ _ rfl rfl⟩, HAL.out.far (by omega) (by show lim ≤ lim + 1; omega) _, HRES.out.far (by show w.heap.size ≠ lim + 1; omega) _, HBEL.out.setCell (by show w.heap.size ≤ lim + 1; omega) _, by simp [World.setCell]; omega⟩
    ·
     go_wp2_with fail
     go_meet
     exact ⟨⟨T.ofNum nn, none, 0, none, 0, HBG.out.set_ 2 _, nice_num h2 h3, TV.leaf _ _ rfl rfl⟩, HAL.out.far (by omega) (by show lim ≤ lim + 1; omega) _, HRES.out.far (by show w.heap.size ≠ lim + 1; omega) _, HBEL.out.setCell (by show w.heap.size ≤ lim + 1; omega) _, by simp [World.setCell]; omega⟩
    ·
     go_wp2_with fail
     refine (ltext_any _ _).mono ?_
     rintro e w2 ⟨⟨q, rfl, hq, h60⟩, hb2⟩
     have hbg2 := HBG.out.onto hb2
     have j3 : w2.cell? ⟨lim + 1, 3, none⟩ = some (.string ⟨#[]⟩) := hbg2.cell 3
     have jf3 := hbg2.free 3
     have HG2 := Lib.hid hbg2
     have H2 := Lib.hid hb2
     have HQ := Lib.hid hq
     clear hbg2 hb2 hq
     go_wp2_with fail
     go_meet
     exact ⟨⟨T.ofStr q, none, 0, none, 0, HG2.out.set_ 3 _, nice_str HQ.out h60, TV.leaf _ _ rfl rfl⟩, (HAL.out.onto H2.out (by omega) (by omega)).far (by omega) (by show lim ≤ lim + 1; omega) _, (HRES.out.onto H2.out).far (by show w.heap.size ≠ lim + 1; omega) _, (HBEL.out.trans (H2.out.mono HBEL.out.size)).setCell (by show w.heap.size ≤ lim + 1; omega) _, by have := H2.out.size; simp [World.setCell]; omega⟩
    ·
     go_wp2_with fail
     go_loopg [65] 4 (fun g s65 wx => ∃ (j : Nat) (l : List T) (A2 : Option Addr) (d2 : Nat) (xs : List Value), j ≤ 4 ∧ g = 4 - j ∧ s65 = .int .i64 j ∧ Coll 27 wx (lim + 2) (fun b => b < w.heap.size + 2 ∨ b = lim + 1) l (.slice A2 l.length d2) xs ∧ (T.ofList l).Nice ∧
      Blk wx (lim + 1) 27 #[.int .i64 4, .bool false, .int .i64 0, .string ⟨#[]⟩, .slice A2 l.length d2, .slice none 0 0] ∧ Blk wx lim 53 #[.int .u8 kk, .int .i64 nn, .string str, .slice I mi ci, .slice K mk ck] ∧
      Alls (w.heap.size + 2) (w.heap.size + 1) M lim wx ∧ Blk wx w.heap.size 27 #[.int .i64 0, .bool false, .int .i64 0, .string ⟨#[]⟩, .slice none 0 0, .slice none 0 0] ∧ Below w.heap.size w wx ∧ lim + 2 ≤ wx.heap.size)
     case atStart => exact ⟨0, [], none, 0, [], by omega, rfl, rfl, Coll.nil _ _ _ _, nice_nil, HBG.out, HBX.out, HAL.out, HRES.out, HBEL.out, Nat.le_of_eq HZW.out.symm⟩
     case round =>
      clear g0 g1 g2 g3 g4 g5 f0 f1 f2 f3 x1 x2 x3 x4 HAL HRES HBEL HBX HBG HZW hlW W
      obtain ⟨j, l, A2, d2, xs, hj, rfl, rfl, hcoll, hnice, hbg, hbx, hal, hres, hbel, hlim⟩ := hrel
      have Hcoll := Lib.hid hcoll
      have Hnice := Lib.hid hnice
      have Hbg := Lib.hid hbg
      have Hbx := Lib.hid hbx
      have Hal := Lib.hid hal
      have Hres := Lib.hid hres
      have Hbel := Lib.hid hbel
      have g0 : wr.cell? ⟨lim + 1, 0, none⟩ = some (.int .i64 4) := hbg.cell 0
      have g1 : wr.cell? ⟨lim + 1, 1, none⟩ = some (.bool false) := hbg.cell 1
      have g2 : wr.cell? ⟨lim + 1, 2, none⟩ = some (.int .i64 0) := hbg.cell 2
      have g3 : wr.cell? ⟨lim + 1, 3, none⟩ = some (.string ⟨#[]⟩) := hbg.cell 3
      have g4 : wr.cell? ⟨lim + 1, 4, none⟩ = some (.slice A2 l.length d2) := hbg.cell 4
      have g5 : wr.cell? ⟨lim + 1, 5, none⟩ = some (.slice none 0 0) := hbg.cell 5
      have f4 := hbg.free 4
      have DONE := Lib.hid (show Switched w M lim wr from by
       obtain ⟨hn, hd2, hvr⟩ := hcoll.vreads
       exact ⟨⟨T.ofList l, A2, d2, none, 0, hbg, hnice, TV.of hd2 (Nat.le_refl _) (fun hn => (hvr.wide fun b hb => ⟨by have := hb.2; omega, hb.1, by have := hb.2; omega⟩) hn) (SReads.none_ _ _ _)⟩, hal, hres, hbel, hlim⟩)
      clear hcoll hnice hbg hbx hal hres hbel
      by_cases hjm : j < mi
      ·
       have u1 : decide (j < mi) = true := decide_eq_true hjm
       obtain ⟨bI, oI, dd, rfl, hbI, hd0, hd1, hcI⟩ := HI.out j hjm
       have eI := ((Keeps.of_below Hbel.out).cell hbI (oI + j)).trans hcI
       obtain ⟨r, hr, hr4⟩ : ∃ r : Nat, dd % 4 = (r : Int) ∧ r < 4 := ⟨(dd % 4).toNat, by omega, by omega⟩
       clear hcI
       have hVl : w.heap.size + 1 < wr.heap.size := by omega
       by_cases hj4 : j = 4
       ·
        have uj : ((j : Int) == 4) = true := by rw [beq_iff_eq]; omega
        clear hj4
        go_upto_region 23 with fail
        go_cut [94] (fun s94 wy => s94 = .bool true ∧ Below wr.heap.size wr wy)
        case first =>
         go_quiet (fail)
         all_goals
          go_wp2_with fail
          go_meet
          exact ⟨rfl, by first | exact Below.refl _ _ | exact (Below.refl _ _).drew | exact below_drewN (Below.refl _ _) _⟩
        case rest =>
         obtain ⟨rfl, hb94⟩ := hcut
         have HB94 := Lib.hid hb94
         clear hb94
         go_wp2_with fail
         go_meet
         exact DONE.out.onto HB94.out hVl
       ·
        have uj : ((j : Int) == 4) = false := by rw [beq_eq_false_iff_ne]; omega
        have hj3 : j < 4 := by omega
        clear hj4
        by_cases hat : k + 1 + r < M
        ·
         have ug : decide ((M : Int) ≤ (k : Int) + 1 + (r : Int)) = false := decide_eq_false (by omega)
         obtain ⟨x, B, d, B', d', k6, hxn, hxt⟩ := Hal.out.at_ hat
         obtain ⟨y0, y1, y2, y3, y4, y5⟩ := k6
         have hsx := hxn.size
         have hsl := Hnice.out.size
         have HXN := Lib.hid hxn
         have HXT := Lib.hid (show TV wr (· < wr.heap.size) x B d B' d' from hxt.wide fun b hb => by show b < wr.heap.size; omega)
         have HXT0 := Lib.hid hxt
         have HLT := Lib.hid (show TV wr (· < wr.heap.size) (T.ofList l) A2 d2 none 0 from by
          obtain ⟨hn, hd2, hvr⟩ := Hcoll.out.vreads
          exact TV.of hd2 (Nat.le_refl _) (fun hn => (hvr.wide fun b hb => hb.1) hn) (SReads.none_ _ _ _))
         have HSS := Lib.hid (show ∀ w', Below wr.heap.size wr w' → w'.cell? ⟨lim + 1, 0, none⟩ = some (.int .i64 4) ∧ w'.cell? ⟨lim + 1, 1, none⟩ = some (.bool false) ∧ w'.cell? ⟨lim + 1, 2, none⟩ = some (.int .i64 0) ∧ w'.cell? ⟨lim + 1, 3, none⟩ = some (.string ⟨#[]⟩) ∧ w'.cell? ⟨lim + 1, 4, none⟩ = some (.slice A2 l.length d2) ∧ w'.cell? ⟨lim + 1, 5, none⟩ = some (.slice none 0 0) ∧
          w'.cell? ⟨w.heap.size + 1, (k + 1 + r) * 6, none⟩ = some (.int .i64 x.kind) ∧ w'.cell? ⟨w.heap.size + 1, (k + 1 + r) * 6 + 1, none⟩ = some (.bool x.tr) ∧ w'.cell? ⟨w.heap.size + 1, (k + 1 + r) * 6 + 2, none⟩ = some (.int .i64 x.num) ∧ w'.cell? ⟨w.heap.size + 1, (k + 1 + r) * 6 + 3, none⟩ = some (.string x.str) ∧ w'.cell? ⟨w.heap.size + 1, (k + 1 + r) * 6 + 4, none⟩ = some (.slice B x.items.length d) ∧ w'.cell? ⟨w.heap.size + 1, (k + 1 + r) * 6 + 5, none⟩ = some (.slice B' x.keys.length d') from fun w' hb => by
           have a1 : lim + 1 < wr.heap.size := by omega
           exact ⟨(hb.cell (p := ⟨lim + 1, 0, none⟩) a1).trans g0, (hb.cell (p := ⟨lim + 1, 1, none⟩) a1).trans g1, (hb.cell (p := ⟨lim + 1, 2, none⟩) a1).trans g2, (hb.cell (p := ⟨lim + 1, 3, none⟩) a1).trans g3, (hb.cell (p := ⟨lim + 1, 4, none⟩) a1).trans g4, (hb.cell (p := ⟨lim + 1, 5, none⟩) a1).trans g5,
            (hb.cell (p := ⟨w.heap.size + 1, _, none⟩) hVl).trans y0, (hb.cell (p := ⟨w.heap.size + 1, _, none⟩) hVl).trans y1, (hb.cell (p := ⟨w.heap.size + 1, _, none⟩) hVl).trans y2, (hb.cell (p := ⟨w.heap.size + 1, _, none⟩) hVl).trans y3, (hb.cell (p := ⟨w.heap.size + 1, _, none⟩) hVl).trans y4, (hb.cell (p := ⟨w.heap.size + 1, _, none⟩) hVl).trans y5⟩)
         have n0 : (0 : Int) ≤ (k : Int) + 1 + (r : Int) := by omega
         have n1 : (k : Int) + 1 + (r : Int) < (M : Int) := by omega
         have ws : IntKind.i64.wrap (((T.ofList l).size : Int) + (x.size : Int)) = ((T.ofList l).size : Int) + (x.size : Int) := IntWalk.i64_in _ (by omega)
         have tn : ((k : Int) + 1 + (r : Int)).toNat = k + 1 + r := by omega
         clear hxn hxt
         go_upto_region 23 with fail
         go_cut [94] (fun s94 wy => s94 = .bool (decide ((40 : Int) < ((T.ofList l).size : Int) + (x.size : Int))) ∧ Below wr.heap.size wr wy)
         case first =>
          have HBc := Lib.hid (Below.refl wr.heap.size wr)
          go_region_held3 (fun w' => w'.cell? ⟨lim + 1, 0, none⟩ = some (.int .i64 4) ∧ w'.cell? ⟨lim + 1, 1, none⟩ = some (.bool false) ∧ w'.cell? ⟨lim + 1, 2, none⟩ = some (.int .i64 0) ∧ w'.cell? ⟨lim + 1, 3, none⟩ = some (.string ⟨#[]⟩) ∧ w'.cell? ⟨lim + 1, 4, none⟩ = some (.slice A2 l.length d2) ∧ w'.cell? ⟨lim + 1, 5, none⟩ = some (.slice none 0 0) ∧
          w'.cell? ⟨w.heap.size + 1, (k + 1 + r) * 6, none⟩ = some (.int .i64 x.kind) ∧ w'.cell? ⟨w.heap.size + 1, (k + 1 + r) * 6 + 1, none⟩ = some (.bool x.tr) ∧ w'.cell? ⟨w.heap.size + 1, (k + 1 + r) * 6 + 2, none⟩ = some (.int .i64 x.num) ∧ w'.cell? ⟨w.heap.size + 1, (k + 1 + r) * 6 + 3, none⟩ = some (.string x.str) ∧ w'.cell? ⟨w.heap.size + 1, (k + 1 + r) * 6 + 4, none⟩ = some (.slice B x.items.length d) ∧ w'.cell? ⟨w.heap.size + 1, (k + 1 + r) * 6 + 5, none⟩ = some (.slice B' x.keys.length d'))
           (first
            | with_reducible exact HSS.out _ HBc.out
            | with_reducible exact HSS.out _ (below_drewN HBc.out _)
            | exact HSS.out _ HBc.out.drew
            | go_keep)
           (first
            | (
             go_at_call 22
             with_reducible refine (rsize_list l A2 d2 _ (by omega) (HLT.out.on ?_)).mono ?_
             · first | with_reducible exact HBc.out | with_reducible exact below_drewN HBc.out _ | exact HBc.out.drew
             rintro e5 w5 ⟨rfl, hb5⟩
             have HBc := Lib.hid (show Below wr.heap.size wr w5 from by first | with_reducible exact HBc.out.trans (hb5.mono HBc.out.size) | with_reducible exact (below_drewN HBc.out _).trans (hb5.mono HBc.out.size) | exact HBc.out.drew.trans (hb5.mono HBc.out.size))
             clear hb5)
            | (
             go_at_call 22
             with_reducible refine (rsize_cells x B d B' d' _ (by omega) (HXT.out.on ?_)).mono ?_
             · first | with_reducible exact HBc.out | with_reducible exact below_drewN HBc.out _ | exact HBc.out.drew
             rintro e6 w6 ⟨rfl, hb6⟩
             have HBc := Lib.hid (show Below wr.heap.size wr w6 from by first | with_reducible exact HBc.out.trans (hb6.mono HBc.out.size) | with_reducible exact (below_drewN HBc.out _).trans (hb6.mono HBc.out.size) | exact HBc.out.drew.trans (hb6.mono HBc.out.size))
             clear hb6))
          all_goals
           go_wp2_with fail
           go_meet
           exact ⟨rfl, HBc.out⟩
         case rest =>
          obtain ⟨rfl, hb94⟩ := hcut
          have HB94 := Lib.hid hb94
          clear hb94
          by_cases hs : 40 < (T.ofList l).size + x.size
          ·
           have us : decide ((40 : Int) < ((T.ofList l).size : Int) + (x.size : Int)) = true := decide_eq_true (by omega)
           go_wp2_with fail
           go_meet
           exact DONE.out.onto HB94.out hVl
          ·
           have us : decide ((40 : Int) < ((T.ofList l).size : Int) + (x.size : Int)) = false := decide_eq_false (by omega)
           have hcell := HSS.out _ HB94.out
           have HcollC := Lib.hid (Hcoll.out.onto HB94.out)
           have HbgC := Lib.hid (Hbg.out.onto HB94.out)
           have HbxC := Lib.hid (Hbx.out.onto HB94.out)
           have HalC := Lib.hid (Hal.out.onto HB94.out hVl (by omega))
           have HresC := Lib.hid (Hres.out.onto HB94.out)
           have HbelC := Lib.hid (Hbel.out.trans (HB94.out.mono Hbel.out.size))
           have HXTC := Lib.hid (HXT0.out.keep fun b hb => HB94.out.block b (by omega))
           have hszC : lim + 2 ≤ wc.heap.size := by have := HB94.out.size; omega
           have hVC : w.heap.size + 1 < wc.heap.size := by omega
           have fC4 := HbgC.out.free 4
           clear g0 g1 g2 g3 g4 g5 f4 y0 y1 y2 y3 y4 y5 DONE HLT HXT HXT0 HSS HB94 Hbg Hbx Hal Hres Hbel ws
           clear Hcoll eI hlim hVl wr
           obtain ⟨g0, g1, g2, g3, g4, g5, y0, y1, y2, y3, y4, y5⟩ := hcell
           have g4' : ∀ o : Obj, (wc.alloc o).cell? ⟨lim + 1, 4, none⟩ = some (.slice A2 l.length d2) := fun o => (fary (by omega)).trans g4
           have HT2 := Lib.hid (show TV wc (fun b => b < wc.heap.size ∧ ¬ (b < w.heap.size + 2 ∨ b = lim + 1) ∧ some b ≠ (Value.slice A2 l.length d2).ownBlock) x B d B' d' from HXTC.out.wide fun b hb => ⟨by omega, by omega, fun e1 => by have := (HcollC.out.2.1.lt b e1.symm).1; omega⟩)
           have Hown2 := Lib.hid HcollC.out.2.1
           have hll : l.length ≤ 40 := by have := T.len_size (T.ofList l); have e : (T.ofList l).items.length = l.length := rfl; omega
           have HL1 := Lib.hid (show (l ++ [x]).length = l.length + 1 by simp)
           go_upto_region 25 with fail
           go_cut [] (fun wy => Appended w lim l x wc wy)
           case first =>
            go_region_law (first
             | (
              refine app_step ?_ (.tmp 99) (.tmp 104) 24 ?_ (lim + 2) 27 i0 (.agg #[.int .i64 0, .bool false, .int .i64 0, .string ⟨#[]⟩, .slice none 0 0, .slice none 0 0]) 6 88 Tryz.underlying24 hi0 hz0 hz1 hz2 ?_ ?_ (.slice A2 l.length d2) l.length xs ?_ ?_ (some ⟨wc.heap.size, 0, none⟩) 1 1 (x.cs B d B' d').toList ?_ ?_ cs_one ?_ ?_ ?_ (l.length + 1) ?_ ?_
              · rfl
              · rfl
              · rfl
              · decide
              · rfl
              · first
               | exact Hown2.out.alloc _
               | exact (Hown2.out.alloc _).drew
              · rfl
              · first
               | exact src_of_cs (Blk.new wc 27 _)
               | exact src_of_cs (Blk.new wc 27 _).drew
              · unfold maxLen; omega
              · omega
              · simp; omega
              · rfl
              intro A3 d3 w3 ho3 hg3 hat3
              have hg3 := grown_undrew hg3
              have hkeep3 : ∀ b, b < lim + 2 → w3.heap[b]? = wc.heap[b]? := fun b hb =>
               (hg3.block b (by simp; omega) (fun e1 => by have := (Hown2.out.lt b e1.symm).1; omega)).trans (Below.heap_alloc wc (.cells (x.cs B d B' d') 27) b (by omega))
              have hcoll3 := HcollC.out.app_new HT2.out (by omega) rfl ho3 hg3 hat3
              have hb3 := (HbelC.out.alloc HbelC.out.size (.cells (x.cs B d B' d') 27)).grown hg3 (by have := HbelC.out.size; simp; omega) (fun b hb => by have := (Hown2.out.lt b hb).1; omega)
              have hlz3 : lim + 2 ≤ w3.heap.size := by have := hg3.size; simp at this; omega
              have hlo3 : w.heap.size ≤ lim + 1 := by omega
              have hbg3 : Blk w3 (lim + 1) 27 #[.int .i64 4, .bool false, .int .i64 0, .string ⟨#[]⟩, .slice A2 l.length d2, .slice none 0 0] := (hkeep3 (lim + 1) (by omega)).trans HbgC.out
              have s4 : w3.cell? ⟨lim + 1, 4, none⟩ = some (.slice A2 l.length d2) := hbg3.cell 4
              have fs4 := hbg3.free 4
              have Hk3 := Lib.hid hkeep3
              have Hbg3 := Lib.hid hbg3
              have Hcoll3 := Lib.hid hcoll3
              have Hb3 := Lib.hid hb3
              clear hkeep3 hbg3 hcoll3 hb3 ho3 hg3 hat3))
            all_goals
             go_wp2_with fail
             go_meet
             exact Appended.of Hcoll3.out Hbg3.out Hk3.out Hb3.out hlz3 hlo3
           case rest =>
            obtain ⟨A3, d3, xs3, hcoll3, hbg3, hk3, hb3, hz3⟩ := hcut
            have Hcoll3 := Lib.hid hcoll3
            have Hbg3 := Lib.hid hbg3
            have Hk3 := Lib.hid hk3
            have Hb3 := Lib.hid hb3
            clear hcoll3 hbg3 hk3 hb3 g0 g1 g2 g3 g4 g4' g5 y0 y1 y2 y3 y4 y5
            go_wp2_with fail
            go_roundg (4 - (j + 1))
            case measure => omega
            case rel =>
             refine ⟨j + 1, l ++ [x], A3, d3, xs3, by omega, rfl, by go_num, Hcoll3.out, nice_app Hnice.out HXN.out (by omega), Hbg3.out, ?_, ?_, ?_, Hb3.out, hz3⟩
             · exact (Hk3.out lim (by omega)).trans HbxC.out
             · exact HalC.out.keep fun b hb => Hk3.out b (by omega)
             · exact (Hk3.out w.heap.size (by omega)).trans HresC.out
        ·
         have ug : decide ((M : Int) ≤ (k : Int) + 1 + (r : Int)) = true := decide_eq_true (by omega)
         go_upto_region 23 with fail
         go_cut [94] (fun s94 wy => s94 = .bool true ∧ Below wr.heap.size wr wy)
         case first =>
          go_quiet (fail)
          all_goals
           go_wp2_with fail
           go_meet
           exact ⟨rfl, by first | exact Below.refl _ _ | exact (Below.refl _ _).drew | exact below_drewN (Below.refl _ _) _⟩
         case rest =>
          obtain ⟨rfl, hb94⟩ := hcut
          have HB94 := Lib.hid hb94
          clear hb94
          go_wp2_with fail
          go_meet
          exact DONE.out.onto HB94.out hVl
      ·
       have u1 : decide (j < mi) = false := decide_eq_false hjm
       go_wp2_with fail
       go_meet
       exact DONE.out
    ·
     go_wp2_with fail
     go_loopg [65] 4 (fun g s65 wx => ∃ (j : Nat) (l : List T) (ks : List ByteArray) (A2 : Option Addr) (d2 : Nat) (K2 : Option Addr) (e2 : Nat), j ≤ 4 ∧ g = 4 - j ∧ s65 = .int .i64 j ∧ TV wx (fun b => w.heap.size + 2 ≤ b ∧ b < wx.heap.size ∧ b ≠ lim + 1) (T.ofObj l ks) A2 d2 K2 e2 ∧ (T.ofObj l ks).Nice ∧
      Blk wx (lim + 1) 27 #[.int .i64 5, .bool false, .int .i64 0, .string ⟨#[]⟩, .slice A2 l.length d2, .slice K2 ks.length e2] ∧ Blk wx lim 53 #[.int .u8 kk, .int .i64 nn, .string str, .slice I mi ci, .slice K mk ck] ∧
      Alls (w.heap.size + 2) (w.heap.size + 1) M lim wx ∧ Blk wx w.heap.size 27 #[.int .i64 0, .bool false, .int .i64 0, .string ⟨#[]⟩, .slice none 0 0, .slice none 0 0] ∧ Below w.heap.size w wx ∧ lim + 2 ≤ wx.heap.size)
     case atStart => exact ⟨0, [], [], none, 0, none, 0, by omega, rfl, rfl, TV.leaf _ _ rfl rfl, nice_obj, HBG.out, HBX.out, HAL.out, HRES.out, HBEL.out, Nat.le_of_eq HZW.out.symm⟩
     case round =>
      clear g0 g1 g2 g3 g4 g5 f0 f1 f2 f3 x1 x2 x3 x4 HAL HRES HBEL HBX HBG HZW hlW W
      obtain ⟨j, l, ks, A2, d2, K2, e2, hj, rfl, rfl, hcoll, hnice, hbg, hbx, hal, hres, hbel, hlim⟩ := hrel
      have Hcoll := Lib.hid hcoll
      have Hnice := Lib.hid hnice
      have Hbg := Lib.hid hbg
      have Hbx := Lib.hid hbx
      have Hal := Lib.hid hal
      have Hres := Lib.hid hres
      have Hbel := Lib.hid hbel
      have g0 : wr.cell? ⟨lim + 1, 0, none⟩ = some (.int .i64 5) := hbg.cell 0
      have g1 : wr.cell? ⟨lim + 1, 1, none⟩ = some (.bool false) := hbg.cell 1
      have g2 : wr.cell? ⟨lim + 1, 2, none⟩ = some (.int .i64 0) := hbg.cell 2
      have g3 : wr.cell? ⟨lim + 1, 3, none⟩ = some (.string ⟨#[]⟩) := hbg.cell 3
      have g4 : wr.cell? ⟨lim + 1, 4, none⟩ = some (.slice A2 l.length d2) := hbg.cell 4
      have g5 : wr.cell? ⟨lim + 1, 5, none⟩ = some (.slice K2 ks.length e2) := hbg.cell 5
      have f4 := hbg.free 4
      have DONE := Lib.hid (show Switched w M lim wr from by
       exact ⟨⟨T.ofObj l ks, A2, d2, K2, e2, hbg, hnice, hcoll⟩, hal, hres, hbel, hlim⟩)
      clear hcoll hnice hbg hbx hal hres hbel
      by_cases hjm : j < mi
      ·
       have u1 : decide (j < mi) = true := decide_eq_true hjm
       obtain ⟨bI, oI, dd, rfl, hbI, hd0, hd1, hcI⟩ := HI.out j hjm
       have eI := ((Keeps.of_below Hbel.out).cell hbI (oI + j)).trans hcI
       obtain ⟨r, hr, hr4⟩ : ∃ r : Nat, dd % 4 = (r : Int) ∧ r < 4 := ⟨(dd % 4).toNat, by omega, by omega⟩
       clear hcI
       have hVl : w.heap.size + 1 < wr.heap.size := by omega
       by_cases hj4 : j = 4
       ·
        have uj : ((j : Int) == 4) = true := by rw [beq_iff_eq]; omega
        clear hj4
        go_upto_region 23 with fail
        go_cut [94] (fun s94 wy => s94 = .bool true ∧ Below wr.heap.size wr wy)
        case first =>
         go_quiet (fail)
         all_goals
          go_wp2_with fail
          go_meet
          exact ⟨rfl, by first | exact Below.refl _ _ | exact (Below.refl _ _).drew | exact below_drewN (Below.refl _ _) _⟩
        case rest =>
         obtain ⟨rfl, hb94⟩ := hcut
         have HB94 := Lib.hid hb94
         clear hb94
         go_wp2_with fail
         go_meet
         exact DONE.out.onto HB94.out hVl
       ·
        have uj : ((j : Int) == 4) = false := by rw [beq_eq_false_iff_ne]; omega
        have hj3 : j < 4 := by omega
        clear hj4
        by_cases hat : k + 1 + r < M
        ·
         have ug : decide ((M : Int) ≤ (k : Int) + 1 + (r : Int)) = false := decide_eq_false (by omega)
         obtain ⟨x, B, d, B', d', k6, hxn, hxt⟩ := Hal.out.at_ hat
         obtain ⟨y0, y1, y2, y3, y4, y5⟩ := k6
         have hsx := hxn.size
         have hsl := Hnice.out.size
         have HXN := Lib.hid hxn
         have HXT := Lib.hid (show TV wr (· < wr.heap.size) x B d B' d' from hxt.wide fun b hb => by show b < wr.heap.size; omega)
         have HXT0 := Lib.hid hxt
         have HLT := Lib.hid (show TV wr (· < wr.heap.size) (T.ofObj l ks) A2 d2 K2 e2 from Hcoll.out.wide fun b hb => hb.2.1)
         have HSS := Lib.hid (show ∀ w', Below wr.heap.size wr w' → w'.cell? ⟨lim + 1, 0, none⟩ = some (.int .i64 5) ∧ w'.cell? ⟨lim + 1, 1, none⟩ = some (.bool false) ∧ w'.cell? ⟨lim + 1, 2, none⟩ = some (.int .i64 0) ∧ w'.cell? ⟨lim + 1, 3, none⟩ = some (.string ⟨#[]⟩) ∧ w'.cell? ⟨lim + 1, 4, none⟩ = some (.slice A2 l.length d2) ∧ w'.cell? ⟨lim + 1, 5, none⟩ = some (.slice K2 ks.length e2) ∧
          w'.cell? ⟨w.heap.size + 1, (k + 1 + r) * 6, none⟩ = some (.int .i64 x.kind) ∧ w'.cell? ⟨w.heap.size + 1, (k + 1 + r) * 6 + 1, none⟩ = some (.bool x.tr) ∧ w'.cell? ⟨w.heap.size + 1, (k + 1 + r) * 6 + 2, none⟩ = some (.int .i64 x.num) ∧ w'.cell? ⟨w.heap.size + 1, (k + 1 + r) * 6 + 3, none⟩ = some (.string x.str) ∧ w'.cell? ⟨w.heap.size + 1, (k + 1 + r) * 6 + 4, none⟩ = some (.slice B x.items.length d) ∧ w'.cell? ⟨w.heap.size + 1, (k + 1 + r) * 6 + 5, none⟩ = some (.slice B' x.keys.length d') from fun w' hb => by
           have a1 : lim + 1 < wr.heap.size := by omega
           exact ⟨(hb.cell (p := ⟨lim + 1, 0, none⟩) a1).trans g0, (hb.cell (p := ⟨lim + 1, 1, none⟩) a1).trans g1, (hb.cell (p := ⟨lim + 1, 2, none⟩) a1).trans g2, (hb.cell (p := ⟨lim + 1, 3, none⟩) a1).trans g3, (hb.cell (p := ⟨lim + 1, 4, none⟩) a1).trans g4, (hb.cell (p := ⟨lim + 1, 5, none⟩) a1).trans g5,
            (hb.cell (p := ⟨w.heap.size + 1, _, none⟩) hVl).trans y0, (hb.cell (p := ⟨w.heap.size + 1, _, none⟩) hVl).trans y1, (hb.cell (p := ⟨w.heap.size + 1, _, none⟩) hVl).trans y2, (hb.cell (p := ⟨w.heap.size + 1, _, none⟩) hVl).trans y3, (hb.cell (p := ⟨w.heap.size + 1, _, none⟩) hVl).trans y4, (hb.cell (p := ⟨w.heap.size + 1, _, none⟩) hVl).trans y5⟩)
         have n0 : (0 : Int) ≤ (k : Int) + 1 + (r : Int) := by omega
         have n1 : (k : Int) + 1 + (r : Int) < (M : Int) := by omega
         have ws : IntKind.i64.wrap (((T.ofObj l ks).size : Int) + (x.size : Int)) = ((T.ofObj l ks).size : Int) + (x.size : Int) := IntWalk.i64_in _ (by omega)
         have tn : ((k : Int) + 1 + (r : Int)).toNat = k + 1 + r := by omega
         clear hxn hxt
         go_upto_region 23 with fail
         go_cut [94] (fun s94 wy => s94 = .bool (decide ((40 : Int) < ((T.ofObj l ks).size : Int) + (x.size : Int))) ∧ Below wr.heap.size wr wy)
         case first =>
          have HBc := Lib.hid (Below.refl wr.heap.size wr)
          go_region_held3 (fun w' => w'.cell? ⟨lim + 1, 0, none⟩ = some (.int .i64 5) ∧ w'.cell? ⟨lim + 1, 1, none⟩ = some (.bool false) ∧ w'.cell? ⟨lim + 1, 2, none⟩ = some (.int .i64 0) ∧ w'.cell? ⟨lim + 1, 3, none⟩ = some (.string ⟨#[]⟩) ∧ w'.cell? ⟨lim + 1, 4, none⟩ = some (.slice A2 l.length d2) ∧ w'.cell? ⟨lim + 1, 5, none⟩ = some (.slice K2 ks.length e2) ∧
          w'.cell? ⟨w.heap.size + 1, (k + 1 + r) * 6, none⟩ = some (.int .i64 x.kind) ∧ w'.cell? ⟨w.heap.size + 1, (k + 1 + r) * 6 + 1, none⟩ = some (.bool x.tr) ∧ w'.cell? ⟨w.heap.size + 1, (k + 1 + r) * 6 + 2, none⟩ = some (.int .i64 x.num) ∧ w'.cell? ⟨w.heap.size + 1, (k + 1 + r) * 6 + 3, none⟩ = some (.string x.str) ∧ w'.cell? ⟨w.heap.size + 1, (k + 1 + r) * 6 + 4, none⟩ = some (.slice B x.items.length d) ∧ w'.cell? ⟨w.heap.size + 1, (k + 1 + r) * 6 + 5, none⟩ = some (.slice B' x.keys.length d'))
           (first
            | with_reducible exact HSS.out _ HBc.out
            | with_reducible exact HSS.out _ (below_drewN HBc.out _)
            | exact HSS.out _ HBc.out.drew
            | go_keep)
           (first
            | (
             go_at_call 22
             with_reducible refine (rsize_obj l ks A2 d2 K2 e2 _ (by omega) (HLT.out.on ?_)).mono ?_
             · first | with_reducible exact HBc.out | with_reducible exact below_drewN HBc.out _ | exact HBc.out.drew
             rintro e5 w5 ⟨rfl, hb5⟩
             have HBc := Lib.hid (show Below wr.heap.size wr w5 from by first | with_reducible exact HBc.out.trans (hb5.mono HBc.out.size) | with_reducible exact (below_drewN HBc.out _).trans (hb5.mono HBc.out.size) | exact HBc.out.drew.trans (hb5.mono HBc.out.size))
             clear hb5)
            | (
             go_at_call 22
             with_reducible refine (rsize_cells x B d B' d' _ (by omega) (HXT.out.on ?_)).mono ?_
             · first | with_reducible exact HBc.out | with_reducible exact below_drewN HBc.out _ | exact HBc.out.drew
             rintro e6 w6 ⟨rfl, hb6⟩
             have HBc := Lib.hid (show Below wr.heap.size wr w6 from by first | with_reducible exact HBc.out.trans (hb6.mono HBc.out.size) | with_reducible exact (below_drewN HBc.out _).trans (hb6.mono HBc.out.size) | exact HBc.out.drew.trans (hb6.mono HBc.out.size))
             clear hb6))
          all_goals
           go_wp2_with fail
           go_meet
           exact ⟨rfl, HBc.out⟩
         case rest =>
          obtain ⟨rfl, hb94⟩ := hcut
          have HB94 := Lib.hid hb94
          clear hb94
          by_cases hs : 40 < (T.ofObj l ks).size + x.size
          ·
           have us : decide ((40 : Int) < ((T.ofObj l ks).size : Int) + (x.size : Int)) = true := decide_eq_true (by omega)
           go_wp2_with fail
           go_meet
           exact DONE.out.onto HB94.out hVl
          ·
           have us : decide ((40 : Int) < ((T.ofObj l ks).size : Int) + (x.size : Int)) = false := decide_eq_false (by omega)
           have hcell := HSS.out _ HB94.out
           have HbgC := Lib.hid (Hbg.out.onto HB94.out)
           have HbxC := Lib.hid (Hbx.out.onto HB94.out)
           have HalC := Lib.hid (Hal.out.onto HB94.out hVl (by omega))
           have HresC := Lib.hid (Hres.out.onto HB94.out)
           have HbelC := Lib.hid (Hbel.out.trans (HB94.out.mono Hbel.out.size))
           have HXTC := Lib.hid (show TV wc (fun b => w.heap.size + 2 ≤ b ∧ b < wc.heap.size ∧ b ≠ lim + 1) x B d B' d' from (HXT0.out.keep fun b hb => HB94.out.block b (by omega)).wide fun b hb => by have := HB94.out.size; omega)
           have HLTC := Lib.hid (show TV wc (fun b => w.heap.size + 2 ≤ b ∧ b < wc.heap.size ∧ b ≠ lim + 1) (T.ofObj l ks) A2 d2 K2 e2 from (Hcoll.out.keep fun b hb => HB94.out.block b hb.2.1).wide fun b hb => by have := HB94.out.size; omega)
           have hszC : lim + 2 ≤ wc.heap.size := by have := HB94.out.size; omega
           have hVC : w.heap.size + 1 < wc.heap.size := by omega
           have x4 : wc.cell? ⟨lim, 4, none⟩ = some (.slice K mk ck) := HbxC.out.cell 4
           clear g0 g1 g2 g3 g4 g5 f4 y0 y1 y2 y3 y4 y5 DONE HLT HXT HXT0 HSS HB94 Hbg Hbx Hal Hres Hbel ws
           clear Hcoll eI hlim hVl wr
           obtain ⟨g0, g1, g2, g3, g4, g5, y0, y1, y2, y3, y4, y5⟩ := hcell
           obtain ⟨wb, rfl⟩ : ∃ wb : World, wb = wc := ⟨_, rfl⟩
           go_upto_if 111 with fail
           go_cut [10] (fun s10 wy => KeyCut wb s10 wy)
           case first =>
            by_cases hjk : j < mk
            ·
             have v1 : decide (j < mk) = true := decide_eq_true hjk
             have v2 : decide ((j : Int) < (mk : Int)) = true := decide_eq_true (by omega)
             obtain ⟨bK, oK, sK, rfl, hbK, hcK⟩ := HK.out j hjk
             have eK := ((Keeps.of_below HbelC.out).cell hbK (oK + j)).trans hcK
             clear hcK
             go_wp2_with fail
             refine (ltext_any _ _).mono ?_
             rintro e w2 ⟨⟨q, rfl, hq, h60⟩, hb2⟩
             have HQ := Lib.hid hq
             have HB2 := Lib.hid hb2
             clear hq hb2
             go_wp2_with fail
             go_meet
             exact ⟨q, rfl, HQ.out, h60, HB2.out⟩
            ·
             have v1 : decide (j < mk) = false := decide_eq_false hjk
             have v2 : decide ((j : Int) < (mk : Int)) = false := decide_eq_false (by omega)
             have HQ := Lib.hid (okText_one 97 (by decide))
             go_wp2_with fail
             go_meet
             exact ⟨_, rfl, HQ.out, by decide, Below.refl _ _⟩
           case rest =>
            obtain ⟨q, rfl, hq, h60, hbq⟩ := hcut
            have HQ := Lib.hid hq
            have hsq := hbq.size
            have a1 : lim + 1 < wb.heap.size := by omega
            have g0 := (hbq.cell (p := ⟨lim + 1, 0, none⟩) a1).trans g0
            have g1 := (hbq.cell (p := ⟨lim + 1, 1, none⟩) a1).trans g1
            have g2 := (hbq.cell (p := ⟨lim + 1, 2, none⟩) a1).trans g2
            have g3 := (hbq.cell (p := ⟨lim + 1, 3, none⟩) a1).trans g3
            have g4 := (hbq.cell (p := ⟨lim + 1, 4, none⟩) a1).trans g4
            have g5 := (hbq.cell (p := ⟨lim + 1, 5, none⟩) a1).trans g5
            have y0 := (hbq.cell (p := ⟨w.heap.size + 1, (k + 1 + r) * 6, none⟩) hVC).trans y0
            have y1 := (hbq.cell (p := ⟨w.heap.size + 1, (k + 1 + r) * 6 + 1, none⟩) hVC).trans y1
            have y2 := (hbq.cell (p := ⟨w.heap.size + 1, (k + 1 + r) * 6 + 2, none⟩) hVC).trans y2
            have y3 := (hbq.cell (p := ⟨w.heap.size + 1, (k + 1 + r) * 6 + 3, none⟩) hVC).trans y3
            have y4 := (hbq.cell (p := ⟨w.heap.size + 1, (k + 1 + r) * 6 + 4, none⟩) hVC).trans y4
            have y5 := (hbq.cell (p := ⟨w.heap.size + 1, (k + 1 + r) * 6 + 5, none⟩) hVC).trans y5
            have HbgD := Lib.hid (HbgC.out.onto hbq)
            have HbxD := Lib.hid (HbxC.out.onto hbq)
            have HalD := Lib.hid (HalC.out.onto hbq hVC (by omega))
            have HresD := Lib.hid (HresC.out.onto hbq)
            have HbelD := Lib.hid (HbelC.out.trans (hbq.mono HbelC.out.size))
            have HXTD := Lib.hid (show TV wc (fun b => w.heap.size + 2 ≤ b ∧ b < wc.heap.size ∧ b ≠ lim + 1) x B d B' d' from (HXTC.out.keep fun b hb => hbq.block b hb.2.1).wide fun b hb => by omega)
            have HLTD := Lib.hid (show TV wc (fun b => w.heap.size + 2 ≤ b ∧ b < wc.heap.size ∧ b ≠ lim + 1) (T.ofObj l ks) A2 d2 K2 e2 from (HLTC.out.keep fun b hb => hbq.block b hb.2.1).wide fun b hb => by omega)
            have hszD : lim + 2 ≤ wc.heap.size := by omega
            clear hq hbq HbgC HbxC HalC HresC HbelC HXTC HLTC x4 hszC hVC hsq a1 HK
            go_upto_region 29 with fail
            go_region_with (
             (
              go_at_call 23
              with_reducible refine (put_obj (fun b => w.heap.size + 2 ≤ b ∧ b < wc.heap.size ∧ b ≠ lim + 1) l ks x A2 d2 K2 e2 B d B' d' q _ Hnice.out HXN.out ?_ HQ.out h60 ?_ ?_ ?_).mono ?_
              · omega
              · exact fun b hb => hb.2.1
              · exact HLTD.out.keep fun b _ => rfl
              · exact HXTD.out.keep fun b _ => rfl
              rintro e5 w5 ⟨l5, ks5, C, f, C', f', b5, rfl, hn5, ht5, hb5⟩
              have hb5 : Below wc.heap.size wc w5 := by first | exact (Below.refl wc.heap.size wc).trans hb5 | exact (Below.refl wc.heap.size wc).drew.trans hb5 | exact (below_drewN (Below.refl wc.heap.size wc) _).trans hb5
              have hbg5 := HbgD.out.onto hb5
              have s0 : w5.cell? ⟨lim + 1, 0, none⟩ = some (.int .i64 5) := hbg5.cell 0
              have s1 : w5.cell? ⟨lim + 1, 1, none⟩ = some (.bool false) := hbg5.cell 1
              have s2 : w5.cell? ⟨lim + 1, 2, none⟩ = some (.int .i64 0) := hbg5.cell 2
              have s3 : w5.cell? ⟨lim + 1, 3, none⟩ = some (.string ⟨#[]⟩) := hbg5.cell 3
              have s4 : w5.cell? ⟨lim + 1, 4, none⟩ = some (.slice A2 l.length d2) := hbg5.cell 4
              have s5 : w5.cell? ⟨lim + 1, 5, none⟩ = some (.slice K2 ks.length e2) := hbg5.cell 5
              have fs0 := hbg5.free 0
              have fs1 := hbg5.free 1
              have fs2 := hbg5.free 2
              have fs3 := hbg5.free 3
              have fs4 := hbg5.free 4
              have fs5 := hbg5.free 5
              have Hbg5 := Lib.hid hbg5
              have HB5 := Lib.hid hb5
              have HN5 := Lib.hid hn5
              have HT5 := Lib.hid ht5
              clear hbg5 hb5 hn5 ht5))
            all_goals
             go_wp2_with fail
             go_roundg (4 - (j + 1))
             case measure => omega
             case rel =>
              obtain ⟨l7, ks7, A7, d7, K7, e7, ht7, hn7, hbg7, hk7, hb7, hz7⟩ := PutDone.of HT5.out HN5.out Hbg5.out rfl HB5.out (HbelD.out.trans (HB5.out.mono HbelD.out.size)) hszD hsz
              refine ⟨j + 1, l7, ks7, A7, d7, K7, e7, by omega, rfl, by go_num, ht7, hn7, hbg7, ?_, ?_, ?_, hb7, hz7⟩
              · exact (hk7 lim (by omega)).trans HbxD.out
              · exact HalD.out.keep fun b hb => hk7 b (by omega)
              · exact (hk7 w.heap.size (by omega)).trans HresD.out
        ·
         have ug : decide ((M : Int) ≤ (k : Int) + 1 + (r : Int)) = true := decide_eq_true (by omega)
         go_upto_region 23 with fail
         go_cut [94] (fun s94 wy => s94 = .bool true ∧ Below wr.heap.size wr wy)
         case first =>
          go_quiet (fail)
          all_goals
           go_wp2_with fail
           go_meet
           exact ⟨rfl, by first | exact Below.refl _ _ | exact (Below.refl _ _).drew | exact below_drewN (Below.refl _ _) _⟩
         case rest =>
          obtain ⟨rfl, hb94⟩ := hcut
          have HB94 := Lib.hid hb94
          clear hb94
          go_wp2_with fail
          go_meet
          exact DONE.out.onto HB94.out hVl
      ·
       have u1 : decide (j < mi) = false := decide_eq_false hjm
       go_wp2_with fail
       go_meet
       exact DONE.out
   case rest =>
    obtain ⟨⟨t, B, d, B', d', hbg, hnice, htv⟩, hal, hres, hbel, hlim⟩ := hcut
    have q0 : wc.cell? ⟨lim + 1, 0, none⟩ = some (.int .i64 t.kind) := hbg.cell 0
    have q1 : wc.cell? ⟨lim + 1, 1, none⟩ = some (.bool t.tr) := hbg.cell 1
    have q2 : wc.cell? ⟨lim + 1, 2, none⟩ = some (.int .i64 t.num) := hbg.cell 2
    have q3 : wc.cell? ⟨lim + 1, 3, none⟩ = some (.string t.str) := hbg.cell 3
    have q4 : wc.cell? ⟨lim + 1, 4, none⟩ = some (.slice B t.items.length d) := hbg.cell 4
    have q5 : wc.cell? ⟨lim + 1, 5, none⟩ = some (.slice B' t.keys.length d') := hbg.cell 5
    obtain ⟨cs, hv, hvz⟩ := hal.blk
    obtain ⟨v0, v1, v2, v3, v4, v5, p0, p1, p2, p3, p4, p5⟩ := hv.six (o := k * 6) (by omega)
    have z0 := hv.free (k * 6)
    have z1 := hv.free (k * 6 + 1)
    have z2 := hv.free (k * 6 + 2)
    have z3 := hv.free (k * 6 + 3)
    have z4 := hv.free (k * 6 + 4)
    have z5 := hv.free (k * 6 + 5)
    have HST := Lib.hid ((hal.wide (show lim ≤ wc.heap.size by omega)).put (by omega) (show k < M by omega) hnice (htv.wide fun b hb => ⟨hb.1, hb.2.1⟩))
    have HRS := Lib.hid hres
    have HBL := Lib.hid hbel
    clear hv hvz hal hres hbel hbg htv hnice
    go_wp2_with fail
    go_roundg k
    case measure => omega
    case rel =>
     refine ⟨k, by omega, rfl, rfl, by simp [World.setCell]; omega, HST.out.wide (Nat.le_of_eq (by simp [World.setCell])), ?_, (((((HBL.out.setCell (Nat.le_succ _) _).setCell (Nat.le_succ _) _).setCell (Nat.le_succ _) _).setCell (Nat.le_succ _) _).setCell (Nat.le_succ _) _).setCell (Nat.le_succ _) _⟩
     have hne : w.heap.size ≠ w.heap.size + 1 := by omega
     exact (((((HRS.out.far hne _).far hne _).far hne _).far hne _).far hne _).far hne _
  ·
   obtain rfl : gk = 0 := by omega
   have u1 : decide ((0 : Int) ≤ ((0 : Nat) : Int) - 1) = false := by decide
   obtain ⟨t, B, d, B', d', h6, hnice, htv⟩ := Hal.out.at_ hM1
   rw [Nat.zero_mul] at h6
   obtain ⟨e0, e1, e2, e3, e4, e5⟩ := h6
   have r0 : wr.cell? ⟨w.heap.size, 0, none⟩ = some (.int .i64 0) := Hres.out.cell 0
   have r1 : wr.cell? ⟨w.heap.size, 1, none⟩ = some (.bool false) := Hres.out.cell 1
   have r2 : wr.cell? ⟨w.heap.size, 2, none⟩ = some (.int .i64 0) := Hres.out.cell 2
   have r3 : wr.cell? ⟨w.heap.size, 3, none⟩ = some (.string ⟨#[]⟩) := Hres.out.cell 3
   have r4 : wr.cell? ⟨w.heap.size, 4, none⟩ = some (.slice none 0 0) := Hres.out.cell 4
   have r5 : wr.cell? ⟨w.heap.size, 5, none⟩ = some (.slice none 0 0) := Hres.out.cell 5
   have x0 := Hres.out.free 0
   have x1 := Hres.out.free 1
   have x2 := Hres.out.free 2
   have x3 := Hres.out.free 3
   have x4 := Hres.out.free 4
   have x5 := Hres.out.free 5
   have HTV := Lib.hid htv
   have HNI := Lib.hid hnice
   clear htv hnice
   go_wp2_with fail
   have hF := res_put Hres.out rfl t B d B' d'
   have hK : Keeps (fun b => b ≠ w.heap.size) wr ((((((wr.setCell ⟨w.heap.size, 0, none⟩ (.int .i64 t.kind)).setCell ⟨w.heap.size, 1, none⟩ (.bool t.tr)).setCell ⟨w.heap.size, 2, none⟩ (.int .i64 t.num)).setCell ⟨w.heap.size, 3, none⟩ (.string t.str)).setCell ⟨w.heap.size, 4, none⟩ (.slice B t.items.length d)).setCell ⟨w.heap.size, 5, none⟩ (.slice B' t.keys.length d')) := by
    intro b hb
    rw [Below.heap_setCell _ _ _ _ hb, Below.heap_setCell _ _ _ _ hb, Below.heap_setCell _ _ _ _ hb, Below.heap_setCell _ _ _ _ hb, Below.heap_setCell _ _ _ _ hb, Below.heap_setCell _ _ _ _ hb]
   have hZ : (((((((wr.setCell ⟨w.heap.size, 0, none⟩ (.int .i64 t.kind)).setCell ⟨w.heap.size, 1, none⟩ (.bool t.tr)).setCell ⟨w.heap.size, 2, none⟩ (.int .i64 t.num)).setCell ⟨w.heap.size, 3, none⟩ (.string t.str)).setCell ⟨w.heap.size, 4, none⟩ (.slice B t.items.length d)).setCell ⟨w.heap.size, 5, none⟩ (.slice B' t.keys.length d'))).heap.size = wr.heap.size := by simp [World.setCell]
   have hE : Below w.heap.size w ((((((wr.setCell ⟨w.heap.size, 0, none⟩ (.int .i64 t.kind)).setCell ⟨w.heap.size, 1, none⟩ (.bool t.tr)).setCell ⟨w.heap.size, 2, none⟩ (.int .i64 t.num)).setCell ⟨w.heap.size, 3, none⟩ (.string t.str)).setCell ⟨w.heap.size, 4, none⟩ (.slice B t.items.length d)).setCell ⟨w.heap.size, 5, none⟩ (.slice B' t.keys.length d')) := (((((Hbel.out.setCell (Nat.le_refl _) _).setCell (Nat.le_refl _) _).setCell (Nat.le_refl _) _).setCell (Nat.le_refl _) _).setCell (Nat.le_refl _) _).setCell (Nat.le_refl _) _
   generalize ((((((wr.setCell ⟨w.heap.size, 0, none⟩ (.int .i64 t.kind)).setCell ⟨w.heap.size, 1, none⟩ (.bool t.tr)).setCell ⟨w.heap.size, 2, none⟩ (.int .i64 t.num)).setCell ⟨w.heap.size, 3, none⟩ (.string t.str)).setCell ⟨w.heap.size, 4, none⟩ (.slice B t.items.length d)).setCell ⟨w.heap.size, 5, none⟩ (.slice B' t.keys.length d')) = Wf at *
   have m0 : Wf.cell? ⟨w.heap.size, 0, none⟩ = some (.int .i64 t.kind) := hF.cell 0
   have m1 : Wf.cell? ⟨w.heap.size, 1, none⟩ = some (.bool t.tr) := hF.cell 1
   have m2 : Wf.cell? ⟨w.heap.size, 2, none⟩ = some (.int .i64 t.num) := hF.cell 2
   have m3 : Wf.cell? ⟨w.heap.size, 3, none⟩ = some (.string t.str) := hF.cell 3
   have m4 : Wf.cell? ⟨w.heap.size, 4, none⟩ = some (.slice B t.items.length d) := hF.cell 4
   have m5 : Wf.cell? ⟨w.heap.size, 5, none⟩ = some (.slice B' t.keys.length d') := hF.cell 5
   refine bodyPost_ret (v := .agg #[.int .i64 t.kind, .bool t.tr, .int .i64 t.num, .string t.str, .slice B t.items.length d, .slice B' t.keys.length d']) (by simp [results, Tryz.results7, go_sem, m0, m1, m2, m3, m4, m5]) rfl ⟨t, B, d, B', d', rfl, HNI.out, ?_, hE⟩
   exact (HTV.out.keep (hK.mono fun b hb => by have := hb.1; omega)).wide fun b hb => by show b < Wf.heap.size; rw [hZ]; exact hb.2
theorem tree_any (A : Option Addr) (n c : Nat) (w : World) (hnc : n ≤ c) (hcm : c ≤ maxLen) (hN : Nodes w (· < w.heap.size) A n) : Calls Tryz.prog 7 #[.slice A n c] w (TreePost w) := by
 rcases Nat.eq_zero_or_pos n with rfl | hn
 · exact tree_none A c w
 · exact tree_some A n c w hn hnc (by omega) hcm hN
end Go.Proofs.YtaeimlfehlbiiaaGreatDoor
