/- What a change of one field leaves of a value: lemmas for ValueGoods. -/
import Derived.Test.YtleikaiokoahdaaLTree
import Derived.Test.YtleikaiokoahdaaRgood
import Derived.Test.YtleikaiokoahdaaGood
import Derived.Test.YtleikaiokoahdaaGoodNo
import Derived.Test.YtleikaiokoahdaaNode
import Derived.Test.YtleikaiokoahdaaOpen
import Derived.Test.YtleikaiokoahdaaCells
import Derived.Test.YtleikaiokoahdaaAwake
import Derived.Test.YtleikaiokoahdaaTwo
namespace Go.Proofs.Ytleikaiokoahdaa
open Go.RowKit
set_option linter.unusedVariables false
theorem vgood_b (b : Bool) (t : T) (A : Option Addr) (c : Nat) (A' : Option Addr) (c' : Nat) (w : World) (hg : b = true ↔ t.Good) (ht : t.size ≤ 100000) (hs : t.Small) (hv : TV w (· < w.heap.size) t A c A' c') :
    Calls Try.prog 8 #[.agg #[.int .i64 t.kind, .bool t.tr, .int .i64 t.num, .string t.str, .slice A t.items.length c, .slice A' t.keys.length c']] w fun e w' => e = .returned (.bool b) ∧ Below w.heap.size w w' := by
  cases b with
  | true => exact vgood_yes t A c A' c' w ht (hg.1 rfl) hv
  | false => exact vgood_no t A c A' c' w ht hs (fun h => by have := hg.2 h; cases this) hv
theorem rgood_b (b : Bool) (t : T) (A : Option Addr) (c : Nat) (A' : Option Addr) (c' : Nat) (w : World) (hg : b = true ↔ t.Good) (ht : t.size ≤ 100000) (hs : t.Small) (hm : T.All Mild t) (hv : TV w (· < w.heap.size) t A c A' c') :
    Calls Try.prog 9 #[.agg #[.int .i64 t.kind, .bool t.tr, .int .i64 t.num, .string t.str, .slice A t.items.length c, .slice A' t.keys.length c']] w fun e w' => e = .returned (.bool b) ∧ Below w.heap.size w w' := by
  cases b with
  | true => exact rgood_yes t A c A' c' w ht hs hm (hg.1 rfl) hv
  | false => exact rgood_no t A c A' c' w ht hs hm (fun h => by have := hg.2 h; cases this) hv
theorem TV.same {w : World} {S : Nat → Prop} {t t' : T} {A : Option Addr} {c : Nat} {A' : Option Addr} {c' : Nat} (h : TV w S t A c A' c') (hi : t'.items = t.items) (hk : t'.keys = t.keys) : TV w S t' A c A' c' := by
  refine TV.of (by rw [hi]; exact h.lens.1) (by rw [hk]; exact h.lens.2) ?_ (by rw [hk]; exact h.keys)
  rw [hi]
  exact h.row
theorem T.Nice.mild {t : T} (h : t.Nice) : T.All Mild t := h.fit.imp fun t f => ⟨by have := f.str; omega, fun s hs => by have := f.keys s hs; omega⟩
theorem T.Nice.keys40 {t : T} (h : t.Nice) : t.keys.length ≤ 40 := by
  have g := h.good.here
  have h1 := T.len_size t
  have h2 := h.size
  by_cases h5 : t.kind = 5
  · rw [g.lens h5]; omega
  · rw [g.keys h5]; exact Nat.zero_le _
/-- what stands in box G behind the change -/
def Changed (G : Nat) (W wy : World) : Prop := ∃ (t : T) (A : Option Addr) (c : Nat) (A' : Option Addr) (c' : Nat), Blk wy G 30 #[.int .i64 t.kind, .bool t.tr, .int .i64 t.num, .string t.str, .slice A t.items.length c, .slice A' t.keys.length c'] ∧ TV wy (· < wy.heap.size) t A c A' c' ∧ t.Small ∧ T.All Mild t ∧ t.size ≤ 100000 ∧ Below G W wy
theorem small_same {t t' : T} (h : t.Small) (hi : t'.items = t.items) (hk : t'.keys.length ≤ 100000) : t'.Small := .mk _ hk fun x hx => h.mem (hi ▸ hx)
theorem mild_same {t t' : T} (h : T.All Mild t) (hi : t'.items = t.items) (hs : t'.str.size ≤ 100000) (hk : ∀ s ∈ t'.keys, s.size ≤ 100000) : T.All Mild t' := .mk _ ⟨hs, hk⟩ fun x hx => h.mem (hi ▸ hx)
/-- a change of one of the first four fields -/
theorem Changed.leaf {G : Nat} {W : World} {t : T} {A : Option Addr} {c : Nat} {A' : Option Addr} {c' : Nat} (hb : Blk W G 30 #[.int .i64 t.kind, .bool t.tr, .int .i64 t.num, .string t.str, .slice A t.items.length c, .slice A' t.keys.length c']) (hv : TV W (· < G) t A c A' c') (hn : t.Nice) (t' : T) (i : Nat) (v : Value)
    (he : (#[.int .i64 t.kind, .bool t.tr, .int .i64 t.num, .string t.str, .slice A t.items.length c, .slice A' t.keys.length c'] : Array Value).setIfInBounds i v = #[.int .i64 t'.kind, .bool t'.tr, .int .i64 t'.num, .string t'.str, .slice A t'.items.length c, .slice A' t'.keys.length c']) (hi : t'.items = t.items) (hk : t'.keys = t.keys) (hs : t'.str.size ≤ 100000) : Changed G W (W.setCell ⟨G, i, none⟩ v) := by
  have hz : (W.setCell ⟨G, i, none⟩ v).heap.size = W.heap.size := by simp [World.setCell]
  have hlt := hb.lt
  refine ⟨t', A, c, A', c', ?_, ?_, small_same hn.small hi (by rw [hk]; exact hn.small.here), mild_same hn.mild hi hs (by rw [hk]; exact hn.mild.here.keys), ?_, (Below.refl G W).setCell (show G ≤ (⟨G, i, none⟩ : Addr).block from Nat.le_refl _) _⟩
  · have := hb.set_ i v
    rw [he] at this
    exact this
  · exact ((hv.keep fun b hb' => Below.heap_setCell _ _ _ _ (by show b ≠ G; have : b < G := hb'; omega)).wide fun b hb' => by show b < (W.setCell ⟨G, i, none⟩ v).heap.size; rw [hz]; have : b < G := hb'; omega).same hi hk
  · rw [T.size_eq, hi, ← T.size_eq]; exact hn.le
/-- a part that is a kind alone -/
def T.ofKind (k : Int) : T := .mk k false 0 ⟨#[]⟩ [] []
def T.more (t : T) (x : T) : T := .mk t.kind t.tr t.num t.str (t.items ++ [x]) t.keys
def T.key (t : T) (s : ByteArray) : T := .mk t.kind t.tr t.num t.str t.items (t.keys ++ [s])
/-- one more item -/
theorem Changed.item {G : Nat} {W w3 : World} {t : T} {A : Option Addr} {c : Nat} {A' : Option Addr} {c' : Nat} (hb : Blk W G 30 #[.int .i64 t.kind, .bool t.tr, .int .i64 t.num, .string t.str, .slice A t.items.length c, .slice A' t.keys.length c']) (hv : TV W (· < G) t A c A' c') (hn : t.Nice) (k : Int) {xs : List Value} {B : Option Addr} {d : Nat}
    (hc : Cells W (· < G) t.items xs) (ho : w3.ownsRow W.heap.size 30 6 (.slice B (t.items.length + 1) d) (t.items.length + 1) (xs ++ [.int .i64 k, .bool false, .int .i64 0, .string ⟨#[]⟩, .slice none 0 0, .slice none 0 0])) (h3 : Below W.heap.size W w3) : Changed G W (w3.setCell ⟨G, 4, none⟩ (.slice B (t.items.length + 1) d)) := by
  have hlt := hb.lt
  have hz : (w3.setCell ⟨G, 4, none⟩ (.slice B (t.items.length + 1) d)).heap.size = w3.heap.size := by simp [World.setCell]
  have hz2 : ∀ v, (w3.setCell ⟨G, 4, none⟩ v).heap.size = w3.heap.size := fun v => by simp [World.setCell]
  have hs3 := h3.size
  have e : (t.items ++ [T.ofKind k]).length = t.items.length + 1 := by simp
  have hcc : Cells W (· < G) (t.items ++ [T.ofKind k]) (xs ++ [.int .i64 k, .bool false, .int .i64 0, .string ⟨#[]⟩, .slice none 0 0, .slice none 0 0]) := hc.append (Cells.one (x := T.ofKind k) (TV.leaf (t := T.ofKind k) W _ rfl rfl))
  rw [← e] at ho ⊢
  have hcoll : Coll 30 w3 W.heap.size (· = G) (t.items ++ [T.ofKind k]) (.slice B (t.items ++ [T.ofKind k]).length d) (xs ++ [.int .i64 k, .bool false, .int .i64 0, .string ⟨#[]⟩, .slice none 0 0, .slice none 0 0]) :=
    ⟨fun b hb' e1 => by have := (ho.lt b hb').1; omega, ho, fun i x hx => by
      obtain ⟨C, f, C', f', h1, h2⟩ := hcc.2.2 i x hx
      exact ⟨C, f, C', f', h1, (h2.keep fun b hb' => h3.block b (by have : b < G := hb'; omega)).wide fun b hb' => by
        have : b < G := hb'
        exact ⟨by omega, by omega, fun e1 => by have := (ho.lt b e1.symm).1; omega⟩⟩⟩
  obtain ⟨_, h5, h6⟩ := (hcoll.set (p := ⟨G, 4, none⟩) rfl (.slice B (t.items ++ [T.ofKind k]).length d)).vreads
  have hkeep : ∀ b, b < G → (w3.setCell ⟨G, 4, none⟩ (.slice B (t.items ++ [T.ofKind k]).length d)).heap[b]? = W.heap[b]? := fun b hb' => (Below.heap_setCell _ _ _ _ (by show b ≠ G; omega)).trans (h3.block b (by omega))
  have hlen := T.len_size t
  have hsz := hn.size
  refine ⟨t.more (T.ofKind k), B, d, A', c', (hb.onto h3).set_ 4 _, ?_, .mk _ hn.small.here ?_, .mk _ ⟨hn.mild.here.str, hn.mild.here.keys⟩ ?_, ?_, (h3.mono (Nat.le_of_lt hlt)).setCell (Nat.le_refl _) _⟩
  · refine TV.of h5 hv.lens.2 (fun hne => ?_) ((hv.keys.keep hkeep).wide fun b hb' => by show b < _; rw [hz2]; have : b < G := hb'; omega)
    obtain ⟨b, o, e1, e2, e3⟩ := h6 hne
    exact ⟨b, o, e1, e2.1, fun i x hx => by
      obtain ⟨C, f, C', f', k1, k2⟩ := e3 i x hx
      exact ⟨C, f, C', f', k1, k2.wide fun b hb' => hb'.1⟩⟩
  · intro x hx
    rcases List.mem_append.1 (show x ∈ t.items ++ [T.ofKind k] from hx) with h | h
    · exact hn.small.mem h
    · obtain rfl : x = T.ofKind k := by simpa using h
      exact T.leaf_all (Nat.zero_le _) rfl
  · intro x hx
    rcases List.mem_append.1 (show x ∈ t.items ++ [T.ofKind k] from hx) with h | h
    · exact hn.mild.mem h
    · obtain rfl : x = T.ofKind k := by simpa using h
      exact T.leaf_all ⟨show 0 ≤ 100000 by omega, fun _ h => by cases h⟩ rfl
  · rw [T.size_eq] at hsz ⊢
    show 1 + T.sizes (t.items ++ [T.ofKind k]) ≤ 100000
    rw [T.sizes_append]
    show 1 + (T.sizes t.items + (1 + 0 + 0)) ≤ 100000
    omega
/-- one more key -/
theorem Changed.key {G : Nat} {W w3 : World} {t : T} {A : Option Addr} {c : Nat} {A' : Option Addr} {c' : Nat} (hb : Blk W G 30 #[.int .i64 t.kind, .bool t.tr, .int .i64 t.num, .string t.str, .slice A t.items.length c, .slice A' t.keys.length c']) (hv : TV W (· < G) t A c A' c') (hn : t.Nice) (s : ByteArray) (hs : s.size ≤ 100) {B : Option Addr} {d : Nat}
    (ho : w3.ownsRow W.heap.size 9 1 (.slice B (t.keys.length + 1) d) (t.keys.length + 1) (t.keys.map Value.string ++ [.string s])) (h3 : Below W.heap.size W w3) : Changed G W (w3.setCell ⟨G, 5, none⟩ (.slice B (t.keys.length + 1) d)) := by
  have hlt := hb.lt
  have hs3 := h3.size
  have e : (t.keys ++ [s]).length = t.keys.length + 1 := by simp
  have e2 : t.keys.map Value.string ++ [Value.string s] = (t.keys ++ [s]).map Value.string := by simp
  rw [← e, e2] at ho
  rw [← e]
  obtain ⟨B2, d2, e3, hd, hkk⟩ := own_keys ho
  injection e3 with e4 _ e5
  subst e4 e5
  have hk2 := hkk.set (p := ⟨G, 5, none⟩) (hb.onto h3) (by decide) (.slice B (t.keys ++ [s]).length d)
  have hkeep : ∀ b, b < G → (w3.setCell ⟨G, 5, none⟩ (.slice B (t.keys ++ [s]).length d)).heap[b]? = W.heap[b]? := fun b hb' => (Below.heap_setCell _ _ _ _ (by show b ≠ G; omega)).trans (h3.block b (by omega))
  have h40 := hn.keys40
  refine ⟨t.key s, A, c, B, d, (hb.onto h3).set_ 5 _, ?_, .mk _ (by show (t.keys ++ [s]).length ≤ 100000; rw [e]; omega) (fun x hx => hn.small.mem hx), .mk _ ⟨hn.mild.here.str, fun q hq => ?_⟩ (fun x hx => hn.mild.mem hx), ?_, (h3.mono (Nat.le_of_lt hlt)).setCell (Nat.le_refl _) _⟩
  · refine TV.of hv.lens.1 hd (fun hne => ?_) (hk2.sreads.wide fun b hb' => hb'.2)
    obtain ⟨b, o, e1, e2, e3⟩ := ((hv.keep hkeep).wide (S' := fun b => b < (w3.setCell ⟨G, 5, none⟩ (.slice B (t.keys ++ [s]).length d)).heap.size) fun b hb' => by have : b < G := hb'; simp [World.setCell]; omega).row hne
    exact ⟨b, o, e1, e2, e3⟩
  · rcases List.mem_append.1 (show q ∈ t.keys ++ [s] from hq) with h | h
    · exact hn.mild.here.keys q h
    · obtain rfl : q = s := by simpa using h
      omega
  · rw [T.size_eq]; have := hn.le; rw [T.size_eq] at this; exact this
end Go.Proofs.Ytleikaiokoahdaa
