/- The reference's Set: contract. -/
import Derived.Test.YthkpeomdklcnmaaDoorSets
import Derived.Test.YthkpeomdklcnmaaDoorReachS
import Derived.Test.YthkpeomdklcnmaaDoorRefv
import Derived.Test.YthkpeomdklcnmaaDoorRget
import Derived.Test.YthkpeomdklcnmaaDoorAppS
import Derived.Outline
namespace Go.Proofs.YthkpeomdklcnmaaDoor
open Go.RowKit
set_option linter.unusedVariables false

theorem app_vs {ops : Array Oper} {rest : List Oper} {o : Oper} {a : Act} {Q : Exit → Act → World → Prop} {w : World} (hgd : o.guard = none) (s x : Operand)
    (ho : o.op = .call { callee := .builtin .append, args := #[s, x], argTypes := #[26, 26] })
    (base : Nat) (v : Value) (hs : a.eval s = v) (hown : w.ownsRow base 28 6 v 0 []) (A : Option Addr) (n c : Nat) (xs : List Value) (hx : a.eval x = .slice A n c) (hsrc : Src w A n 6 xs) (h1 : ∀ u ∈ xs, u.oneCell' = true) (hn : n ≤ 100000) (hbase : base ≤ w.heap.size)
    (h : ∀ B d w', w'.ownsRow base 28 6 (.slice B n d) n xs → (∀ W, Below base W w → Below base W w') → w.grownBy w' v.ownBlock → wpList Tryd.prog ops Q rest (a.put o.dst (.slice B n d)) w') : wpList Tryd.prog ops Q (o :: rest) a w := by
  obtain ⟨i1, hi1, hy0, hy1, hy2⟩ := info_parts infoV
  refine app_list hgd s x 26 ho base 28 i1 (.agg #[.int .i64 0, .bool false, .int .i64 0, .string ⟨#[]⟩, .slice none 0 0, .slice none 0 0]) 6 88 Tryd.underlying26 hi1 hy0 hy1 hy2 rfl (by decide) v 0 [] hs hown A n c xs hx hsrc h1 (by unfold maxLen; omega) (by omega) hbase n (by omega) ?_
  intro B d w' h2 h3 _
  rw [List.nil_append] at h2
  exact h B d w' h2 (fun W hW => hW.grown h3 hbase (fun k hk => (hown.lt k hk).1)) h3
/-- a row of values that the call owns, its block known -/
theorem own_blk {w : World} {base n : Nat} {B : Option Addr} {d : Nat} {xs : List Value} (h : w.ownsRow base 28 6 (.slice B n d) n xs) (hn : 0 < n) : ∃ g cur, B = some ⟨g, 0, none⟩ ∧ base ≤ g ∧ Blk w g 28 cur ∧ n * 6 ≤ cur.size ∧ n ≤ d ∧ ∀ j, j < n * 6 → cur[j]? = xs[j]? := by
  rcases h.2 with ⟨he, h0⟩ | ⟨g, cap, cur, he, hb, hh, hle, hm, hs, ht⟩
  · omega
  · injection he with e1 e2 e3
    subst e1 e3
    refine ⟨g, cur, rfl, hb, hh, ?_, hle, fun j hj => ?_⟩
    · rw [hs]; exact Nat.mul_le_mul_right _ hle
    · rw [← ht, List.getElem?_take_of_lt hj, Array.getElem?_toList]
/-- the value in which another item stands, in the row whose cell was stored to -/
theorem tv_with {w : World} {g : Nat} {t z : T} {k : Nat} {cur : Array Value} {xs : List Value} {d : Nat} {A' : Option Addr} {c' : Nat} {D : Option Addr} {dd : Nat} {D' : Option Addr} {dd' : Nat} {S : Nat → Prop}
    (hk : k < t.items.length) (hb : Blk w g 28 cur) (hsz : t.items.length * 6 ≤ cur.size) (hd : t.items.length ≤ d) (hcur : ∀ j, j < t.items.length * 6 → cur[j]? = xs[j]?) (hc : Cells w S t.items xs) (hS : ¬ S g) (hz : TV w S z D dd D' dd') (hkeys : SReads w S A' t.keys) (hkl : t.keys.length ≤ c') :
    TV ((((((w.setCell ⟨g, k * 6, none⟩ (.int .i64 z.kind)).setCell ⟨g, k * 6 + 1, none⟩ (.bool z.tr)).setCell ⟨g, k * 6 + 2, none⟩ (.int .i64 z.num)).setCell ⟨g, k * 6 + 3, none⟩ (.string z.str)).setCell ⟨g, k * 6 + 4, none⟩ (.slice D z.items.length dd)).setCell ⟨g, k * 6 + 5, none⟩ (.slice D' z.keys.length dd')) (fun b => S b ∨ b = g) (t.with_ k z) (some ⟨g, 0, none⟩) d A' c' := by
  obtain ⟨cs', hb', hz', h6', hfar⟩ := six_put hb (o := k * 6) (by omega) z D dd D' dd'
  have hkeep : Keeps S w ((((((w.setCell ⟨g, k * 6, none⟩ (.int .i64 z.kind)).setCell ⟨g, k * 6 + 1, none⟩ (.bool z.tr)).setCell ⟨g, k * 6 + 2, none⟩ (.int .i64 z.num)).setCell ⟨g, k * 6 + 3, none⟩ (.string z.str)).setCell ⟨g, k * 6 + 4, none⟩ (.slice D z.items.length dd)).setCell ⟨g, k * 6 + 5, none⟩ (.slice D' z.keys.length dd')) := fun b hb => put6_heap (fun e => hS (e ▸ hb))
  refine TV.of (by rw [with_len]; exact hd) hkl (fun _ => ⟨g, 0, rfl, .inr rfl, fun i u hu => ?_⟩) ((hkeys.keep hkeep).wide fun b h => .inl h)
  by_cases hik : i = k
  · subst hik
    rw [with_at z hk] at hu
    injection hu with hu
    subst hu
    exact ⟨D, dd, D', dd', by rw [Nat.zero_add]; exact h6', (hz.keep hkeep).wide fun b h => .inl h⟩
  · rw [with_off z hik] at hu
    have hil := lt_of_get hu
    obtain ⟨B, e, B', e', h1, h2⟩ := hc.2.2 i u hu
    refine ⟨B, e, B', e', ?_, (h2.keep hkeep).wide fun b h => .inl h⟩
    have at_ : ∀ j, j < 6 → (((((((w.setCell ⟨g, k * 6, none⟩ (.int .i64 z.kind)).setCell ⟨g, k * 6 + 1, none⟩ (.bool z.tr)).setCell ⟨g, k * 6 + 2, none⟩ (.int .i64 z.num)).setCell ⟨g, k * 6 + 3, none⟩ (.string z.str)).setCell ⟨g, k * 6 + 4, none⟩ (.slice D z.items.length dd)).setCell ⟨g, k * 6 + 5, none⟩ (.slice D' z.keys.length dd'))).cell? ⟨g, i * 6 + j, none⟩ = (#[.int .i64 u.kind, .bool u.tr, .int .i64 u.num, .string u.str, .slice B u.items.length e, .slice B' u.keys.length e'])[j]? := fun j hj => by
      rw [hb'.cell, hfar (i * 6 + j) (by omega), hcur _ (by omega), h1 j hj]; rfl
    rw [Nat.zero_add]
    exact ⟨at_ 0 (by omega), at_ 1 (by omega), at_ 2 (by omega), at_ 3 (by omega), at_ 4 (by omega), at_ 5 (by omega)⟩
/-- what stands in the end, where the new item has been stored: the row, and the box that is handed back -/
theorem rset_end {B0 G K gN k dn c' : Nat} {w W11 w12 : World} {t z : T} {cur : Array Value} {xs : List Value} {A' : Option Addr} {D2 : Option Addr} {d2 : Nat} {D2' : Option Addr} {d2' : Nat}
    (hG : w.heap.size = G) (hB : B0 ≤ G) (hl2 : G + 1 + 1 < gN) (hgl : gN < W11.heap.size) (hKg : K ≠ gN) (hkl : k < t.items.length) (hbN : Blk w12 gN 28 cur) (hcsz : t.items.length * 6 ≤ cur.size) (hnd : t.items.length ≤ dn) (hcur : ∀ j, j < t.items.length * 6 → cur[j]? = xs[j]?)
    (hw12 : Below G w w12) (hs12 : W11.heap.size ≤ w12.heap.size) (hC : Cells w (· < B0) t.items xs) (hkeys : SReads w (· < B0) A' t.keys) (hl : t.keys.length ≤ c') (hT : TV w12 (fun b => b < B0 ∨ W11.heap.size ≤ b ∧ b < w12.heap.size) z D2 d2 D2' d2')
    (hK : Blk w12 K 28 #[.int .i64 t.kind, .bool t.tr, .int .i64 t.num, .string t.str, .slice (some ⟨gN, 0, none⟩) t.items.length dn, .slice A' t.keys.length c']) (hR : Blk w12 (G + 1 + 1) 28 #[.int .i64 0, .bool false, .int .i64 0, .string ⟨#[]⟩, .slice none 0 0, .slice none 0 0]) :
    ∃ W : World, W = ((((((w12.setCell ⟨gN, k * 6, none⟩ (.int .i64 z.kind)).setCell ⟨gN, k * 6 + 1, none⟩ (.bool z.tr)).setCell ⟨gN, k * 6 + 2, none⟩ (.int .i64 z.num)).setCell ⟨gN, k * 6 + 3, none⟩ (.string z.str)).setCell ⟨gN, k * 6 + 4, none⟩ (.slice D2 z.items.length d2)).setCell ⟨gN, k * 6 + 5, none⟩ (.slice D2' z.keys.length d2')) ∧ Blk W K 28 #[.int .i64 t.kind, .bool t.tr, .int .i64 t.num, .string t.str, .slice (some ⟨gN, 0, none⟩) t.items.length dn, .slice A' t.keys.length c'] ∧ Blk W (G + 1 + 1) 28 #[.int .i64 0, .bool false, .int .i64 0, .string ⟨#[]⟩, .slice none 0 0, .slice none 0 0] ∧ Blk ((((((W.setCell ⟨G + 1 + 1, 0, none⟩ (.int .i64 t.kind)).setCell ⟨G + 1 + 1, 1, none⟩ (.bool t.tr)).setCell ⟨G + 1 + 1, 2, none⟩ (.int .i64 t.num)).setCell ⟨G + 1 + 1, 3, none⟩ (.string t.str)).setCell ⟨G + 1 + 1, 4, none⟩ (.slice (some ⟨gN, 0, none⟩) t.items.length dn)).setCell ⟨G + 1 + 1, 5, none⟩ (.slice A' t.keys.length c')) (G + 1 + 1) 28 #[.int .i64 t.kind, .bool t.tr, .int .i64 t.num, .string t.str, .slice (some ⟨gN, 0, none⟩) t.items.length dn, .slice A' t.keys.length c'] ∧ TV ((((((W.setCell ⟨G + 1 + 1, 0, none⟩ (.int .i64 t.kind)).setCell ⟨G + 1 + 1, 1, none⟩ (.bool t.tr)).setCell ⟨G + 1 + 1, 2, none⟩ (.int .i64 t.num)).setCell ⟨G + 1 + 1, 3, none⟩ (.string t.str)).setCell ⟨G + 1 + 1, 4, none⟩ (.slice (some ⟨gN, 0, none⟩) t.items.length dn)).setCell ⟨G + 1 + 1, 5, none⟩ (.slice A' t.keys.length c')) (fun b => b < B0 ∨ w.heap.size ≤ b ∧ b < (((((((W.setCell ⟨G + 1 + 1, 0, none⟩ (.int .i64 t.kind)).setCell ⟨G + 1 + 1, 1, none⟩ (.bool t.tr)).setCell ⟨G + 1 + 1, 2, none⟩ (.int .i64 t.num)).setCell ⟨G + 1 + 1, 3, none⟩ (.string t.str)).setCell ⟨G + 1 + 1, 4, none⟩ (.slice (some ⟨gN, 0, none⟩) t.items.length dn)).setCell ⟨G + 1 + 1, 5, none⟩ (.slice A' t.keys.length c'))).heap.size) (t.with_ k z) (some ⟨gN, 0, none⟩) dn A' c' ∧ Below w.heap.size w ((((((W.setCell ⟨G + 1 + 1, 0, none⟩ (.int .i64 t.kind)).setCell ⟨G + 1 + 1, 1, none⟩ (.bool t.tr)).setCell ⟨G + 1 + 1, 2, none⟩ (.int .i64 t.num)).setCell ⟨G + 1 + 1, 3, none⟩ (.string t.str)).setCell ⟨G + 1 + 1, 4, none⟩ (.slice (some ⟨gN, 0, none⟩) t.items.length dn)).setCell ⟨G + 1 + 1, 5, none⟩ (.slice A' t.keys.length c')) := by
  have s1 : Cells w12 (fun b => b < B0 ∨ W11.heap.size ≤ b ∧ b < w12.heap.size) t.items xs := (hC.on (hw12.mono hB) (Nat.le_refl _)).wide fun b h => .inl h
  have s2 : ¬ (gN < B0 ∨ W11.heap.size ≤ gN ∧ gN < w12.heap.size) := by omega
  have s3 : SReads w12 (fun b => b < B0 ∨ W11.heap.size ≤ b ∧ b < w12.heap.size) A' t.keys := (hkeys.below (hw12.mono hB)).wide fun b h => .inl h
  have hTW : TV ((((((w12.setCell ⟨gN, k * 6, none⟩ (.int .i64 z.kind)).setCell ⟨gN, k * 6 + 1, none⟩ (.bool z.tr)).setCell ⟨gN, k * 6 + 2, none⟩ (.int .i64 z.num)).setCell ⟨gN, k * 6 + 3, none⟩ (.string z.str)).setCell ⟨gN, k * 6 + 4, none⟩ (.slice D2 z.items.length d2)).setCell ⟨gN, k * 6 + 5, none⟩ (.slice D2' z.keys.length d2')) (fun b => (b < B0 ∨ W11.heap.size ≤ b ∧ b < w12.heap.size) ∨ b = gN) (t.with_ k z) (some ⟨gN, 0, none⟩) dn A' c' :=
    tv_with (S := fun b => b < B0 ∨ W11.heap.size ≤ b ∧ b < w12.heap.size) (xs := xs) (cur := cur) hkl hbN hcsz hnd hcur s1 s2 hT s3 hl
  have hKW : Blk ((((((w12.setCell ⟨gN, k * 6, none⟩ (.int .i64 z.kind)).setCell ⟨gN, k * 6 + 1, none⟩ (.bool z.tr)).setCell ⟨gN, k * 6 + 2, none⟩ (.int .i64 z.num)).setCell ⟨gN, k * 6 + 3, none⟩ (.string z.str)).setCell ⟨gN, k * 6 + 4, none⟩ (.slice D2 z.items.length d2)).setCell ⟨gN, k * 6 + 5, none⟩ (.slice D2' z.keys.length d2')) K 28 #[.int .i64 t.kind, .bool t.tr, .int .i64 t.num, .string t.str, .slice (some ⟨gN, 0, none⟩) t.items.length dn, .slice A' t.keys.length c'] := (put6_heap hKg).trans hK
  have hRW : Blk ((((((w12.setCell ⟨gN, k * 6, none⟩ (.int .i64 z.kind)).setCell ⟨gN, k * 6 + 1, none⟩ (.bool z.tr)).setCell ⟨gN, k * 6 + 2, none⟩ (.int .i64 z.num)).setCell ⟨gN, k * 6 + 3, none⟩ (.string z.str)).setCell ⟨gN, k * 6 + 4, none⟩ (.slice D2 z.items.length d2)).setCell ⟨gN, k * 6 + 5, none⟩ (.slice D2' z.keys.length d2')) (G + 1 + 1) 28 #[.int .i64 0, .bool false, .int .i64 0, .string ⟨#[]⟩, .slice none 0 0, .slice none 0 0] := (put6_heap (by omega)).trans hR
  have hBW : Below G w ((((((w12.setCell ⟨gN, k * 6, none⟩ (.int .i64 z.kind)).setCell ⟨gN, k * 6 + 1, none⟩ (.bool z.tr)).setCell ⟨gN, k * 6 + 2, none⟩ (.int .i64 z.num)).setCell ⟨gN, k * 6 + 3, none⟩ (.string z.str)).setCell ⟨gN, k * 6 + 4, none⟩ (.slice D2 z.items.length d2)).setCell ⟨gN, k * 6 + 5, none⟩ (.slice D2' z.keys.length d2')) := put6_below hw12 (by omega)
  have hzW : (((((((w12.setCell ⟨gN, k * 6, none⟩ (.int .i64 z.kind)).setCell ⟨gN, k * 6 + 1, none⟩ (.bool z.tr)).setCell ⟨gN, k * 6 + 2, none⟩ (.int .i64 z.num)).setCell ⟨gN, k * 6 + 3, none⟩ (.string z.str)).setCell ⟨gN, k * 6 + 4, none⟩ (.slice D2 z.items.length d2)).setCell ⟨gN, k * 6 + 5, none⟩ (.slice D2' z.keys.length d2'))).heap.size = w12.heap.size := put6_size
  refine ⟨_, rfl, hKW, hRW, ?_⟩
  generalize ((((((w12.setCell ⟨gN, k * 6, none⟩ (.int .i64 z.kind)).setCell ⟨gN, k * 6 + 1, none⟩ (.bool z.tr)).setCell ⟨gN, k * 6 + 2, none⟩ (.int .i64 z.num)).setCell ⟨gN, k * 6 + 3, none⟩ (.string z.str)).setCell ⟨gN, k * 6 + 4, none⟩ (.slice D2 z.items.length d2)).setCell ⟨gN, k * 6 + 5, none⟩ (.slice D2' z.keys.length d2')) = W at *
  have hF : Blk ((((((W.setCell ⟨G + 1 + 1, 0, none⟩ (.int .i64 t.kind)).setCell ⟨G + 1 + 1, 1, none⟩ (.bool t.tr)).setCell ⟨G + 1 + 1, 2, none⟩ (.int .i64 t.num)).setCell ⟨G + 1 + 1, 3, none⟩ (.string t.str)).setCell ⟨G + 1 + 1, 4, none⟩ (.slice (some ⟨gN, 0, none⟩) t.items.length dn)).setCell ⟨G + 1 + 1, 5, none⟩ (.slice A' t.keys.length c')) (G + 1 + 1) 28 #[.int .i64 t.kind, .bool t.tr, .int .i64 t.num, .string t.str, .slice (some ⟨gN, 0, none⟩) t.items.length dn, .slice A' t.keys.length c'] := by
    have := res_put hRW rfl (t.with_ k z) (some ⟨gN, 0, none⟩) dn A' c'
    simp only [T.cs, with_len] at this
    exact this
  have hz : (((((((W.setCell ⟨G + 1 + 1, 0, none⟩ (.int .i64 t.kind)).setCell ⟨G + 1 + 1, 1, none⟩ (.bool t.tr)).setCell ⟨G + 1 + 1, 2, none⟩ (.int .i64 t.num)).setCell ⟨G + 1 + 1, 3, none⟩ (.string t.str)).setCell ⟨G + 1 + 1, 4, none⟩ (.slice (some ⟨gN, 0, none⟩) t.items.length dn)).setCell ⟨G + 1 + 1, 5, none⟩ (.slice A' t.keys.length c'))).heap.size = W.heap.size := put6_size
  refine ⟨hF, ?_, by rw [hG]; exact put6_below hBW (by omega)⟩
  refine (hTW.keep fun b hb => put6_heap (by rcases hb with (hb | hb) | hb <;> omega)).wide fun b hb => ?_
  show b < B0 ∨ w.heap.size ≤ b ∧ b < (((((((W.setCell ⟨G + 1 + 1, 0, none⟩ (.int .i64 t.kind)).setCell ⟨G + 1 + 1, 1, none⟩ (.bool t.tr)).setCell ⟨G + 1 + 1, 2, none⟩ (.int .i64 t.num)).setCell ⟨G + 1 + 1, 3, none⟩ (.string t.str)).setCell ⟨G + 1 + 1, 4, none⟩ (.slice (some ⟨gN, 0, none⟩) t.items.length dn)).setCell ⟨G + 1 + 1, 5, none⟩ (.slice A' t.keys.length c'))).heap.size
  rw [hz, hzW, hG]
  rcases hb with (hb | hb) | hb
  · exact .inl hb
  · exact .inr (by omega)
  · exact .inr (by omega)
theorem agg_with (t z : T) (k : Nat) (B : Option Addr) (d : Nat) (B' : Option Addr) (d' : Nat) : (t.with_ k z).agg B d B' d' = .agg #[.int .i64 t.kind, .bool t.tr, .int .i64 t.num, .string t.str, .slice B t.items.length d, .slice B' t.keys.length d'] := by
  unfold T.agg; rw [with_len]; rfl
def RSetAt (p : List ByteArray) : Prop := ∀ (B0 : Nat) (t x r : T) (P : Option Addr) (cp : Nat) (A : Option Addr) (c : Nat) (A' : Option Addr) (c' : Nat) (C : Option Addr) (f : Nat) (C' : Option Addr) (f' : Nat) (w : World), t.Fine → Sets t p x r → p.length ≤ cp → p.length ≤ 1000 → B0 ≤ w.heap.size → SReads w (· < B0) P p → TV w (· < B0) t A c A' c' → TV w (· < B0) x C f C' f' →
    Calls Tryd.prog 16 #[.agg #[.int .i64 t.kind, .bool t.tr, .int .i64 t.num, .string t.str, .slice A t.items.length c, .slice A' t.keys.length c'], .slice P p.length cp, .agg #[.int .i64 x.kind, .bool x.tr, .int .i64 x.num, .string x.str, .slice C x.items.length f, .slice C' x.keys.length f']] w (GivesR B0 r w)
theorem SReads.tail {w : World} {S : Nat → Prop} {bp op : Nat} {q : ByteArray} {p : List ByteArray} (h : SReads w S (some ⟨bp, op, none⟩) (q :: p)) : SReads w S (some ⟨bp, op + 1, none⟩) p := by
  intro _
  obtain ⟨b, o, e, hs, hc⟩ := h (by simp)
  injection e with e
  injection e with e1 e2
  subst e1 e2
  exact ⟨bp, op + 1, rfl, hs, fun i s hi => by
    have := hc (i + 1) s (by simpa using hi)
    rw [show op + 1 + i = op + (i + 1) by omega]; exact this⟩
set_option maxRecDepth 100000 in
set_option maxHeartbeats 16000000 in
theorem rset_at (p : List ByteArray) : RSetAt p := by
  induction p with
  | nil =>
    intro B0 t x r P cp A c A' c' C f C' f' w hn hs hpc hpl hB hp hv hvx
    cases (show r = x from hs)
    have HVX := Lib.hid hvx
    clear hp hv hvx hn hs
    go_enter Tryd.func16, Tryd.ntmps16
    go_upto_region 1 with fail
    have hW : Below w.heap.size w (((w.alloc (.cells #[.int .i64 t.kind, .bool t.tr, .int .i64 t.num, .string t.str, .slice A t.items.length c, .slice A' t.keys.length c'] 28)).alloc (.cells #[.int .i64 x.kind, .bool x.tr, .int .i64 x.num, .string x.str, .slice C x.items.length f, .slice C' x.keys.length f'] 28)).alloc (.cells #[.int .i64 0, .bool false, .int .i64 0, .string ⟨#[]⟩, .slice none 0 0, .slice none 0 0] 28)) := (((Below.refl _ _).alloc (Nat.le_refl _) _).alloc (by simp) _).alloc (by simp; omega) _
    have hB1 : Blk (((w.alloc (.cells #[.int .i64 t.kind, .bool t.tr, .int .i64 t.num, .string t.str, .slice A t.items.length c, .slice A' t.keys.length c'] 28)).alloc (.cells #[.int .i64 x.kind, .bool x.tr, .int .i64 x.num, .string x.str, .slice C x.items.length f, .slice C' x.keys.length f'] 28)).alloc (.cells #[.int .i64 0, .bool false, .int .i64 0, .string ⟨#[]⟩, .slice none 0 0, .slice none 0 0] 28)) (w.heap.size + 1) 28 #[.int .i64 x.kind, .bool x.tr, .int .i64 x.num, .string x.str, .slice C x.items.length f, .slice C' x.keys.length f'] := by
      have := (Blk.new (w.alloc (.cells #[.int .i64 t.kind, .bool t.tr, .int .i64 t.num, .string t.str, .slice A t.items.length c, .slice A' t.keys.length c'] 28)) 28 #[.int .i64 x.kind, .bool x.tr, .int .i64 x.num, .string x.str, .slice C x.items.length f, .slice C' x.keys.length f']).alloc (.cells #[.int .i64 0, .bool false, .int .i64 0, .string ⟨#[]⟩, .slice none 0 0, .slice none 0 0] 28)
      simpa using this
    have hB2 : Blk (((w.alloc (.cells #[.int .i64 t.kind, .bool t.tr, .int .i64 t.num, .string t.str, .slice A t.items.length c, .slice A' t.keys.length c'] 28)).alloc (.cells #[.int .i64 x.kind, .bool x.tr, .int .i64 x.num, .string x.str, .slice C x.items.length f, .slice C' x.keys.length f'] 28)).alloc (.cells #[.int .i64 0, .bool false, .int .i64 0, .string ⟨#[]⟩, .slice none 0 0, .slice none 0 0] 28)) (w.heap.size + 2) 28 #[.int .i64 0, .bool false, .int .i64 0, .string ⟨#[]⟩, .slice none 0 0, .slice none 0 0] := by
      have := Blk.new ((w.alloc (.cells #[.int .i64 t.kind, .bool t.tr, .int .i64 t.num, .string t.str, .slice A t.items.length c, .slice A' t.keys.length c'] 28)).alloc (.cells #[.int .i64 x.kind, .bool x.tr, .int .i64 x.num, .string x.str, .slice C x.items.length f, .slice C' x.keys.length f'] 28)) 28 #[.int .i64 0, .bool false, .int .i64 0, .string ⟨#[]⟩, .slice none 0 0, .slice none 0 0]
      simpa using this
    change Code.wp _ _ _ _ (((w.alloc (.cells #[.int .i64 t.kind, .bool t.tr, .int .i64 t.num, .string t.str, .slice A t.items.length c, .slice A' t.keys.length c'] 28)).alloc (.cells #[.int .i64 x.kind, .bool x.tr, .int .i64 x.num, .string x.str, .slice C x.items.length f, .slice C' x.keys.length f'] 28)).alloc (.cells #[.int .i64 0, .bool false, .int .i64 0, .string ⟨#[]⟩, .slice none 0 0, .slice none 0 0] 28))
    generalize (((w.alloc (.cells #[.int .i64 t.kind, .bool t.tr, .int .i64 t.num, .string t.str, .slice A t.items.length c, .slice A' t.keys.length c'] 28)).alloc (.cells #[.int .i64 x.kind, .bool x.tr, .int .i64 x.num, .string x.str, .slice C x.items.length f, .slice C' x.keys.length f'] 28)).alloc (.cells #[.int .i64 0, .bool false, .int .i64 0, .string ⟨#[]⟩, .slice none 0 0, .slice none 0 0] 28)) = W at *
    obtain ⟨a0, a1, a2, a3, a4, a5⟩ : W.cell? ⟨w.heap.size + 1, 0, none⟩ = some (.int .i64 x.kind) ∧ W.cell? ⟨w.heap.size + 1, 1, none⟩ = some (.bool x.tr) ∧ W.cell? ⟨w.heap.size + 1, 2, none⟩ = some (.int .i64 x.num) ∧ W.cell? ⟨w.heap.size + 1, 3, none⟩ = some (.string x.str) ∧ W.cell? ⟨w.heap.size + 1, 4, none⟩ = some (.slice C x.items.length f) ∧ W.cell? ⟨w.heap.size + 1, 5, none⟩ = some (.slice C' x.keys.length f') := ⟨hB1.cell 0, hB1.cell 1, hB1.cell 2, hB1.cell 3, hB1.cell 4, hB1.cell 5⟩
    have q0 : W.cell? ⟨w.heap.size + 2, 0, none⟩ = some (.int .i64 0) := hB2.cell 0
    have q1 : W.cell? ⟨w.heap.size + 2, 1, none⟩ = some (.bool false) := hB2.cell 1
    have q2 : W.cell? ⟨w.heap.size + 2, 2, none⟩ = some (.int .i64 0) := hB2.cell 2
    have q3 : W.cell? ⟨w.heap.size + 2, 3, none⟩ = some (.string ⟨#[]⟩) := hB2.cell 3
    have q4 : W.cell? ⟨w.heap.size + 2, 4, none⟩ = some (.slice none 0 0) := hB2.cell 4
    have q5 : W.cell? ⟨w.heap.size + 2, 5, none⟩ = some (.slice none 0 0) := hB2.cell 5
    have f0 := hB2.free 0
    have f1 := hB2.free 1
    have f2 := hB2.free 2
    have f3 := hB2.free 3
    have f4 := hB2.free 4
    have f5 := hB2.free 5
    have hF := res_put hB2 rfl x C f C' f'
    have hz : (((((((W.setCell ⟨w.heap.size + 2, 0, none⟩ (.int .i64 x.kind)).setCell ⟨w.heap.size + 2, 1, none⟩ (.bool x.tr)).setCell ⟨w.heap.size + 2, 2, none⟩ (.int .i64 x.num)).setCell ⟨w.heap.size + 2, 3, none⟩ (.string x.str)).setCell ⟨w.heap.size + 2, 4, none⟩ (.slice C x.items.length f)).setCell ⟨w.heap.size + 2, 5, none⟩ (.slice C' x.keys.length f'))).heap.size = W.heap.size := put6_size
    have HT := Lib.hid (show TV ((((((W.setCell ⟨w.heap.size + 2, 0, none⟩ (.int .i64 x.kind)).setCell ⟨w.heap.size + 2, 1, none⟩ (.bool x.tr)).setCell ⟨w.heap.size + 2, 2, none⟩ (.int .i64 x.num)).setCell ⟨w.heap.size + 2, 3, none⟩ (.string x.str)).setCell ⟨w.heap.size + 2, 4, none⟩ (.slice C x.items.length f)).setCell ⟨w.heap.size + 2, 5, none⟩ (.slice C' x.keys.length f')) (· < B0) x C f C' f' from (HVX.out.under (hW.mono hB)).keep fun b hb => put6_heap (by have : b < B0 := hb; omega))
    have HE := Lib.hid (put6_below (o := 0) (v0 := .int .i64 x.kind) (v1 := .bool x.tr) (v2 := .int .i64 x.num) (v3 := .string x.str) (v4 := .slice C x.items.length f) (v5 := .slice C' x.keys.length f') hW (show w.heap.size ≤ w.heap.size + 2 by omega))
    have HF := Lib.hid hF
    clear hW hB1 hB2 hF hz
    go_wp2_with fail
    generalize ((((((W.setCell ⟨w.heap.size + 2, 0, none⟩ (.int .i64 x.kind)).setCell ⟨w.heap.size + 2, 1, none⟩ (.bool x.tr)).setCell ⟨w.heap.size + 2, 2, none⟩ (.int .i64 x.num)).setCell ⟨w.heap.size + 2, 3, none⟩ (.string x.str)).setCell ⟨w.heap.size + 2, 4, none⟩ (.slice C x.items.length f)).setCell ⟨w.heap.size + 2, 5, none⟩ (.slice C' x.keys.length f')) = Wf at *
    have m0 : Wf.cell? ⟨w.heap.size + 2, 0, none⟩ = some (.int .i64 x.kind) := HF.out.cell 0
    have m1 : Wf.cell? ⟨w.heap.size + 2, 1, none⟩ = some (.bool x.tr) := HF.out.cell 1
    have m2 : Wf.cell? ⟨w.heap.size + 2, 2, none⟩ = some (.int .i64 x.num) := HF.out.cell 2
    have m3 : Wf.cell? ⟨w.heap.size + 2, 3, none⟩ = some (.string x.str) := HF.out.cell 3
    have m4 : Wf.cell? ⟨w.heap.size + 2, 4, none⟩ = some (.slice C x.items.length f) := HF.out.cell 4
    have m5 : Wf.cell? ⟨w.heap.size + 2, 5, none⟩ = some (.slice C' x.keys.length f') := HF.out.cell 5
    exact bodyPost_ret (v := .agg #[.int .i64 x.kind, .bool x.tr, .int .i64 x.num, .string x.str, .slice C x.items.length f, .slice C' x.keys.length f']) (by simp [results, Tryd.results16, go_sem, m0, m1, m2, m3, m4, m5]) rfl ⟨C, f, C', f', rfl, HT.out.wide fun b hb => .inl hb, HE.out⟩
  | cons q p ih =>
    intro B0 t x r P cp A c A' c' C f C' f' w hn hs hpc hpl hB hp hv hvx
    obtain ⟨k, y, z, hk, hy, hsy, rfl⟩ := hs
    have hkl := hk.1
    have hi80 := hn.items80
    have hlen : (q :: p).length = p.length + 1 := rfl
    obtain ⟨bp, op, rfl, hbp, hcp⟩ := hp (by simp)
    have hq0 : w.cell? ⟨bp, op, none⟩ = some (.string q) := by have := hcp 0 q rfl; rwa [Nat.add_zero] at this
    obtain ⟨bA, oA, y', D, g, D', g', rfl, hbA, hx', h6y, hY⟩ := hv.at_ hkl
    obtain rfl : y = y' := by have := hy.symm.trans hx'; injection this
    obtain ⟨xs, hcells, hsrc⟩ := hv.vreads.src
    have HK := Lib.hid hk
    have HN := Lib.hid hn
    have HV := Lib.hid hv
    have HVX := Lib.hid hvx
    have HY := Lib.hid hY
    have HY6 := Lib.hid h6y
    have HC := Lib.hid hcells
    have HSrc := Lib.hid hsrc
    have HTail := Lib.hid (show SReads w (· < B0) (if cp = 1 then some ⟨bp, op, none⟩ else some ⟨bp, op + 1, none⟩) p from by
      split
      · have : p = [] := List.length_eq_zero_iff.1 (by have : p.length + 1 ≤ cp := hpc; omega)
        subst this
        exact SReads.none_ _ _ _
      · exact hp.tail)
    have HQ0 := Lib.hid hq0
    have HIH := Lib.hid (fun cp0 cp w hpc hB hp hyv hx => ih B0 y x z (if cp0 = 1 then some ⟨bp, op, none⟩ else some ⟨bp, op + 1, none⟩) cp D g D' g' C f C' f' w (hn.at_ hy) hsy hpc (by omega) hB hp hyv hx)
    clear hp hv hvx hn hsy hcp hq0 hY h6y hcells hsrc hx' ih hk
    go_enter Tryd.func16, Tryd.ntmps16
    go_upto_region 3 with fail
    have hW : Below w.heap.size w (((w.alloc (.cells #[.int .i64 t.kind, .bool t.tr, .int .i64 t.num, .string t.str, .slice (some ⟨bA, oA, none⟩) t.items.length c, .slice A' t.keys.length c'] 28)).alloc (.cells #[.int .i64 x.kind, .bool x.tr, .int .i64 x.num, .string x.str, .slice C x.items.length f, .slice C' x.keys.length f'] 28)).alloc (.cells #[.int .i64 0, .bool false, .int .i64 0, .string ⟨#[]⟩, .slice none 0 0, .slice none 0 0] 28)) := (((Below.refl _ _).alloc (Nat.le_refl _) _).alloc (by simp) _).alloc (by simp; omega) _
    have hB0 : Blk (((w.alloc (.cells #[.int .i64 t.kind, .bool t.tr, .int .i64 t.num, .string t.str, .slice (some ⟨bA, oA, none⟩) t.items.length c, .slice A' t.keys.length c'] 28)).alloc (.cells #[.int .i64 x.kind, .bool x.tr, .int .i64 x.num, .string x.str, .slice C x.items.length f, .slice C' x.keys.length f'] 28)).alloc (.cells #[.int .i64 0, .bool false, .int .i64 0, .string ⟨#[]⟩, .slice none 0 0, .slice none 0 0] 28)) w.heap.size 28 #[.int .i64 t.kind, .bool t.tr, .int .i64 t.num, .string t.str, .slice (some ⟨bA, oA, none⟩) t.items.length c, .slice A' t.keys.length c'] := ((Blk.new w _ _).alloc _).alloc _
    have hB1 : Blk (((w.alloc (.cells #[.int .i64 t.kind, .bool t.tr, .int .i64 t.num, .string t.str, .slice (some ⟨bA, oA, none⟩) t.items.length c, .slice A' t.keys.length c'] 28)).alloc (.cells #[.int .i64 x.kind, .bool x.tr, .int .i64 x.num, .string x.str, .slice C x.items.length f, .slice C' x.keys.length f'] 28)).alloc (.cells #[.int .i64 0, .bool false, .int .i64 0, .string ⟨#[]⟩, .slice none 0 0, .slice none 0 0] 28)) (w.heap.size + 1) 28 #[.int .i64 x.kind, .bool x.tr, .int .i64 x.num, .string x.str, .slice C x.items.length f, .slice C' x.keys.length f'] := by
      have := (Blk.new (w.alloc (.cells #[.int .i64 t.kind, .bool t.tr, .int .i64 t.num, .string t.str, .slice (some ⟨bA, oA, none⟩) t.items.length c, .slice A' t.keys.length c'] 28)) 28 #[.int .i64 x.kind, .bool x.tr, .int .i64 x.num, .string x.str, .slice C x.items.length f, .slice C' x.keys.length f']).alloc (.cells #[.int .i64 0, .bool false, .int .i64 0, .string ⟨#[]⟩, .slice none 0 0, .slice none 0 0] 28)
      simpa using this
    have hB2 : Blk (((w.alloc (.cells #[.int .i64 t.kind, .bool t.tr, .int .i64 t.num, .string t.str, .slice (some ⟨bA, oA, none⟩) t.items.length c, .slice A' t.keys.length c'] 28)).alloc (.cells #[.int .i64 x.kind, .bool x.tr, .int .i64 x.num, .string x.str, .slice C x.items.length f, .slice C' x.keys.length f'] 28)).alloc (.cells #[.int .i64 0, .bool false, .int .i64 0, .string ⟨#[]⟩, .slice none 0 0, .slice none 0 0] 28)) (w.heap.size + 1 + 1) 28 #[.int .i64 0, .bool false, .int .i64 0, .string ⟨#[]⟩, .slice none 0 0, .slice none 0 0] := by
      have := Blk.new ((w.alloc (.cells #[.int .i64 t.kind, .bool t.tr, .int .i64 t.num, .string t.str, .slice (some ⟨bA, oA, none⟩) t.items.length c, .slice A' t.keys.length c'] 28)).alloc (.cells #[.int .i64 x.kind, .bool x.tr, .int .i64 x.num, .string x.str, .slice C x.items.length f, .slice C' x.keys.length f'] 28)) 28 #[.int .i64 0, .bool false, .int .i64 0, .string ⟨#[]⟩, .slice none 0 0, .slice none 0 0]
      simpa using this
    change Code.wp _ _ _ _ (((w.alloc (.cells #[.int .i64 t.kind, .bool t.tr, .int .i64 t.num, .string t.str, .slice (some ⟨bA, oA, none⟩) t.items.length c, .slice A' t.keys.length c'] 28)).alloc (.cells #[.int .i64 x.kind, .bool x.tr, .int .i64 x.num, .string x.str, .slice C x.items.length f, .slice C' x.keys.length f'] 28)).alloc (.cells #[.int .i64 0, .bool false, .int .i64 0, .string ⟨#[]⟩, .slice none 0 0, .slice none 0 0] 28))
    generalize (((w.alloc (.cells #[.int .i64 t.kind, .bool t.tr, .int .i64 t.num, .string t.str, .slice (some ⟨bA, oA, none⟩) t.items.length c, .slice A' t.keys.length c'] 28)).alloc (.cells #[.int .i64 x.kind, .bool x.tr, .int .i64 x.num, .string x.str, .slice C x.items.length f, .slice C' x.keys.length f'] 28)).alloc (.cells #[.int .i64 0, .bool false, .int .i64 0, .string ⟨#[]⟩, .slice none 0 0, .slice none 0 0] 28)) = W at *
    have HW := Lib.hid hW
    have HB0 := Lib.hid hB0
    have HB1 := Lib.hid hB1
    have HB2 := Lib.hid hB2
    have hl2 := hB2.lt
    generalize hG : w.heap.size = G at *
    have hVW := Lib.hid (show TV W (· < W.heap.size) t (some ⟨bA, oA, none⟩) c A' c' from (HV.out.under (hW.mono hB)).wide fun b hb => by have : b < B0 := hb; show b < W.heap.size; omega)
    have HSS := Lib.hid (show ∀ w', Below W.heap.size W w' → (w'.cell? ⟨G, 0, none⟩ = some (.int .i64 t.kind) ∧ w'.cell? ⟨G, 1, none⟩ = some (.bool t.tr) ∧ w'.cell? ⟨G, 2, none⟩ = some (.int .i64 t.num) ∧ w'.cell? ⟨G, 3, none⟩ = some (.string t.str) ∧ w'.cell? ⟨G, 4, none⟩ = some (.slice (some ⟨bA, oA, none⟩) t.items.length c) ∧ w'.cell? ⟨G, 5, none⟩ = some (.slice A' t.keys.length c')) ∧ w'.cell? ⟨bp, op, none⟩ = some (.string q) from fun w' h => by
      have h0 := HB0.out.onto h
      have hbp2 : bp < B0 := hbp
      exact ⟨⟨h0.cell 0, h0.cell 1, h0.cell 2, h0.cell 3, h0.cell 4, h0.cell 5⟩, ((h.cell (p := ⟨bp, op, none⟩) (show bp < W.heap.size by omega)).trans (hW.cell (p := ⟨bp, op, none⟩) (show bp < G by omega))).trans HQ0.out⟩)
    obtain ⟨⟨a0, a1, a2, a3, a4, a5⟩, ep⟩ := HSS.out W (Below.refl _ _)
    have HBc := Lib.hid (Below.refl W.heap.size W)
    clear hW hB0 hB1 hB2
    go_region_held3 (fun w' => (w'.cell? ⟨G, 0, none⟩ = some (.int .i64 t.kind) ∧ w'.cell? ⟨G, 1, none⟩ = some (.bool t.tr) ∧ w'.cell? ⟨G, 2, none⟩ = some (.int .i64 t.num) ∧ w'.cell? ⟨G, 3, none⟩ = some (.string t.str) ∧ w'.cell? ⟨G, 4, none⟩ = some (.slice (some ⟨bA, oA, none⟩) t.items.length c) ∧ w'.cell? ⟨G, 5, none⟩ = some (.slice A' t.keys.length c')) ∧ w'.cell? ⟨bp, op, none⟩ = some (.string q))
      (first
        | with_reducible exact HSS.out _ HBc.out
        | with_reducible exact HSS.out _ (below_drewN HBc.out _)
        | exact HSS.out _ HBc.out.drew
        | go_keep)
      (first
        | (go_at_call 31
           with_reducible refine (rplace_yes t q k _ c A' c' _ HN.out HK.out (hVW.out.on ?_)).mono ?_
           · exact (by first | with_reducible exact HBc.out | with_reducible exact below_drewN HBc.out _ | exact HBc.out.drew)
           rintro e7 w7 ⟨rfl, hb7⟩
           have HBc := Lib.hid (show Below W.heap.size W w7 from by first | with_reducible exact HBc.out.trans (hb7.mono HBc.out.size) | with_reducible exact (below_drewN HBc.out _).trans (hb7.mono HBc.out.size) | exact HBc.out.drew.trans (hb7.mono HBc.out.size))
           clear hb7))
    all_goals
      have hb7 : Below W.heap.size W w7 := (by first | with_reducible exact HBc.out | with_reducible exact below_drewN HBc.out _ | exact HBc.out.drew)
      have h7 := HB0.out.onto hb7
      obtain ⟨b0, b1, b2, b3, b4, b5⟩ : w7.cell? ⟨G, 0, none⟩ = some (.int .i64 t.kind) ∧ w7.cell? ⟨G, 1, none⟩ = some (.bool t.tr) ∧ w7.cell? ⟨G, 2, none⟩ = some (.int .i64 t.num) ∧ w7.cell? ⟨G, 3, none⟩ = some (.string t.str) ∧ w7.cell? ⟨G, 4, none⟩ = some (.slice (some ⟨bA, oA, none⟩) t.items.length c) ∧ w7.cell? ⟨G, 5, none⟩ = some (.slice A' t.keys.length c') := ⟨h7.cell 0, h7.cell 1, h7.cell 2, h7.cell 3, h7.cell 4, h7.cell 5⟩
      have HB7 := Lib.hid hb7
      have hs7 := hb7.size
      clear h7 hb7 a0 a1 a2 a3 a4 a5 ep HBc
      go_upto_region 5 with fail
      have hb8 : Below W.heap.size W (w7.alloc (.cells #[.int .i64 t.kind, .bool t.tr, .int .i64 t.num, .string t.str, .slice (some ⟨bA, oA, none⟩) t.items.length c, .slice A' t.keys.length c'] 28)) := HB7.out.alloc hs7 _
      have hK8 : Blk (w7.alloc (.cells #[.int .i64 t.kind, .bool t.tr, .int .i64 t.num, .string t.str, .slice (some ⟨bA, oA, none⟩) t.items.length c, .slice A' t.keys.length c'] 28)) w7.heap.size 28 #[.int .i64 t.kind, .bool t.tr, .int .i64 t.num, .string t.str, .slice (some ⟨bA, oA, none⟩) t.items.length c, .slice A' t.keys.length c'] := Blk.new w7 _ _
      change Code.wp _ _ _ _ (w7.alloc (.cells #[.int .i64 t.kind, .bool t.tr, .int .i64 t.num, .string t.str, .slice (some ⟨bA, oA, none⟩) t.items.length c, .slice A' t.keys.length c'] 28))
      generalize (w7.alloc (.cells #[.int .i64 t.kind, .bool t.tr, .int .i64 t.num, .string t.str, .slice (some ⟨bA, oA, none⟩) t.items.length c, .slice A' t.keys.length c'] 28)) = W8 at *
      generalize w7.heap.size = K at *
      have HB8 := Lib.hid hb8
      have HK8 := Lib.hid hK8
      have hs8 := hb8.size
      have hK8l := hK8.lt
      have h8 := HB0.out.onto hb8
      have g4 : W8.cell? ⟨G, 4, none⟩ = some (.slice (some ⟨bA, oA, none⟩) t.items.length c) := h8.cell 4
      have g4' : ∀ o : Obj, (W8.alloc o).cell? ⟨G, 4, none⟩ = some (.slice (some ⟨bA, oA, none⟩) t.items.length c) := fun o => (fary h8.lt).trans g4
      have hww8 : Below G w W8 := HW.out.trans (hb8.mono (by have := HW.out.size; omega))
      have HO8 := Lib.hid (World.ownsRow_lit (base := W8.heap.size) (e := 28) (size := 6) W8 #[] 0 (Nat.le_refl _) (by unfold maxLen; omega) rfl)
      have HS8 := Lib.hid (HSrc.out (W8.alloc (.cells #[] 28)) ((hww8.mono hB).alloc (by omega) _))
      have HWW8 := Lib.hid hww8
      clear hb8 hK8 h8 hww8 b0 b1 b2 b3 b4 b5 HB7
      go_wp2_with (
        at_builtin
        refine app_vs rfl (.tmp 19) (.tmp 21) rfl W8.heap.size _ rfl HO8.out (some ⟨bA, oA, none⟩) t.items.length c xs rfl HS8.out HC.out.2.1 (by omega) (by simp) ?_
        intro Bn dn w10 ho10 hbl10 hg10
        obtain ⟨gN, cur, rfl, hge, hBk, hcsz, hnd, hcur⟩ := own_blk ho10 (by omega)
        have hb10 : Below W8.heap.size W8 w10 := hbl10 _ ((Below.refl _ _).alloc (Nat.le_refl _) _)
        have hK10 := HK8.out.onto hb10
        have k4 : w10.cell? ⟨K, 4, none⟩ = some (.slice (some ⟨bA, oA, none⟩) t.items.length c) := hK10.cell 4
        have fk4 := hK10.free 4
        have hKg : K ≠ gN := by omega
        have hK11 := Lib.hid (hK10.set_ 4 (.slice (some ⟨gN, 0, none⟩) t.items.length dn))
        have hN11 := Lib.hid (hBk.far (p := ⟨K, 4, none⟩) (Ne.symm hKg) (.slice (some ⟨gN, 0, none⟩) t.items.length dn))
        have hb11 := Lib.hid ((HB8.out.trans (hb10.mono hs8)).setCell (p := ⟨K, 4, none⟩) hs7 (.slice (some ⟨gN, 0, none⟩) t.items.length dn))
        have hs11 : (w10.setCell ⟨K, 4, none⟩ (.slice (some ⟨gN, 0, none⟩) t.items.length dn)).heap.size = w10.heap.size := by simp [World.setCell]
        have hs10 := hb10.size
        have hgl := hBk.lt
        clear ho10 hbl10 hg10 hb10 hK10 hBk g4 g4' HO8 HS8)
      change Code.wp _ _ _ _ (w10.setCell ⟨K, 4, none⟩ (.slice (some ⟨gN, 0, none⟩) t.items.length dn))
      generalize (w10.setCell ⟨K, 4, none⟩ (.slice (some ⟨gN, 0, none⟩) t.items.length dn)) = W11 at *
      generalize w10.heap.size = L10 at *
      clear k4 fk4
      have hK11' := Lib.hid (show Blk W11 K 28 #[.int .i64 t.kind, .bool t.tr, .int .i64 t.num, .string t.str, .slice (some ⟨gN, 0, none⟩) t.items.length dn, .slice A' t.keys.length c'] from hK11.out)
      have hww11 := Lib.hid (show Below G w W11 from HW.out.trans (hb11.out.mono (by have := HW.out.size; omega)))
      have HS11 := Lib.hid (show ∀ w', Below W11.heap.size W11 w' → (w'.cell? ⟨K, 4, none⟩ = some (.slice (some ⟨gN, 0, none⟩) t.items.length dn) ∧ w'.cell? ⟨G, 4, none⟩ = some (.slice (some ⟨bA, oA, none⟩) t.items.length c)) ∧ (w'.cell? ⟨bA, oA + k * 6, none⟩ = some (.int .i64 y.kind) ∧ w'.cell? ⟨bA, oA + k * 6 + 1, none⟩ = some (.bool y.tr) ∧ w'.cell? ⟨bA, oA + k * 6 + 2, none⟩ = some (.int .i64 y.num) ∧ w'.cell? ⟨bA, oA + k * 6 + 3, none⟩ = some (.string y.str) ∧ w'.cell? ⟨bA, oA + k * 6 + 4, none⟩ = some (.slice D y.items.length g) ∧ w'.cell? ⟨bA, oA + k * 6 + 5, none⟩ = some (.slice D' y.keys.length g')) ∧ (w'.cell? ⟨G + 1, 0, none⟩ = some (.int .i64 x.kind) ∧ w'.cell? ⟨G + 1, 1, none⟩ = some (.bool x.tr) ∧ w'.cell? ⟨G + 1, 2, none⟩ = some (.int .i64 x.num) ∧ w'.cell? ⟨G + 1, 3, none⟩ = some (.string x.str) ∧ w'.cell? ⟨G + 1, 4, none⟩ = some (.slice C x.items.length f) ∧ w'.cell? ⟨G + 1, 5, none⟩ = some (.slice C' x.keys.length f')) from fun w' h => by
        have hb : Below W.heap.size W w' := hb11.out.trans (h.mono hb11.out.size)
        have hw : Below G w w' := hww11.out.trans (h.mono (by have := hww11.out.size; omega))
        have h0 := HB0.out.onto hb
        have h1 := HB1.out.onto hb
        have h3 := hK11'.out.onto h
        have hbA2 : bA < B0 := hbA
        exact ⟨⟨h3.cell 4, h0.cell 4⟩, HY6.out.on_blk (hw.block bA (by omega)), h1.cell 0, h1.cell 1, h1.cell 2, h1.cell 3, h1.cell 4, h1.cell 5⟩)
      obtain ⟨⟨k4, g4⟩, ⟨y0, y1, y2, y3, y4, y5⟩, ⟨x0, x1, x2, x3, x4, x5⟩⟩ := HS11.out W11 (Below.refl _ _)
      have HBd := Lib.hid (Below.refl W11.heap.size W11)
      have l1 : (0 : Int) ≤ (p.length : Int) := by omega
      have l2 : (p.length : Int) + 1 ≤ (cp : Int) := by omega
      have l3 : p.length + 1 ≤ cp := by omega
      have l4 : (1 : Int) ≤ (p.length : Int) + 1 := by omega
      have l5 : (1 : Int) ≤ (cp : Int) := by omega
      have i3 : (k : Int) < (t.items.length : Int) := by omega
      have i4 : (0 : Int) ≤ (k : Int) := by omega
      have HTx := Lib.hid (fun w' (h : Below W11.heap.size W11 w') => HIH.out cp (cp - 1) w' (by omega) (by have := h.size; omega) (HTail.out.below ((hww11.out.trans (h.mono (by have := hww11.out.size; omega))).mono hB)) (HY.out.under ((hww11.out.trans (h.mono (by have := hww11.out.size; omega))).mono hB)) (HVX.out.under ((hww11.out.trans (h.mono (by have := hww11.out.size; omega))).mono hB)))
      have HN11 := Lib.hid (fun w' (h : Below W11.heap.size W11 w') => (hN11.out.onto h).six (o := k * 6) (by omega))
      have HF11 := Lib.hid (fun w' (h : Below W11.heap.size W11 w') j => (hN11.out.onto h).free j)
      refine wp_region_held_drew (S := fun w' => (w'.cell? ⟨K, 4, none⟩ = some (.slice (some ⟨gN, 0, none⟩) t.items.length dn) ∧ w'.cell? ⟨G, 4, none⟩ = some (.slice (some ⟨bA, oA, none⟩) t.items.length c)) ∧ (w'.cell? ⟨bA, oA + k * 6, none⟩ = some (.int .i64 y.kind) ∧ w'.cell? ⟨bA, oA + k * 6 + 1, none⟩ = some (.bool y.tr) ∧ w'.cell? ⟨bA, oA + k * 6 + 2, none⟩ = some (.int .i64 y.num) ∧ w'.cell? ⟨bA, oA + k * 6 + 3, none⟩ = some (.string y.str) ∧ w'.cell? ⟨bA, oA + k * 6 + 4, none⟩ = some (.slice D y.items.length g) ∧ w'.cell? ⟨bA, oA + k * 6 + 5, none⟩ = some (.slice D' y.keys.length g')) ∧ (w'.cell? ⟨G + 1, 0, none⟩ = some (.int .i64 x.kind) ∧ w'.cell? ⟨G + 1, 1, none⟩ = some (.bool x.tr) ∧ w'.cell? ⟨G + 1, 2, none⟩ = some (.int .i64 x.num) ∧ w'.cell? ⟨G + 1, 3, none⟩ = some (.string x.str) ∧ w'.cell? ⟨G + 1, 4, none⟩ = some (.slice C x.items.length f) ∧ w'.cell? ⟨G + 1, 5, none⟩ = some (.slice C' x.keys.length f'))) (by kernel_rfl) ?_ (fun hHeld => ?_)
      · exact HS11.out _ (Below.refl _ _).drew
      refine wpAnyH_take (i := 0) (v := ?_) rfl (by kernel_rfl) (by kernel_rfl) (by kernel_rfl) (fun _ _ _ h => h) (Or.inl ⟨by rfl, ?_⟩) (by assumption) ?_
      rotate_left
      · intro wq hSw
        try dsimp only at hSw
        go_simp
        try (with_reducible rfl)
      try simp only [Act.put, List.getElem_toArray, List.getElem_cons_zero, List.setIfInBounds_toArray, List.set_cons_zero, List.set_cons_succ]
      refine wpAnyH_take (i := 1) (v := ?_) rfl (by kernel_rfl) (by kernel_rfl) (by kernel_rfl) (fun _ _ _ h => h) (Or.inl ⟨by rfl, ?_⟩) (by assumption) ?_
      rotate_left
      · intro wq hSw
        try dsimp only at hSw
        go_simp
        try (with_reducible rfl)
      try simp only [Act.put, List.getElem_toArray, List.getElem_cons_succ, List.getElem_cons_zero, List.setIfInBounds_toArray, List.set_cons_zero, List.set_cons_succ]
      refine wpAnyH_take (i := 2) (v := ?_) rfl (by kernel_rfl) (by kernel_rfl) (by kernel_rfl) (fun _ _ _ h => h) (Or.inl ⟨by rfl, ?_⟩) (by assumption) ?_
      rotate_left
      · intro wq hSw
        try dsimp only at hSw
        go_simp
        try (with_reducible rfl)
      try simp only [Act.put, List.getElem_toArray, List.getElem_cons_succ, List.getElem_cons_zero, List.setIfInBounds_toArray, List.set_cons_zero, List.set_cons_succ]
      refine wpAnyH_take (i := 3) (v := ?_) rfl (by kernel_rfl) (by kernel_rfl) (by kernel_rfl) (fun _ _ _ h => h) (Or.inl ⟨by rfl, ?_⟩) (by assumption) ?_
      rotate_left
      · intro wq hSw
        try dsimp only at hSw
        go_simp
        try (with_reducible rfl)
      try simp only [Act.put, List.getElem_toArray, List.getElem_cons_succ, List.getElem_cons_zero, List.setIfInBounds_toArray, List.set_cons_zero, List.set_cons_succ]
      refine wpAnyH_take (i := 4) (v := ?_) rfl (by kernel_rfl) (by kernel_rfl) (by kernel_rfl) (fun _ _ _ h => h) (Or.inl ⟨by rfl, ?_⟩) (by assumption) ?_
      rotate_left
      · intro wq hSw
        try dsimp only at hSw
        go_simp
        try (with_reducible rfl)
      try simp only [Act.put, List.getElem_toArray, List.getElem_cons_succ, List.getElem_cons_zero, List.setIfInBounds_toArray, List.set_cons_zero, List.set_cons_succ]
      refine wpAnyH_take (i := 5) (v := ?_) rfl (by kernel_rfl) (by kernel_rfl) (by kernel_rfl) (fun _ _ _ h => h) (Or.inl ⟨by rfl, ?_⟩) (by assumption) ?_
      rotate_left
      · intro wq hSw
        try dsimp only at hSw
        go_simp
        try (with_reducible rfl)
      try simp only [Act.put, List.getElem_toArray, List.getElem_cons_succ, List.getElem_cons_zero, List.setIfInBounds_toArray, List.set_cons_zero, List.set_cons_succ]
      refine wpAnyH_take (i := 6) (v := ?_) rfl (by kernel_rfl) (by kernel_rfl) (by kernel_rfl) (fun _ _ _ h => h) (Or.inl ⟨by rfl, ?_⟩) (by assumption) ?_
      rotate_left
      · intro wq hSw
        try dsimp only at hSw
        go_simp
        try (with_reducible rfl)
      try simp only [Act.put, List.getElem_toArray, List.getElem_cons_succ, List.getElem_cons_zero, List.setIfInBounds_toArray, List.set_cons_zero, List.set_cons_succ]
      refine wpAnyH_take (i := 7) (v := ?_) rfl (by kernel_rfl) (by kernel_rfl) (by kernel_rfl) (fun _ _ _ h => h) (Or.inl ⟨by rfl, ?_⟩) (by assumption) ?_
      rotate_left
      · intro wq hSw
        try dsimp only at hSw
        go_simp
        try (with_reducible rfl)
      try simp only [Act.put, List.getElem_toArray, List.getElem_cons_succ, List.getElem_cons_zero, List.setIfInBounds_toArray, List.set_cons_zero, List.set_cons_succ]
      refine wpAnyH_take (i := 8) (v := ?_) rfl (by kernel_rfl) (by kernel_rfl) (by kernel_rfl) (fun _ _ _ h => h) (Or.inl ⟨by rfl, ?_⟩) (by assumption) ?_
      rotate_left
      · intro wq hSw
        try dsimp only at hSw
        go_simp
        try (with_reducible rfl)
      try simp only [Act.put, List.getElem_toArray, List.getElem_cons_succ, List.getElem_cons_zero, List.setIfInBounds_toArray, List.set_cons_zero, List.set_cons_succ]
      refine wpAnyH_take (i := 9) (v := ?_) rfl (by kernel_rfl) (by kernel_rfl) (by kernel_rfl) (fun _ _ _ h => h) (Or.inl ⟨by rfl, ?_⟩) (by assumption) ?_
      rotate_left
      · intro wq hSw
        try dsimp only at hSw
        go_simp
        try (with_reducible rfl)
      try simp only [Act.put, List.getElem_toArray, List.getElem_cons_succ, List.getElem_cons_zero, List.setIfInBounds_toArray, List.set_cons_zero, List.set_cons_succ]
      refine wpAnyH_take (i := 10) (v := ?_) rfl (by kernel_rfl) (by kernel_rfl) (by kernel_rfl) (fun _ _ _ h => h) (Or.inl ⟨by rfl, ?_⟩) (by assumption) ?_
      rotate_left
      · intro wq hSw
        try dsimp only at hSw
        go_simp
        try (with_reducible rfl)
      try simp only [Act.put, List.getElem_toArray, List.getElem_cons_succ, List.getElem_cons_zero, List.setIfInBounds_toArray, List.set_cons_zero, List.set_cons_succ]
      generalize (if cp = 1 then some (⟨bp, op, none⟩ : Addr) else some ⟨bp, op + 1, none⟩) = P1 at *
      refine wpAnyH_ready (rs := [11]) (by kernel_rfl) (by simp) ?_
      refine AllReadyH.cons rfl (fun K0 hK => ?_) ?_
      rotate_left
      · exact AllReadyH.nil
      go_simp
      refine (HTx.out _ ?_).mono ?_
      · exact (Below.refl _ _).drew
      rintro e12 w12 ⟨D2, d2, D2', d2', rfl, hT12, hb12⟩
      unfold T.agg
      have HT12 := Lib.hid hT12
      have HBd := Lib.hid (show Below W11.heap.size W11 w12 from (Below.refl W11.heap.size W11).drew.trans hb12)
      clear hb12 hT12
      go_wp2_with fail
      refine hK.out _ _ ?_ (fun hHeld => ?_)
      · exact HS11.out _ HBd.out
      clear hK K0
      try simp only [Act.put, List.getElem_toArray, List.getElem_cons_succ, List.getElem_cons_zero, List.setIfInBounds_toArray, List.set_cons_zero, List.set_cons_succ]
      refine wpAnyH_take (i := 12) (v := ?_) rfl (by kernel_rfl) (by kernel_rfl) (by kernel_rfl) (fun _ _ _ h => h) (Or.inl ⟨by rfl, ?_⟩) (by assumption) ?_
      rotate_left
      · intro wq hSw
        try dsimp only at hSw
        go_simp
        try (with_reducible rfl)
      try simp only [Act.put, List.getElem_toArray, List.getElem_cons_succ, List.getElem_cons_zero, List.setIfInBounds_toArray, List.set_cons_zero, List.set_cons_succ]
      obtain ⟨n0, n1, n2, n3, n4, n5, m0, m1, m2, m3, m4, m5⟩ := HN11.out w12 HBd.out
      have z0 := HF11.out w12 HBd.out (k * 6)
      have z1 := HF11.out w12 HBd.out (k * 6 + 1)
      have z2 := HF11.out w12 HBd.out (k * 6 + 2)
      have z3 := HF11.out w12 HBd.out (k * 6 + 3)
      have z4 := HF11.out w12 HBd.out (k * 6 + 4)
      have z5 := HF11.out w12 HBd.out (k * 6 + 5)
      refine wpAnyH_ready (rs := [13]) (by kernel_rfl) (by simp) ?_
      refine AllReadyH.cons rfl (fun K0 hK => ?_) ?_
      rotate_left
      · exact AllReadyH.nil
      go_simp
      refine hK.out _ _ ?_ (fun hHeld => ?_)
      · have hS := HS11.out w12 HBd.out
        have hne : ∀ b o, b ≠ gN → (((((((w12.setCell ⟨gN, k * 6, none⟩ (.int .i64 z.kind)).setCell ⟨gN, k * 6 + 1, none⟩ (.bool z.tr)).setCell ⟨gN, k * 6 + 2, none⟩ (.int .i64 z.num)).setCell ⟨gN, k * 6 + 3, none⟩ (.string z.str)).setCell ⟨gN, k * 6 + 4, none⟩ (.slice D2 z.items.length d2)).setCell ⟨gN, k * 6 + 5, none⟩ (.slice D2' z.keys.length d2'))).cell? ⟨b, o, none⟩ = w12.cell? ⟨b, o, none⟩ := fun b o hb => World.cell?_of_block (put6_heap hb)
        have hbA2 : bA < B0 := hbA
        have hsW := hb11.out.size
        have g1 : G ≠ gN := by omega
        have g2 : G + 1 ≠ gN := by omega
        have g3 : bA ≠ gN := by omega
        try dsimp only
        rw [hne K _ hKg, hne G _ g1, hne bA _ g3, hne bA _ g3, hne bA _ g3, hne bA _ g3, hne bA _ g3, hne bA _ g3, hne (G + 1) _ g2, hne (G + 1) _ g2, hne (G + 1) _ g2, hne (G + 1) _ g2, hne (G + 1) _ g2, hne (G + 1) _ g2]
        exact hS
      clear hK K0
      try simp only [Act.put, List.getElem_toArray, List.getElem_cons_succ, List.getElem_cons_zero, List.setIfInBounds_toArray, List.set_cons_zero, List.set_cons_succ]
      refine wpAnyH_done (by kernel_rfl) ?_ _
      have hsW' := hb11.out.size
      all_goals
        have hbd := HBd.out
        have hw12 : Below G w w12 := hww11.out.trans (hbd.mono (by have := hww11.out.size; omega))
        have hs12 := hbd.size
        have hsW := hb11.out.size
        have hbN := hN11.out.onto hbd
        have hRW2 := (HB2.out.onto hb11.out).onto hbd
        obtain ⟨W13, hW13, hKW, hRW, hF, hTT, hE⟩ := rset_end (w := w) (W11 := W11) (w12 := w12) (t := t) (z := z) (xs := xs) hG hB (show G + 1 + 1 < gN by omega) (by omega) hKg hkl hbN hcsz hnd hcur hw12 hs12 HC.out HV.out.keys HV.out.lens.2 HT12.out (hK11'.out.onto hbd) hRW2
        rw [← hW13]
        clear hW13
        have r0 : W13.cell? ⟨K, 0, none⟩ = some (.int .i64 t.kind) := hKW.cell 0
        have r1 : W13.cell? ⟨K, 1, none⟩ = some (.bool t.tr) := hKW.cell 1
        have r2 : W13.cell? ⟨K, 2, none⟩ = some (.int .i64 t.num) := hKW.cell 2
        have r3 : W13.cell? ⟨K, 3, none⟩ = some (.string t.str) := hKW.cell 3
        have r4 : W13.cell? ⟨K, 4, none⟩ = some (.slice (some ⟨gN, 0, none⟩) t.items.length dn) := hKW.cell 4
        have r5 : W13.cell? ⟨K, 5, none⟩ = some (.slice A' t.keys.length c') := hKW.cell 5
        have q0 : W13.cell? ⟨G + 1 + 1, 0, none⟩ = some (.int .i64 0) := hRW.cell 0
        have q1 : W13.cell? ⟨G + 1 + 1, 1, none⟩ = some (.bool false) := hRW.cell 1
        have q2 : W13.cell? ⟨G + 1 + 1, 2, none⟩ = some (.int .i64 0) := hRW.cell 2
        have q3 : W13.cell? ⟨G + 1 + 1, 3, none⟩ = some (.string ⟨#[]⟩) := hRW.cell 3
        have q4 : W13.cell? ⟨G + 1 + 1, 4, none⟩ = some (.slice none 0 0) := hRW.cell 4
        have q5 : W13.cell? ⟨G + 1 + 1, 5, none⟩ = some (.slice none 0 0) := hRW.cell 5
        have f0 := hRW.free 0
        have f1 := hRW.free 1
        have f2 := hRW.free 2
        have f3 := hRW.free 3
        have f4 := hRW.free 4
        have f5 := hRW.free 5
        have HF := Lib.hid hF
        have HE2 := Lib.hid hE
        have HTT := Lib.hid hTT
        clear hF hTT hE hKW hRW hRW2 hbN hw12 hbd m0 m1 m2 m3 m4 m5 z0 z1 z2 z3 z4 z5 k4 g4 y0 y1 y2 y3 y4 y5 x0 x1 x2 x3 x4 x5 hcur hcsz hnd
        go_wp2_with fail
        generalize ((((((W13.setCell ⟨G + 1 + 1, 0, none⟩ (.int .i64 t.kind)).setCell ⟨G + 1 + 1, 1, none⟩ (.bool t.tr)).setCell ⟨G + 1 + 1, 2, none⟩ (.int .i64 t.num)).setCell ⟨G + 1 + 1, 3, none⟩ (.string t.str)).setCell ⟨G + 1 + 1, 4, none⟩ (.slice (some ⟨gN, 0, none⟩) t.items.length dn)).setCell ⟨G + 1 + 1, 5, none⟩ (.slice A' t.keys.length c')) = Wf at *
        have m0 : Wf.cell? ⟨G + 1 + 1, 0, none⟩ = some (.int .i64 t.kind) := HF.out.cell 0
        have m1 : Wf.cell? ⟨G + 1 + 1, 1, none⟩ = some (.bool t.tr) := HF.out.cell 1
        have m2 : Wf.cell? ⟨G + 1 + 1, 2, none⟩ = some (.int .i64 t.num) := HF.out.cell 2
        have m3 : Wf.cell? ⟨G + 1 + 1, 3, none⟩ = some (.string t.str) := HF.out.cell 3
        have m4 : Wf.cell? ⟨G + 1 + 1, 4, none⟩ = some (.slice (some ⟨gN, 0, none⟩) t.items.length dn) := HF.out.cell 4
        have m5 : Wf.cell? ⟨G + 1 + 1, 5, none⟩ = some (.slice A' t.keys.length c') := HF.out.cell 5
        exact bodyPost_ret (v := .agg #[.int .i64 t.kind, .bool t.tr, .int .i64 t.num, .string t.str, .slice (some ⟨gN, 0, none⟩) t.items.length dn, .slice A' t.keys.length c']) (by simp [results, Tryd.results16, go_sem, m0, m1, m2, m3, m4, m5]) rfl ⟨some ⟨gN, 0, none⟩, dn, A', c', by rw [agg_with], HTT.out, HE2.out⟩
/-- how a call ends that gives a value -/
def GivesV (r : T) (w : World) (e : Ending) (w' : World) : Prop := ∃ D d D' d', e = .returned (.agg #[.int .i64 r.kind, .bool r.tr, .int .i64 r.num, .string r.str, .slice D r.items.length d, .slice D' r.keys.length d']) ∧ TV w' (· < w'.heap.size) r D d D' d' ∧ Below w.heap.size w w'
theorem rset_any (t x r : T) (p : List ByteArray) (P : Option Addr) (cp : Nat) (A : Option Addr) (c : Nat) (A' : Option Addr) (c' : Nat) (C : Option Addr) (f : Nat) (C' : Option Addr) (f' : Nat) (w : World) (hn : t.Nice) (hs : Sets t p x r) (hpc : p.length ≤ cp) (hpl : p.length ≤ 1000) (hp : SReads w (· < w.heap.size) P p) (hv : TV w (· < w.heap.size) t A c A' c') (hvx : TV w (· < w.heap.size) x C f C' f') :
    Calls Tryd.prog 16 #[.agg #[.int .i64 t.kind, .bool t.tr, .int .i64 t.num, .string t.str, .slice A t.items.length c, .slice A' t.keys.length c'], .slice P p.length cp, .agg #[.int .i64 x.kind, .bool x.tr, .int .i64 x.num, .string x.str, .slice C x.items.length f, .slice C' x.keys.length f']] w (GivesV r w) := by
  refine (rset_at p w.heap.size t x r P cp A c A' c' C f C' f' w hn.fine hs hpc hpl (Nat.le_refl _) hp hv hvx).mono ?_
  rintro e w' ⟨D, d, D', d', rfl, hT, hb⟩
  have hsz := hb.size
  exact ⟨D, d, D', d', rfl, hT.wide fun b h => by show b < w'.heap.size; omega, hb⟩
end Go.Proofs.YthkpeomdklcnmaaDoor
