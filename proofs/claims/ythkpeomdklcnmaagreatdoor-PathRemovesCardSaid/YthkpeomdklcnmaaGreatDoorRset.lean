/- The reference's Set: contract. -/
import Derived.Test.YthkpeomdklcnmaaGreatDoorSets
import Derived.Test.YthkpeomdklcnmaaGreatDoorReachS
import Derived.Test.YthkpeomdklcnmaaGreatDoorRefv
import Derived.Test.YthkpeomdklcnmaaGreatDoorRget
import Derived.Test.YthkpeomdklcnmaaGreatDoorAppS
import Derived.Outline
namespace Go.Proofs.YthkpeomdklcnmaaGreatDoor
open Go.RowKit
set_option linter.unusedVariables false

theorem app_vs {ops : Array Oper} {rest : List Oper} {o : Oper} {a : Act} {Q : Exit → Act → World → Prop} {w : World} (hgd : o.guard = none) (s x : Operand)
    (ho : o.op = .call { callee := .builtin .append, args := #[s, x], argTypes := #[27, 27] })
    (base : Nat) (v : Value) (hs : a.eval s = v) (hown : w.ownsRow base 29 6 v 0 []) (A : Option Addr) (n c : Nat) (xs : List Value) (hx : a.eval x = .slice A n c) (hsrc : Src w A n 6 xs) (h1 : ∀ u ∈ xs, u.oneCell' = true) (hn : n ≤ 100000) (hbase : base ≤ w.heap.size)
    (h : ∀ B d w', w'.ownsRow base 29 6 (.slice B n d) n xs → (∀ W, Below base W w → Below base W w') → w.grownBy w' v.ownBlock → wpList Tryz.prog ops Q rest (a.put o.dst (.slice B n d)) w') : wpList Tryz.prog ops Q (o :: rest) a w := by
  obtain ⟨i1, hi1, hy0, hy1, hy2⟩ := info_parts infoV
  refine app_list hgd s x 27 ho base 29 i1 (.agg #[.int .i64 0, .bool false, .int .i64 0, .string ⟨#[]⟩, .slice none 0 0, .slice none 0 0]) 6 88 Tryz.underlying27 hi1 hy0 hy1 hy2 rfl (by decide) v 0 [] hs hown A n c xs hx hsrc h1 (by unfold maxLen; omega) (by omega) hbase n (by omega) ?_
  intro B d w' h2 h3 _
  rw [List.nil_append] at h2
  exact h B d w' h2 (fun W hW => hW.grown h3 hbase (fun k hk => (hown.lt k hk).1)) h3
/-- a row of values that the call owns, its block known -/
theorem own_blk {w : World} {base n : Nat} {B : Option Addr} {d : Nat} {xs : List Value} (h : w.ownsRow base 29 6 (.slice B n d) n xs) (hn : 0 < n) : ∃ g cur, B = some ⟨g, 0, none⟩ ∧ base ≤ g ∧ Blk w g 29 cur ∧ n * 6 ≤ cur.size ∧ n ≤ d ∧ ∀ j, j < n * 6 → cur[j]? = xs[j]? := by
  rcases h.2 with ⟨he, h0⟩ | ⟨g, cap, cur, he, hb, hh, hle, hm, hs, ht⟩
  · omega
  · injection he with e1 e2 e3
    subst e1 e3
    refine ⟨g, cur, rfl, hb, hh, ?_, hle, fun j hj => ?_⟩
    · rw [hs]; exact Nat.mul_le_mul_right _ hle
    · rw [← ht, List.getElem?_take_of_lt hj, Array.getElem?_toList]
/-- the value in which another item stands, in the row whose cell was stored to -/
theorem tv_with {w : World} {g : Nat} {t z : T} {k : Nat} {cur : Array Value} {xs : List Value} {d : Nat} {A' : Option Addr} {c' : Nat} {D : Option Addr} {dd : Nat} {D' : Option Addr} {dd' : Nat} {S : Nat → Prop}
    (hk : k < t.items.length) (hb : Blk w g 29 cur) (hsz : t.items.length * 6 ≤ cur.size) (hd : t.items.length ≤ d) (hcur : ∀ j, j < t.items.length * 6 → cur[j]? = xs[j]?) (hc : Cells w S t.items xs) (hS : ¬ S g) (hz : TV w S z D dd D' dd') (hkeys : SReads w S A' t.keys) (hkl : t.keys.length ≤ c') :
    TV ((((((w.setCell ⟨g, k * 6, none⟩ (.int .i64 z.kind)).setCell ⟨g, k * 6 + 1, none⟩ (.bool z.tr)).setCell ⟨g, k * 6 + 2, none⟩ (.int .i64 z.num)).setCell ⟨g, k * 6 + 3, none⟩ (.string z.str)).setCell ⟨g, k * 6 + 4, none⟩ (.slice D z.items.length dd)).setCell ⟨g, k * 6 + 5, none⟩ (.slice D' z.keys.length dd')) (fun b => S b ∨ b = g) (t.with_ k z) (some ⟨g, 0, none⟩) d A' c' := by
  obtain ⟨cs', hb', hz', h6', hfar⟩ := six_put hb (o := k * 6) (by omega) z D dd D' dd'
  have hkeep : Keeps S w ((((((w.setCell ⟨g, k * 6, none⟩ (.int .i64 z.kind)).setCell ⟨g, k * 6 + 1, none⟩ (.bool z.tr)).setCell ⟨g, k * 6 + 2, none⟩ (.int .i64 z.num)).setCell ⟨g, k * 6 + 3, none⟩ (.string z.str)).setCell ⟨g, k * 6 + 4, none⟩ (.slice D z.items.length dd)).setCell ⟨g, k * 6 + 5, none⟩ (.slice D' z.keys.length dd')) := fun b hb => put6_heap (fun e => hS (e ▸ hb))
  refine TV.of (by rw [with_len]; exact hd) hkl (fun _ => ⟨g, 0, rfl, .inr rfl, fun i u hu => ?_⟩) ((hkeys.keep hkeep).wide fun b h => .inl h)
  by_cases hik : i = k
  · subst hik
    rw [with_at z hk] at hu
    injection hu with hu
    subst hu
    exact ⟨D, dd, D', dd', by rw [Nat.zero_add]; exact h6', (hz.keep hkeep).wide fun b h => .inl h⟩
  · rw [with_off z hik] at hu
    have hil := lt_of_get hu
    obtain ⟨B, e, B', e', h1, h2⟩ := hc.2.2 i u hu
    refine ⟨B, e, B', e', ?_, (h2.keep hkeep).wide fun b h => .inl h⟩
    have at_ : ∀ j, j < 6 → (((((((w.setCell ⟨g, k * 6, none⟩ (.int .i64 z.kind)).setCell ⟨g, k * 6 + 1, none⟩ (.bool z.tr)).setCell ⟨g, k * 6 + 2, none⟩ (.int .i64 z.num)).setCell ⟨g, k * 6 + 3, none⟩ (.string z.str)).setCell ⟨g, k * 6 + 4, none⟩ (.slice D z.items.length dd)).setCell ⟨g, k * 6 + 5, none⟩ (.slice D' z.keys.length dd'))).cell? ⟨g, i * 6 + j, none⟩ = (#[.int .i64 u.kind, .bool u.tr, .int .i64 u.num, .string u.str, .slice B u.items.length e, .slice B' u.keys.length e'])[j]? := fun j hj => by
      rw [hb'.cell, hfar (i * 6 + j) (by omega), hcur _ (by omega), h1 j hj]; rfl
    rw [Nat.zero_add]
    exact ⟨at_ 0 (by omega), at_ 1 (by omega), at_ 2 (by omega), at_ 3 (by omega), at_ 4 (by omega), at_ 5 (by omega)⟩
/-- what stands in the end, where the new item has been stored: the row, and the box that is handed back -/
theorem rset_end {B0 G K gN k dn c' : Nat} {w W11 w12 : World} {t z : T} {cur : Array Value} {xs : List Value} {A' : Option Addr} {D2 : Option Addr} {d2 : Nat} {D2' : Option Addr} {d2' : Nat}
    (hG : w.heap.size = G) (hB : B0 ≤ G) (hl2 : G + 1 + 1 < gN) (hgl : gN < W11.heap.size) (hKg : K ≠ gN) (hkl : k < t.items.length) (hbN : Blk w12 gN 29 cur) (hcsz : t.items.length * 6 ≤ cur.size) (hnd : t.items.length ≤ dn) (hcur : ∀ j, j < t.items.length * 6 → cur[j]? = xs[j]?)
    (hw12 : Below G w w12) (hs12 : W11.heap.size ≤ w12.heap.size) (hC : Cells w (· < B0) t.items xs) (hkeys : SReads w (· < B0) A' t.keys) (hl : t.keys.length ≤ c') (hT : TV w12 (fun b => b < B0 ∨ W11.heap.size ≤ b ∧ b < w12.heap.size) z D2 d2 D2' d2')
    (hK : Blk w12 K 29 #[.int .i64 t.kind, .bool t.tr, .int .i64 t.num, .string t.str, .slice (some ⟨gN, 0, none⟩) t.items.length dn, .slice A' t.keys.length c']) (hR : Blk w12 (G + 1 + 1) 29 #[.int .i64 0, .bool false, .int .i64 0, .string ⟨#[]⟩, .slice none 0 0, .slice none 0 0]) :
    ∃ W : World, W = ((((((w12.setCell ⟨gN, k * 6, none⟩ (.int .i64 z.kind)).setCell ⟨gN, k * 6 + 1, none⟩ (.bool z.tr)).setCell ⟨gN, k * 6 + 2, none⟩ (.int .i64 z.num)).setCell ⟨gN, k * 6 + 3, none⟩ (.string z.str)).setCell ⟨gN, k * 6 + 4, none⟩ (.slice D2 z.items.length d2)).setCell ⟨gN, k * 6 + 5, none⟩ (.slice D2' z.keys.length d2')) ∧ Blk W K 29 #[.int .i64 t.kind, .bool t.tr, .int .i64 t.num, .string t.str, .slice (some ⟨gN, 0, none⟩) t.items.length dn, .slice A' t.keys.length c'] ∧ Blk W (G + 1 + 1) 29 #[.int .i64 0, .bool false, .int .i64 0, .string ⟨#[]⟩, .slice none 0 0, .slice none 0 0] ∧ Blk ((((((W.setCell ⟨G + 1 + 1, 0, none⟩ (.int .i64 t.kind)).setCell ⟨G + 1 + 1, 1, none⟩ (.bool t.tr)).setCell ⟨G + 1 + 1, 2, none⟩ (.int .i64 t.num)).setCell ⟨G + 1 + 1, 3, none⟩ (.string t.str)).setCell ⟨G + 1 + 1, 4, none⟩ (.slice (some ⟨gN, 0, none⟩) t.items.length dn)).setCell ⟨G + 1 + 1, 5, none⟩ (.slice A' t.keys.length c')) (G + 1 + 1) 29 #[.int .i64 t.kind, .bool t.tr, .int .i64 t.num, .string t.str, .slice (some ⟨gN, 0, none⟩) t.items.length dn, .slice A' t.keys.length c'] ∧ TV ((((((W.setCell ⟨G + 1 + 1, 0, none⟩ (.int .i64 t.kind)).setCell ⟨G + 1 + 1, 1, none⟩ (.bool t.tr)).setCell ⟨G + 1 + 1, 2, none⟩ (.int .i64 t.num)).setCell ⟨G + 1 + 1, 3, none⟩ (.string t.str)).setCell ⟨G + 1 + 1, 4, none⟩ (.slice (some ⟨gN, 0, none⟩) t.items.length dn)).setCell ⟨G + 1 + 1, 5, none⟩ (.slice A' t.keys.length c')) (fun b => b < B0 ∨ w.heap.size ≤ b ∧ b < (((((((W.setCell ⟨G + 1 + 1, 0, none⟩ (.int .i64 t.kind)).setCell ⟨G + 1 + 1, 1, none⟩ (.bool t.tr)).setCell ⟨G + 1 + 1, 2, none⟩ (.int .i64 t.num)).setCell ⟨G + 1 + 1, 3, none⟩ (.string t.str)).setCell ⟨G + 1 + 1, 4, none⟩ (.slice (some ⟨gN, 0, none⟩) t.items.length dn)).setCell ⟨G + 1 + 1, 5, none⟩ (.slice A' t.keys.length c'))).heap.size) (t.with_ k z) (some ⟨gN, 0, none⟩) dn A' c' ∧ Below w.heap.size w ((((((W.setCell ⟨G + 1 + 1, 0, none⟩ (.int .i64 t.kind)).setCell ⟨G + 1 + 1, 1, none⟩ (.bool t.tr)).setCell ⟨G + 1 + 1, 2, none⟩ (.int .i64 t.num)).setCell ⟨G + 1 + 1, 3, none⟩ (.string t.str)).setCell ⟨G + 1 + 1, 4, none⟩ (.slice (some ⟨gN, 0, none⟩) t.items.length dn)).setCell ⟨G + 1 + 1, 5, none⟩ (.slice A' t.keys.length c')) := by
  have s1 : Cells w12 (fun b => b < B0 ∨ W11.heap.size ≤ b ∧ b < w12.heap.size) t.items xs := (hC.on (hw12.mono hB) (Nat.le_refl _)).wide fun b h => .inl h
  have s2 : ¬ (gN < B0 ∨ W11.heap.size ≤ gN ∧ gN < w12.heap.size) := by omega
  have s3 : SReads w12 (fun b => b < B0 ∨ W11.heap.size ≤ b ∧ b < w12.heap.size) A' t.keys := (hkeys.below (hw12.mono hB)).wide fun b h => .inl h
  have hTW : TV ((((((w12.setCell ⟨gN, k * 6, none⟩ (.int .i64 z.kind)).setCell ⟨gN, k * 6 + 1, none⟩ (.bool z.tr)).setCell ⟨gN, k * 6 + 2, none⟩ (.int .i64 z.num)).setCell ⟨gN, k * 6 + 3, none⟩ (.string z.str)).setCell ⟨gN, k * 6 + 4, none⟩ (.slice D2 z.items.length d2)).setCell ⟨gN, k * 6 + 5, none⟩ (.slice D2' z.keys.length d2')) (fun b => (b < B0 ∨ W11.heap.size ≤ b ∧ b < w12.heap.size) ∨ b = gN) (t.with_ k z) (some ⟨gN, 0, none⟩) dn A' c' :=
    tv_with (S := fun b => b < B0 ∨ W11.heap.size ≤ b ∧ b < w12.heap.size) (xs := xs) (cur := cur) hkl hbN hcsz hnd hcur s1 s2 hT s3 hl
  have hKW : Blk ((((((w12.setCell ⟨gN, k * 6, none⟩ (.int .i64 z.kind)).setCell ⟨gN, k * 6 + 1, none⟩ (.bool z.tr)).setCell ⟨gN, k * 6 + 2, none⟩ (.int .i64 z.num)).setCell ⟨gN, k * 6 + 3, none⟩ (.string z.str)).setCell ⟨gN, k * 6 + 4, none⟩ (.slice D2 z.items.length d2)).setCell ⟨gN, k * 6 + 5, none⟩ (.slice D2' z.keys.length d2')) K 29 #[.int .i64 t.kind, .bool t.tr, .int .i64 t.num, .string t.str, .slice (some ⟨gN, 0, none⟩) t.items.length dn, .slice A' t.keys.length c'] := (put6_heap hKg).trans hK
  have hRW : Blk ((((((w12.setCell ⟨gN, k * 6, none⟩ (.int .i64 z.kind)).setCell ⟨gN, k * 6 + 1, none⟩ (.bool z.tr)).setCell ⟨gN, k * 6 + 2, none⟩ (.int .i64 z.num)).setCell ⟨gN, k * 6 + 3, none⟩ (.string z.str)).setCell ⟨gN, k * 6 + 4, none⟩ (.slice D2 z.items.length d2)).setCell ⟨gN, k * 6 + 5, none⟩ (.slice D2' z.keys.length d2')) (G + 1 + 1) 29 #[.int .i64 0, .bool false, .int .i64 0, .string ⟨#[]⟩, .slice none 0 0, .slice none 0 0] := (put6_heap (by omega)).trans hR
  have hBW : Below G w ((((((w12.setCell ⟨gN, k * 6, none⟩ (.int .i64 z.kind)).setCell ⟨gN, k * 6 + 1, none⟩ (.bool z.tr)).setCell ⟨gN, k * 6 + 2, none⟩ (.int .i64 z.num)).setCell ⟨gN, k * 6 + 3, none⟩ (.string z.str)).setCell ⟨gN, k * 6 + 4, none⟩ (.slice D2 z.items.length d2)).setCell ⟨gN, k * 6 + 5, none⟩ (.slice D2' z.keys.length d2')) := put6_below hw12 (by omega)
  have hzW : (((((((w12.setCell ⟨gN, k * 6, none⟩ (.int .i64 z.kind)).setCell ⟨gN, k * 6 + 1, none⟩ (.bool z.tr)).setCell ⟨gN, k * 6 + 2, none⟩ (.int .i64 z.num)).setCell ⟨gN, k * 6 + 3, none⟩ (.string z.str)).setCell ⟨gN, k * 6 + 4, none⟩ (.slice D2 z.items.length d2)).setCell ⟨gN, k * 6 + 5, none⟩ (.slice D2' z.keys.length d2'))).heap.size = w12.heap.size := put6_size
  refine ⟨_, rfl, hKW, hRW, ?_⟩
  generalize ((((((w12.setCell ⟨gN, k * 6, none⟩ (.int .i64 z.kind)).setCell ⟨gN, k * 6 + 1, none⟩ (.bool z.tr)).setCell ⟨gN, k * 6 + 2, none⟩ (.int .i64 z.num)).setCell ⟨gN, k * 6 + 3, none⟩ (.string z.str)).setCell ⟨gN, k * 6 + 4, none⟩ (.slice D2 z.items.length d2)).setCell ⟨gN, k * 6 + 5, none⟩ (.slice D2' z.keys.length d2')) = W at *
  have hF : Blk ((((((W.setCell ⟨G + 1 + 1, 0, none⟩ (.int .i64 t.kind)).setCell ⟨G + 1 + 1, 1, none⟩ (.bool t.tr)).setCell ⟨G + 1 + 1, 2, none⟩ (.int .i64 t.num)).setCell ⟨G + 1 + 1, 3, none⟩ (.string t.str)).setCell ⟨G + 1 + 1, 4, none⟩ (.slice (some ⟨gN, 0, none⟩) t.items.length dn)).setCell ⟨G + 1 + 1, 5, none⟩ (.slice A' t.keys.length c')) (G + 1 + 1) 29 #[.int .i64 t.kind, .bool t.tr, .int .i64 t.num, .string t.str, .slice (some ⟨gN, 0, none⟩) t.items.length dn, .slice A' t.keys.length c'] := by
    have := res_put hRW rfl (t.with_ k z) (some ⟨gN, 0, none⟩) dn A' c'
    simp only [T.cs, with_len] at this
    exact this
  have hz : (((((((W.setCell ⟨G + 1 + 1, 0, none⟩ (.int .i64 t.kind)).setCell ⟨G + 1 + 1, 1, none⟩ (.bool t.tr)).setCell ⟨G + 1 + 1, 2, none⟩ (.int .i64 t.num)).setCell ⟨G + 1 + 1, 3, none⟩ (.string t.str)).setCell ⟨G + 1 + 1, 4, none⟩ (.slice (some ⟨gN, 0, none⟩) t.items.length dn)).setCell ⟨G + 1 + 1, 5, none⟩ (.slice A' t.keys.length c'))).heap.size = W.heap.size := put6_size
  refine ⟨hF, ?_, by rw [hG]; exact put6_below hBW (by omega)⟩
  refine (hTW.keep fun b hb => put6_heap (by rcases hb with (hb | hb) | hb <;> omega)).wide fun b hb => ?_
  show b < B0 ∨ w.heap.size ≤ b ∧ b < (((((((W.setCell ⟨G + 1 + 1, 0, none⟩ (.int .i64 t.kind)).setCell ⟨G + 1 + 1, 1, none⟩ (.bool t.tr)).setCell ⟨G + 1 + 1, 2, none⟩ (.int .i64 t.num)).setCell ⟨G + 1 + 1, 3, none⟩ (.string t.str)).setCell ⟨G + 1 + 1, 4, none⟩ (.slice (some ⟨gN, 0, none⟩) t.items.length dn)).setCell ⟨G + 1 + 1, 5, none⟩ (.slice A' t.keys.length c'))).heap.size
  rw [hz, hzW, hG]
  rcases hb with (hb | hb) | hb
  · exact .inl hb
  · exact .inr (by omega)
  · exact .inr (by omega)
theorem agg_with (t z : T) (k : Nat) (B : Option Addr) (d : Nat) (B' : Option Addr) (d' : Nat) : (t.with_ k z).agg B d B' d' = .agg #[.int .i64 t.kind, .bool t.tr, .int .i64 t.num, .string t.str, .slice B t.items.length d, .slice B' t.keys.length d'] := by
  unfold T.agg; rw [with_len]; rfl
theorem SReads.tail {w : World} {S : Nat → Prop} {bp op : Nat} {q : ByteArray} {p : List ByteArray} (h : SReads w S (some ⟨bp, op, none⟩) (q :: p)) : SReads w S (some ⟨bp, op + 1, none⟩) p := by
  intro _
  obtain ⟨b, o, e, hs, hc⟩ := h (by simp)
  injection e with e
  injection e with e1 e2
  subst e1 e2
  exact ⟨bp, op + 1, rfl, hs, fun i s hi => by
    have := hc (i + 1) s (by simpa using hi)
    rw [show op + 1 + i = op + (i + 1) by omega]; exact this⟩
/-- how a call ends that gives a value -/
def GivesV (r : T) (w : World) (e : Ending) (w' : World) : Prop := ∃ D d D' d', e = .returned (.agg #[.int .i64 r.kind, .bool r.tr, .int .i64 r.num, .string r.str, .slice D r.items.length d, .slice D' r.keys.length d']) ∧ TV w' (· < w'.heap.size) r D d D' d' ∧ Below w.heap.size w w'
end Go.Proofs.YthkpeomdklcnmaaGreatDoor
