/- The reference's Remove: what its rows hold. The reference's Remove: contract. The reference's Remove, of any path; the program's Good of a good value: contracts. -/
import Derived.Test.YthkpeomdklcnmaaGreatDoorRems
import Derived.Test.YthkpeomdklcnmaaGreatDoorRemW
import Derived.Test.YthkpeomdklcnmaaGreatDoorRset
import Derived.Outline
import Derived.Test.YthkpeomdklcnmaaGreatDoorGood
namespace Go.Proofs.YthkpeomdklcnmaaGreatDoor
open Go.RowKit
set_option linter.unusedVariables false

/-- append onto a row of values that holds some already -/
theorem app_vs2 {ops : Array Oper} {rest : List Oper} {o : Oper} {a : Act} {Q : Exit → Act → World → Prop} {w : World} (hgd : o.guard = none) (s x : Operand)
    (ho : o.op = .call { callee := .builtin .append, args := #[s, x], argTypes := #[27, 27] })
    (base : Nat) (v : Value) (n0 : Nat) (olds : List Value) (hs : a.eval s = v) (hown : w.ownsRow base 29 6 v n0 olds) (A : Option Addr) (n c : Nat) (xs : List Value) (hx : a.eval x = .slice A n c) (hsrc : Src w A n 6 xs) (h1 : ∀ u ∈ xs, u.oneCell' = true) (hn : n ≤ 100000) (hn0 : n0 ≤ 100000) (hbase : base ≤ w.heap.size) (N : Nat) (hN : n0 + n = N)
    (h : ∀ B d w', w'.ownsRow base 29 6 (.slice B N d) N (olds ++ xs) → (∀ W, Below base W w → Below base W w') → wpList Tryz.prog ops Q rest (a.put o.dst (.slice B N d)) w') : wpList Tryz.prog ops Q (o :: rest) a w := by
  obtain ⟨i1, hi1, hy0, hy1, hy2⟩ := info_parts infoV
  refine app_list hgd s x 27 ho base 29 i1 (.agg #[.int .i64 0, .bool false, .int .i64 0, .string ⟨#[]⟩, .slice none 0 0, .slice none 0 0]) 6 88 Tryz.underlying27 hi1 hy0 hy1 hy2 rfl (by decide) v n0 olds hs hown A n c xs hx hsrc h1 (by unfold maxLen; omega) (by omega) hbase N hN ?_
  intro B d w' h2 h3 _
  exact h B d w' h2 (fun W hW => hW.grown h3 hbase (fun k hk => (hown.lt k hk).1))
/-- append onto a row of texts -/
theorem app_ss2 {ops : Array Oper} {rest : List Oper} {o : Oper} {a : Act} {Q : Exit → Act → World → Prop} {w : World} (hgd : o.guard = none) (s x : Operand)
    (ho : o.op = .call { callee := .builtin .append, args := #[s, x], argTypes := #[24, 24] })
    (base : Nat) (v : Value) (n0 : Nat) (olds : List Value) (hs : a.eval s = v) (hown : w.ownsRow base 9 1 v n0 olds) (A : Option Addr) (n c : Nat) (xs : List Value) (hx : a.eval x = .slice A n c) (hsrc : Src w A n 1 xs) (h1 : ∀ u ∈ xs, u.oneCell' = true) (hn : n ≤ 100000) (hn0 : n0 ≤ 100000) (hbase : base ≤ w.heap.size) (N : Nat) (hN : n0 + n = N)
    (h : ∀ B d w', w'.ownsRow base 9 1 (.slice B N d) N (olds ++ xs) → (∀ W, Below base W w → Below base W w') → wpList Tryz.prog ops Q rest (a.put o.dst (.slice B N d)) w') : wpList Tryz.prog ops Q (o :: rest) a w := by
  obtain ⟨i1, hi1, hy0, hy1, hy2⟩ := info_parts infoStr
  refine app_list hgd s x 24 ho base 9 i1 (.string ⟨#[]⟩) 1 16 Tryz.underlying24 hi1 hy0 hy1 hy2 rfl (by decide) v n0 olds hs hown A n c xs hx hsrc h1 (by unfold maxLen; omega) (by omega) hbase N hN ?_
  intro B d w' h2 h3 _
  exact h B d w' h2 (fun W hW => hW.grown h3 hbase (fun k hk => (hown.lt k hk).1))
/-- the first ones of a source; those behind a place -/
theorem Src.take_ {w : World} {A : Option Addr} {n m : Nat} {xs : List Value} (h : Src w A n m xs) {k : Nat} (hk : k ≤ n) (hm : 0 < m) : Src w A k m (xs.take (k * m)) := by
  have h1 : k * m ≤ n * m := Nat.mul_le_mul_right _ hk
  refine ⟨by rw [List.length_take, h.1]; omega, fun hk0 => ?_⟩
  obtain ⟨ad, e, hc⟩ := h.2 (by omega)
  exact ⟨ad, e, fun j u hu => by rw [List.getElem?_take] at hu; split at hu; exact hc j u hu; cases hu⟩
theorem Src.drop_ {w : World} {g o n m c : Nat} {xs : List Value} (h : Src w (some ⟨g, o, none⟩) n m xs) {k : Nat} (hk : k ≤ n) (hc : n ≤ c) : Src w (if c = k then some ⟨g, o, none⟩ else some ⟨g, o + k * m, none⟩) (n - k) m (xs.drop (k * m)) := by
  have h1 : n * m = k * m + (n - k) * m := by rw [← Nat.add_mul]; congr 1; omega
  refine ⟨by rw [List.length_drop, h.1]; omega, fun hk0 => ?_⟩
  obtain ⟨ad, e, hc⟩ := h.2 (by omega)
  injection e with e
  subst e
  rw [if_neg (by omega)]
  refine ⟨_, rfl, fun j u hu => ?_⟩
  rw [List.getElem?_drop] at hu
  have := hc _ u hu
  rw [add_lit] at this ⊢
  rw [Nat.add_assoc]; exact this
theorem Src.keep_ {w w' : World} {B : Nat} {A : Option Addr} {n m : Nat} {xs : List Value} (h : ∀ W2, Below B w W2 → Src W2 A n m xs) (hb : Below B w w') : Src w' A n m xs := h w' hb
/-- the cells of the items but one -/
theorem cells_erase {w : World} {S : Nat → Prop} {l : List T} {xs : List Value} {k : Nat} (h : Cells w S l xs) (hk : k < l.length) : Cells w S (l.eraseIdx k) (xs.take (k * 6) ++ xs.drop ((k + 1) * 6)) := by
  obtain ⟨h1, h2, h3⟩ := h
  have hl : (xs.take (k * 6)).length = k * 6 := by rw [List.length_take, h1]; omega
  refine ⟨by rw [List.length_append, hl, List.length_drop, h1, List.length_eraseIdx, if_pos hk]; omega, fun u hu => ?_, fun i x hx => ?_⟩
  · rcases List.mem_append.1 hu with hu | hu
    · exact h2 u (List.mem_of_mem_take hu)
    · exact h2 u (List.mem_of_mem_drop hu)
  · rcases get_erase hx with ⟨hik, hx⟩ | ⟨hik, hx⟩
    · obtain ⟨B, e, B', e', c1, c2⟩ := h3 i x hx
      exact ⟨B, e, B', e', fun j hj => by rw [List.getElem?_append_left (by omega), List.getElem?_take, if_pos (by omega)]; exact c1 j hj, c2⟩
    · obtain ⟨B, e, B', e', c1, c2⟩ := h3 (i + 1) x hx
      exact ⟨B, e, B', e', fun j hj => by rw [List.getElem?_append_right (by omega), hl, List.getElem?_drop, ← c1 j hj]; congr 1; omega, c2⟩
/-- a row of the call's own, read as values -/
theorem own_vreads {w : World} {base : Nat} {B : Option Addr} {d n : Nat} {xs : List Value} {l : List T} {S : Nat → Prop} (h : w.ownsRow base 29 6 (.slice B n d) n xs) (hn : l.length = n) (hc : Cells w S l xs) :
    n ≤ d ∧ VReads w (fun b => S b ∨ base ≤ b ∧ b < w.heap.size) B l := by
  by_cases h0 : n = 0
  · have : l = [] := List.eq_nil_of_length_eq_zero (by omega)
    subst this
    exact ⟨by omega, VReads.none_ _ _ _⟩
  · obtain ⟨g, cur, rfl, hg, hb, hsz, hd, hcur⟩ := own_blk h (by omega)
    refine ⟨hd, fun _ => ⟨g, 0, rfl, .inr ⟨hg, hb.lt⟩, fun i x hx => ?_⟩⟩
    obtain ⟨C, e, C', e', c1, c2⟩ := hc.2.2 i x hx
    have hil := lt_of_get hx
    refine ⟨C, e, C', e', ?_, c2.wide fun b hb => .inl hb⟩
    have at_ : ∀ j, j < 6 → w.cell? ⟨g, i * 6 + j, none⟩ = (#[.int .i64 x.kind, .bool x.tr, .int .i64 x.num, .string x.str, .slice C x.items.length e, .slice C' x.keys.length e'])[j]? := fun j hj => by
      rw [hb.cell, hcur _ (by omega), c1 j hj]; rfl
    rw [Nat.zero_add]
    exact ⟨at_ 0 (by omega), at_ 1 (by omega), at_ 2 (by omega), at_ 3 (by omega), at_ 4 (by omega), at_ 5 (by omega)⟩
theorem cells_keep {w w' : World} {S : Nat → Prop} {l : List T} {xs : List Value} (h : Cells w S l xs) (hk : Keeps S w w') : Cells w' S l xs :=
  ⟨h.1, h.2.1, fun i x hx => by obtain ⟨B, e, B', e', h1, h2⟩ := h.2.2 i x hx; exact ⟨B, e, B', e', h1, h2.keep hk⟩⟩
theorem keys_erase {l : List ByteArray} {k : Nat} (hk : k < l.length) : ((l.map Value.string).take (k * 1)) ++ ((l.map Value.string).drop ((k + 1) * 1)) = (l.eraseIdx k).map Value.string := by
  rw [Nat.mul_one, Nat.mul_one, List.eraseIdx_eq_take_drop_succ, List.map_append, List.map_take, List.map_drop]
/-- the result's box in the end -/
theorem give_end {B0 G R : Nat} {w W : World} {r : T} {D : Option Addr} {d : Nat} {D' : Option Addr} {d' : Nat} (hG : w.heap.size = G) (hB : B0 ≤ G) (hGR : G ≤ R) (hR : Blk W R 29 #[.int .i64 0, .bool false, .int .i64 0, .string ⟨#[]⟩, .slice none 0 0, .slice none 0 0]) (hT : TV W (fun b => b < B0 ∨ (R < b ∧ b < W.heap.size)) r D d D' d') (hb : Below G w W) (kd : Int) (tr : Bool) (nm : Int) (st : ByteArray) (n m : Nat) (h0 : r.kind = kd) (h1 : r.tr = tr) (h2 : r.num = nm) (h3 : r.str = st) (h4 : r.items.length = n) (h5 : r.keys.length = m) :
    Blk ((((((W.setCell ⟨R, 0, none⟩ (.int .i64 kd)).setCell ⟨R, 1, none⟩ (.bool tr)).setCell ⟨R, 2, none⟩ (.int .i64 nm)).setCell ⟨R, 3, none⟩ (.string st)).setCell ⟨R, 4, none⟩ (.slice D n d)).setCell ⟨R, 5, none⟩ (.slice D' m d')) R 29 #[.int .i64 kd, .bool tr, .int .i64 nm, .string st, .slice D n d, .slice D' m d'] ∧
      (∃ E e E' e', Value.agg #[.int .i64 kd, .bool tr, .int .i64 nm, .string st, .slice D n d, .slice D' m d'] = r.agg E e E' e' ∧ TV ((((((W.setCell ⟨R, 0, none⟩ (.int .i64 kd)).setCell ⟨R, 1, none⟩ (.bool tr)).setCell ⟨R, 2, none⟩ (.int .i64 nm)).setCell ⟨R, 3, none⟩ (.string st)).setCell ⟨R, 4, none⟩ (.slice D n d)).setCell ⟨R, 5, none⟩ (.slice D' m d')) (fun b => b < B0 ∨ w.heap.size ≤ b ∧ b < (((((((W.setCell ⟨R, 0, none⟩ (.int .i64 kd)).setCell ⟨R, 1, none⟩ (.bool tr)).setCell ⟨R, 2, none⟩ (.int .i64 nm)).setCell ⟨R, 3, none⟩ (.string st)).setCell ⟨R, 4, none⟩ (.slice D n d)).setCell ⟨R, 5, none⟩ (.slice D' m d'))).heap.size) r E e E' e') ∧
      Below w.heap.size w ((((((W.setCell ⟨R, 0, none⟩ (.int .i64 kd)).setCell ⟨R, 1, none⟩ (.bool tr)).setCell ⟨R, 2, none⟩ (.int .i64 nm)).setCell ⟨R, 3, none⟩ (.string st)).setCell ⟨R, 4, none⟩ (.slice D n d)).setCell ⟨R, 5, none⟩ (.slice D' m d')) := by
  subst h0 h1 h2 h3 h4 h5
  have hz : (((((((W.setCell ⟨R, 0, none⟩ (.int .i64 r.kind)).setCell ⟨R, 1, none⟩ (.bool r.tr)).setCell ⟨R, 2, none⟩ (.int .i64 r.num)).setCell ⟨R, 3, none⟩ (.string r.str)).setCell ⟨R, 4, none⟩ (.slice D r.items.length d)).setCell ⟨R, 5, none⟩ (.slice D' r.keys.length d'))).heap.size = W.heap.size := put6_size
  refine ⟨res_put hR rfl r D d D' d', ⟨D, d, D', d', rfl, ?_⟩, by rw [hG]; exact put6_below hb hGR⟩
  refine (hT.keep fun b hb => put6_heap (by omega)).wide fun b hb => ?_
  show b < B0 ∨ w.heap.size ≤ b ∧ b < (((((((W.setCell ⟨R, 0, none⟩ (.int .i64 r.kind)).setCell ⟨R, 1, none⟩ (.bool r.tr)).setCell ⟨R, 2, none⟩ (.int .i64 r.num)).setCell ⟨R, 3, none⟩ (.string r.str)).setCell ⟨R, 4, none⟩ (.slice D r.items.length d)).setCell ⟨R, 5, none⟩ (.slice D' r.keys.length d'))).heap.size
  rw [hz, hG]
  omega
/-- what stands in the end, where the new item has been stored: the row, and the box that is handed back -/
theorem rset_endR {B0 G K gN k dn c' R : Nat} {w W11 w12 : World} {t z : T} {cur : Array Value} {xs : List Value} {A' : Option Addr} {D2 : Option Addr} {d2 : Nat} {D2' : Option Addr} {d2' : Nat}
    (hG : w.heap.size = G) (hB : B0 ≤ G) (hGR : G ≤ R) (hl2 : R < gN) (hgl : gN < W11.heap.size) (hKg : K ≠ gN) (hkl : k < t.items.length) (hbN : Blk w12 gN 29 cur) (hcsz : t.items.length * 6 ≤ cur.size) (hnd : t.items.length ≤ dn) (hcur : ∀ j, j < t.items.length * 6 → cur[j]? = xs[j]?)
    (hw12 : Below G w w12) (hs12 : W11.heap.size ≤ w12.heap.size) (hC : Cells w (· < B0) t.items xs) (hkeys : SReads w (· < B0) A' t.keys) (hl : t.keys.length ≤ c') (hT : TV w12 (fun b => b < B0 ∨ W11.heap.size ≤ b ∧ b < w12.heap.size) z D2 d2 D2' d2')
    (hK : Blk w12 K 29 #[.int .i64 t.kind, .bool t.tr, .int .i64 t.num, .string t.str, .slice (some ⟨gN, 0, none⟩) t.items.length dn, .slice A' t.keys.length c']) (hR : Blk w12 (R) 29 #[.int .i64 0, .bool false, .int .i64 0, .string ⟨#[]⟩, .slice none 0 0, .slice none 0 0]) :
    ∃ W : World, W = ((((((w12.setCell ⟨gN, k * 6, none⟩ (.int .i64 z.kind)).setCell ⟨gN, k * 6 + 1, none⟩ (.bool z.tr)).setCell ⟨gN, k * 6 + 2, none⟩ (.int .i64 z.num)).setCell ⟨gN, k * 6 + 3, none⟩ (.string z.str)).setCell ⟨gN, k * 6 + 4, none⟩ (.slice D2 z.items.length d2)).setCell ⟨gN, k * 6 + 5, none⟩ (.slice D2' z.keys.length d2')) ∧ Blk W K 29 #[.int .i64 t.kind, .bool t.tr, .int .i64 t.num, .string t.str, .slice (some ⟨gN, 0, none⟩) t.items.length dn, .slice A' t.keys.length c'] ∧ Blk W (R) 29 #[.int .i64 0, .bool false, .int .i64 0, .string ⟨#[]⟩, .slice none 0 0, .slice none 0 0] ∧ Blk ((((((W.setCell ⟨R, 0, none⟩ (.int .i64 t.kind)).setCell ⟨R, 1, none⟩ (.bool t.tr)).setCell ⟨R, 2, none⟩ (.int .i64 t.num)).setCell ⟨R, 3, none⟩ (.string t.str)).setCell ⟨R, 4, none⟩ (.slice (some ⟨gN, 0, none⟩) t.items.length dn)).setCell ⟨R, 5, none⟩ (.slice A' t.keys.length c')) (R) 29 #[.int .i64 t.kind, .bool t.tr, .int .i64 t.num, .string t.str, .slice (some ⟨gN, 0, none⟩) t.items.length dn, .slice A' t.keys.length c'] ∧ TV ((((((W.setCell ⟨R, 0, none⟩ (.int .i64 t.kind)).setCell ⟨R, 1, none⟩ (.bool t.tr)).setCell ⟨R, 2, none⟩ (.int .i64 t.num)).setCell ⟨R, 3, none⟩ (.string t.str)).setCell ⟨R, 4, none⟩ (.slice (some ⟨gN, 0, none⟩) t.items.length dn)).setCell ⟨R, 5, none⟩ (.slice A' t.keys.length c')) (fun b => b < B0 ∨ w.heap.size ≤ b ∧ b < (((((((W.setCell ⟨R, 0, none⟩ (.int .i64 t.kind)).setCell ⟨R, 1, none⟩ (.bool t.tr)).setCell ⟨R, 2, none⟩ (.int .i64 t.num)).setCell ⟨R, 3, none⟩ (.string t.str)).setCell ⟨R, 4, none⟩ (.slice (some ⟨gN, 0, none⟩) t.items.length dn)).setCell ⟨R, 5, none⟩ (.slice A' t.keys.length c'))).heap.size) (t.with_ k z) (some ⟨gN, 0, none⟩) dn A' c' ∧ Below w.heap.size w ((((((W.setCell ⟨R, 0, none⟩ (.int .i64 t.kind)).setCell ⟨R, 1, none⟩ (.bool t.tr)).setCell ⟨R, 2, none⟩ (.int .i64 t.num)).setCell ⟨R, 3, none⟩ (.string t.str)).setCell ⟨R, 4, none⟩ (.slice (some ⟨gN, 0, none⟩) t.items.length dn)).setCell ⟨R, 5, none⟩ (.slice A' t.keys.length c')) := by
  have s1 : Cells w12 (fun b => b < B0 ∨ W11.heap.size ≤ b ∧ b < w12.heap.size) t.items xs := (hC.on (hw12.mono hB) (Nat.le_refl _)).wide fun b h => .inl h
  have s2 : ¬ (gN < B0 ∨ W11.heap.size ≤ gN ∧ gN < w12.heap.size) := by omega
  have s3 : SReads w12 (fun b => b < B0 ∨ W11.heap.size ≤ b ∧ b < w12.heap.size) A' t.keys := (hkeys.below (hw12.mono hB)).wide fun b h => .inl h
  have hTW : TV ((((((w12.setCell ⟨gN, k * 6, none⟩ (.int .i64 z.kind)).setCell ⟨gN, k * 6 + 1, none⟩ (.bool z.tr)).setCell ⟨gN, k * 6 + 2, none⟩ (.int .i64 z.num)).setCell ⟨gN, k * 6 + 3, none⟩ (.string z.str)).setCell ⟨gN, k * 6 + 4, none⟩ (.slice D2 z.items.length d2)).setCell ⟨gN, k * 6 + 5, none⟩ (.slice D2' z.keys.length d2')) (fun b => (b < B0 ∨ W11.heap.size ≤ b ∧ b < w12.heap.size) ∨ b = gN) (t.with_ k z) (some ⟨gN, 0, none⟩) dn A' c' :=
    tv_with (S := fun b => b < B0 ∨ W11.heap.size ≤ b ∧ b < w12.heap.size) (xs := xs) (cur := cur) hkl hbN hcsz hnd hcur s1 s2 hT s3 hl
  have hKW : Blk ((((((w12.setCell ⟨gN, k * 6, none⟩ (.int .i64 z.kind)).setCell ⟨gN, k * 6 + 1, none⟩ (.bool z.tr)).setCell ⟨gN, k * 6 + 2, none⟩ (.int .i64 z.num)).setCell ⟨gN, k * 6 + 3, none⟩ (.string z.str)).setCell ⟨gN, k * 6 + 4, none⟩ (.slice D2 z.items.length d2)).setCell ⟨gN, k * 6 + 5, none⟩ (.slice D2' z.keys.length d2')) K 29 #[.int .i64 t.kind, .bool t.tr, .int .i64 t.num, .string t.str, .slice (some ⟨gN, 0, none⟩) t.items.length dn, .slice A' t.keys.length c'] := (put6_heap hKg).trans hK
  have hRW : Blk ((((((w12.setCell ⟨gN, k * 6, none⟩ (.int .i64 z.kind)).setCell ⟨gN, k * 6 + 1, none⟩ (.bool z.tr)).setCell ⟨gN, k * 6 + 2, none⟩ (.int .i64 z.num)).setCell ⟨gN, k * 6 + 3, none⟩ (.string z.str)).setCell ⟨gN, k * 6 + 4, none⟩ (.slice D2 z.items.length d2)).setCell ⟨gN, k * 6 + 5, none⟩ (.slice D2' z.keys.length d2')) (R) 29 #[.int .i64 0, .bool false, .int .i64 0, .string ⟨#[]⟩, .slice none 0 0, .slice none 0 0] := (put6_heap (by omega)).trans hR
  have hBW : Below G w ((((((w12.setCell ⟨gN, k * 6, none⟩ (.int .i64 z.kind)).setCell ⟨gN, k * 6 + 1, none⟩ (.bool z.tr)).setCell ⟨gN, k * 6 + 2, none⟩ (.int .i64 z.num)).setCell ⟨gN, k * 6 + 3, none⟩ (.string z.str)).setCell ⟨gN, k * 6 + 4, none⟩ (.slice D2 z.items.length d2)).setCell ⟨gN, k * 6 + 5, none⟩ (.slice D2' z.keys.length d2')) := put6_below hw12 (by omega)
  have hzW : (((((((w12.setCell ⟨gN, k * 6, none⟩ (.int .i64 z.kind)).setCell ⟨gN, k * 6 + 1, none⟩ (.bool z.tr)).setCell ⟨gN, k * 6 + 2, none⟩ (.int .i64 z.num)).setCell ⟨gN, k * 6 + 3, none⟩ (.string z.str)).setCell ⟨gN, k * 6 + 4, none⟩ (.slice D2 z.items.length d2)).setCell ⟨gN, k * 6 + 5, none⟩ (.slice D2' z.keys.length d2'))).heap.size = w12.heap.size := put6_size
  refine ⟨_, rfl, hKW, hRW, ?_⟩
  generalize ((((((w12.setCell ⟨gN, k * 6, none⟩ (.int .i64 z.kind)).setCell ⟨gN, k * 6 + 1, none⟩ (.bool z.tr)).setCell ⟨gN, k * 6 + 2, none⟩ (.int .i64 z.num)).setCell ⟨gN, k * 6 + 3, none⟩ (.string z.str)).setCell ⟨gN, k * 6 + 4, none⟩ (.slice D2 z.items.length d2)).setCell ⟨gN, k * 6 + 5, none⟩ (.slice D2' z.keys.length d2')) = W at *
  have hF : Blk ((((((W.setCell ⟨R, 0, none⟩ (.int .i64 t.kind)).setCell ⟨R, 1, none⟩ (.bool t.tr)).setCell ⟨R, 2, none⟩ (.int .i64 t.num)).setCell ⟨R, 3, none⟩ (.string t.str)).setCell ⟨R, 4, none⟩ (.slice (some ⟨gN, 0, none⟩) t.items.length dn)).setCell ⟨R, 5, none⟩ (.slice A' t.keys.length c')) (R) 29 #[.int .i64 t.kind, .bool t.tr, .int .i64 t.num, .string t.str, .slice (some ⟨gN, 0, none⟩) t.items.length dn, .slice A' t.keys.length c'] := by
    have := res_put hRW rfl (t.with_ k z) (some ⟨gN, 0, none⟩) dn A' c'
    simp only [T.cs, with_len] at this
    exact this
  have hz : (((((((W.setCell ⟨R, 0, none⟩ (.int .i64 t.kind)).setCell ⟨R, 1, none⟩ (.bool t.tr)).setCell ⟨R, 2, none⟩ (.int .i64 t.num)).setCell ⟨R, 3, none⟩ (.string t.str)).setCell ⟨R, 4, none⟩ (.slice (some ⟨gN, 0, none⟩) t.items.length dn)).setCell ⟨R, 5, none⟩ (.slice A' t.keys.length c'))).heap.size = W.heap.size := put6_size
  refine ⟨hF, ?_, by rw [hG]; exact put6_below hBW (by omega)⟩
  refine (hTW.keep fun b hb => put6_heap (by rcases hb with (hb | hb) | hb <;> omega)).wide fun b hb => ?_
  show b < B0 ∨ w.heap.size ≤ b ∧ b < (((((((W.setCell ⟨R, 0, none⟩ (.int .i64 t.kind)).setCell ⟨R, 1, none⟩ (.bool t.tr)).setCell ⟨R, 2, none⟩ (.int .i64 t.num)).setCell ⟨R, 3, none⟩ (.string t.str)).setCell ⟨R, 4, none⟩ (.slice (some ⟨gN, 0, none⟩) t.items.length dn)).setCell ⟨R, 5, none⟩ (.slice A' t.keys.length c'))).heap.size
  rw [hz, hzW, hG]
  rcases hb with (hb | hb) | hb
  · exact .inl hb
  · exact .inr (by omega)
  · exact .inr (by omega)
end Go.Proofs.YthkpeomdklcnmaaGreatDoor
namespace Go.Proofs.YthkpeomdklcnmaaGreatDoor
open Go.RowKit
set_option linter.unusedVariables false

def RRemAt (p : List ByteArray) : Prop := ∀ (B0 : Nat) (t h r : T) (q : ByteArray) (k : Nat) (P : Option Addr) (cp : Nat) (A : Option Addr) (c : Nat) (A' : Option Addr) (c' : Nat) (w : World), t.Fine → Leads t p h → IsAt h q k → Sets t p (h.without k) r → p.length + 1 ≤ cp → p.length ≤ 999 → B0 ≤ w.heap.size → SReads w (· < B0) P (p ++ [q]) → TV w (· < B0) t A c A' c' →
    Calls Tryz.prog 14 #[.agg #[.int .i64 t.kind, .bool t.tr, .int .i64 t.num, .string t.str, .slice A t.items.length c, .slice A' t.keys.length c'], .slice P (p.length + 1) cp] w (GivesR B0 r w)
set_option maxRecDepth 100000 in
set_option maxHeartbeats 16000000 in
theorem rrem_nil : RRemAt [] := by
  intro B0 t h r q k P cp A c A' c' w hn hl hk hs hpc hpl hB hp hv
  cases (show t = h from hl)
  cases (show r = t.without k from hs)
  have hkl := hk.1
  have hi80 := hn.items80
  have hk80 := hn.keys_le
  show Calls Tryz.prog 14 #[.agg #[.int .i64 t.kind, .bool t.tr, .int .i64 t.num, .string t.str, .slice A t.items.length c, .slice A' t.keys.length c'], .slice P 1 cp] w (GivesR B0 (t.without k) w)
  have hpc : 1 ≤ cp := by simpa using hpc
  obtain ⟨bp, op, rfl, hbp, hcp⟩ := hp (by simp)
  have hq0 : w.cell? ⟨bp, op, none⟩ = some (.string q) := by have := hcp 0 q rfl; rwa [Nat.add_zero] at this
  obtain ⟨bA, oA, y, D, g, D', g', rfl, hbA, hx', h6y, hY⟩ := hv.at_ hkl
  obtain ⟨xs, hcells, hsrc⟩ := hv.vreads.src
  have HK := Lib.hid hk
  have HN := Lib.hid hn
  have HV := Lib.hid hv
  have HC := Lib.hid hcells
  have HSrc := Lib.hid hsrc
  have HQ0 := Lib.hid hq0
  have hlc := hv.lens.1
  have hlk := hv.lens.2
  have hkeys : SReads w (· < B0) A' t.keys := hv.keys
  have i1 : (k : Int) ≤ (c : Int) := by omega
  have i2 : (0 : Int) ≤ (k : Int) := by omega
  have i3 : (k : Int) + 1 ≤ (t.items.length : Int) := by omega
  have i4 : (t.items.length : Int) ≤ (c : Int) := by omega
  have i5 : k ≤ c := by omega
  have i6 : k + 1 ≤ t.items.length := by omega
  have i7 : (0 : Int) ≤ (k : Int) + 1 := by omega
  have i8 : k + 1 ≤ c := by omega
  have i9 : (k : Int) + 1 ≤ (c : Int) := by omega
  have hwr : IntKind.i64.wrap ((k : Int) + 1) = (k : Int) + 1 := IntWalk.i64_in _ (by omega)
  have htn : ((k : Int) + 1).toNat = k + 1 := by omega
  clear hp hv hn hcp hq0 hY h6y hcells hsrc hx' hk
  go_enter Tryz.func14, Tryz.ntmps14
  go_upto_region 1 with fail
  have hW : Below w.heap.size w ((w.alloc (.cells #[.int .i64 t.kind, .bool t.tr, .int .i64 t.num, .string t.str, .slice (some ⟨bA, oA, none⟩) t.items.length c, .slice A' t.keys.length c'] 29)).alloc (.cells #[.int .i64 0, .bool false, .int .i64 0, .string ⟨#[]⟩, .slice none 0 0, .slice none 0 0] 29)) := ((Below.refl _ _).alloc (Nat.le_refl _) _).alloc (by simp) _
  have hB0 : Blk ((w.alloc (.cells #[.int .i64 t.kind, .bool t.tr, .int .i64 t.num, .string t.str, .slice (some ⟨bA, oA, none⟩) t.items.length c, .slice A' t.keys.length c'] 29)).alloc (.cells #[.int .i64 0, .bool false, .int .i64 0, .string ⟨#[]⟩, .slice none 0 0, .slice none 0 0] 29)) w.heap.size 29 #[.int .i64 t.kind, .bool t.tr, .int .i64 t.num, .string t.str, .slice (some ⟨bA, oA, none⟩) t.items.length c, .slice A' t.keys.length c'] := (Blk.new w _ _).alloc _
  have hB2 : Blk ((w.alloc (.cells #[.int .i64 t.kind, .bool t.tr, .int .i64 t.num, .string t.str, .slice (some ⟨bA, oA, none⟩) t.items.length c, .slice A' t.keys.length c'] 29)).alloc (.cells #[.int .i64 0, .bool false, .int .i64 0, .string ⟨#[]⟩, .slice none 0 0, .slice none 0 0] 29)) (w.heap.size + 1) 29 #[.int .i64 0, .bool false, .int .i64 0, .string ⟨#[]⟩, .slice none 0 0, .slice none 0 0] := by
    have := Blk.new (w.alloc (.cells #[.int .i64 t.kind, .bool t.tr, .int .i64 t.num, .string t.str, .slice (some ⟨bA, oA, none⟩) t.items.length c, .slice A' t.keys.length c'] 29)) 29 #[.int .i64 0, .bool false, .int .i64 0, .string ⟨#[]⟩, .slice none 0 0, .slice none 0 0]
    simpa using this
  change Code.wp _ _ _ _ ((w.alloc (.cells #[.int .i64 t.kind, .bool t.tr, .int .i64 t.num, .string t.str, .slice (some ⟨bA, oA, none⟩) t.items.length c, .slice A' t.keys.length c'] 29)).alloc (.cells #[.int .i64 0, .bool false, .int .i64 0, .string ⟨#[]⟩, .slice none 0 0, .slice none 0 0] 29))
  generalize ((w.alloc (.cells #[.int .i64 t.kind, .bool t.tr, .int .i64 t.num, .string t.str, .slice (some ⟨bA, oA, none⟩) t.items.length c, .slice A' t.keys.length c'] 29)).alloc (.cells #[.int .i64 0, .bool false, .int .i64 0, .string ⟨#[]⟩, .slice none 0 0, .slice none 0 0] 29)) = W at *
  have HW := Lib.hid hW
  have HB0 := Lib.hid hB0
  have HB2 := Lib.hid hB2
  have hl2 := hB2.lt
  generalize hG : w.heap.size = G at *
  have hVW := Lib.hid (show TV W (· < W.heap.size) t (some ⟨bA, oA, none⟩) c A' c' from (HV.out.under (hW.mono hB)).wide fun b hb => by have : b < B0 := hb; show b < W.heap.size; omega)
  have HSS := Lib.hid (show ∀ w', Below W.heap.size W w' → (w'.cell? ⟨G, 0, none⟩ = some (.int .i64 t.kind) ∧ w'.cell? ⟨G, 1, none⟩ = some (.bool t.tr) ∧ w'.cell? ⟨G, 2, none⟩ = some (.int .i64 t.num) ∧ w'.cell? ⟨G, 3, none⟩ = some (.string t.str) ∧ w'.cell? ⟨G, 4, none⟩ = some (.slice (some ⟨bA, oA, none⟩) t.items.length c) ∧ w'.cell? ⟨G, 5, none⟩ = some (.slice A' t.keys.length c')) ∧ w'.cell? ⟨bp, op, none⟩ = some (.string q) from fun w' h => by
    have h0 := HB0.out.onto h
    have hbp2 : bp < B0 := hbp
    exact ⟨⟨h0.cell 0, h0.cell 1, h0.cell 2, h0.cell 3, h0.cell 4, h0.cell 5⟩, ((h.cell (p := ⟨bp, op, none⟩) (show bp < W.heap.size by omega)).trans (hW.cell (p := ⟨bp, op, none⟩) (show bp < G by omega))).trans HQ0.out⟩)
  obtain ⟨⟨a0, a1, a2, a3, a4, a5⟩, ep⟩ := HSS.out W (Below.refl _ _)
  have HBc := Lib.hid (Below.refl W.heap.size W)
  clear hW hB0 hB2
  go_region_held3 (fun w' => (w'.cell? ⟨G, 0, none⟩ = some (.int .i64 t.kind) ∧ w'.cell? ⟨G, 1, none⟩ = some (.bool t.tr) ∧ w'.cell? ⟨G, 2, none⟩ = some (.int .i64 t.num) ∧ w'.cell? ⟨G, 3, none⟩ = some (.string t.str) ∧ w'.cell? ⟨G, 4, none⟩ = some (.slice (some ⟨bA, oA, none⟩) t.items.length c) ∧ w'.cell? ⟨G, 5, none⟩ = some (.slice A' t.keys.length c')) ∧ w'.cell? ⟨bp, op, none⟩ = some (.string q))
    (first
      | with_reducible exact HSS.out _ HBc.out
      | with_reducible exact HSS.out _ (below_drewN HBc.out _)
      | exact HSS.out _ HBc.out.drew
      | go_keep)
    (first
      | (go_at_call 28
         with_reducible refine (rplace_yes t q k _ c A' c' _ HN.out HK.out (hVW.out.on ?_)).mono ?_
         · exact (by first | with_reducible exact HBc.out | with_reducible exact below_drewN HBc.out _ | exact HBc.out.drew)
         rintro e7 w7 ⟨rfl, hb7⟩
         have HBc := Lib.hid (show Below W.heap.size W w7 from by first | with_reducible exact HBc.out.trans (hb7.mono HBc.out.size) | with_reducible exact (below_drewN HBc.out _).trans (hb7.mono HBc.out.size) | exact HBc.out.drew.trans (hb7.mono HBc.out.size))
         clear hb7))
  all_goals
    have hb7 : Below W.heap.size W w7 := (by first | with_reducible exact HBc.out | with_reducible exact below_drewN HBc.out _ | exact HBc.out.drew)
    have h7 := HB0.out.onto hb7
    obtain ⟨b0, b1, b2, b3, b4, b5⟩ : w7.cell? ⟨G, 0, none⟩ = some (.int .i64 t.kind) ∧ w7.cell? ⟨G, 1, none⟩ = some (.bool t.tr) ∧ w7.cell? ⟨G, 2, none⟩ = some (.int .i64 t.num) ∧ w7.cell? ⟨G, 3, none⟩ = some (.string t.str) ∧ w7.cell? ⟨G, 4, none⟩ = some (.slice (some ⟨bA, oA, none⟩) t.items.length c) ∧ w7.cell? ⟨G, 5, none⟩ = some (.slice A' t.keys.length c') := ⟨h7.cell 0, h7.cell 1, h7.cell 2, h7.cell 3, h7.cell 4, h7.cell 5⟩
    have HB7 := Lib.hid hb7
    have hs7 := hb7.size
    clear h7 hb7 a0 a1 a2 a3 a4 a5 ep HBc
    go_upto_region 3 with fail
    have hb8 : Below W.heap.size W (w7.alloc (.cells #[.int .i64 t.kind, .bool t.tr, .int .i64 t.num, .string t.str, .slice (some ⟨bA, oA, none⟩) t.items.length c, .slice A' t.keys.length c'] 29)) := HB7.out.alloc hs7 _
    have hK8 : Blk (w7.alloc (.cells #[.int .i64 t.kind, .bool t.tr, .int .i64 t.num, .string t.str, .slice (some ⟨bA, oA, none⟩) t.items.length c, .slice A' t.keys.length c'] 29)) w7.heap.size 29 #[.int .i64 t.kind, .bool t.tr, .int .i64 t.num, .string t.str, .slice (some ⟨bA, oA, none⟩) t.items.length c, .slice A' t.keys.length c'] := Blk.new w7 _ _
    change Code.wp _ _ _ _ (w7.alloc (.cells #[.int .i64 t.kind, .bool t.tr, .int .i64 t.num, .string t.str, .slice (some ⟨bA, oA, none⟩) t.items.length c, .slice A' t.keys.length c'] 29))
    generalize (w7.alloc (.cells #[.int .i64 t.kind, .bool t.tr, .int .i64 t.num, .string t.str, .slice (some ⟨bA, oA, none⟩) t.items.length c, .slice A' t.keys.length c'] 29)) = W8 at *
    generalize w7.heap.size = K at *
    have HB8 := Lib.hid hb8
    have HK8 := Lib.hid hK8
    have hs8 := hb8.size
    have hK8l := hK8.lt
    have hww8 : Below G w W8 := HW.out.trans (hb8.mono (by have := HW.out.size; omega))
    have HWW8 := Lib.hid hww8
    have HBB := Lib.hid (show ∀ w', Below W8.heap.size W8 w' → Below B0 w w' from fun w' h => (hww8.trans (h.mono (by have := hww8.size; omega))).mono hB)
    clear hb8 hK8 b0 b1 b2 b3 b4 b5 HB7 hww8
    have HKW := Lib.hid HK8.out
    go_upto_region 7 with fail
    have hz7 := HB8.out.size
    have hS7 := Lib.hid (show ∀ w', Below W8.heap.size W8 w' → (w'.cell? ⟨G, 0, none⟩ = some (.int .i64 t.kind) ∧ w'.cell? ⟨G, 1, none⟩ = some (.bool t.tr) ∧ w'.cell? ⟨G, 2, none⟩ = some (.int .i64 t.num) ∧ w'.cell? ⟨G, 3, none⟩ = some (.string t.str) ∧ w'.cell? ⟨G, 4, none⟩ = some (.slice (some ⟨bA, oA, none⟩) t.items.length c) ∧ w'.cell? ⟨G, 5, none⟩ = some (.slice A' t.keys.length c')) from fun w' h => by
      have h0 := HB0.out.onto (HB8.out.trans (h.mono hz7))
      exact ⟨h0.cell 0, h0.cell 1, h0.cell 2, h0.cell 3, h0.cell 4, h0.cell 5⟩)
    obtain ⟨j7, j7i, j70, j71, j72⟩ := info_parts infoV
    refine wp_region_held_drew (S := fun w' => (w'.cell? ⟨G, 0, none⟩ = some (.int .i64 t.kind) ∧ w'.cell? ⟨G, 1, none⟩ = some (.bool t.tr) ∧ w'.cell? ⟨G, 2, none⟩ = some (.int .i64 t.num) ∧ w'.cell? ⟨G, 3, none⟩ = some (.string t.str) ∧ w'.cell? ⟨G, 4, none⟩ = some (.slice (some ⟨bA, oA, none⟩) t.items.length c) ∧ w'.cell? ⟨G, 5, none⟩ = some (.slice A' t.keys.length c'))) (by kernel_rfl) ?_ (fun hHeld => ?_)
    · exact hS7.out _ (Below.refl W8.heap.size W8).drew
    refine wpAnyH_take (i := 1) (v := ?_) rfl (by kernel_rfl) (by kernel_rfl) (by kernel_rfl) (fun _ _ _ h => h) (Or.inl ⟨by rfl, ?_⟩) (by assumption) ?_
    rotate_left
    · intro wq hSw
      try dsimp only at hSw
      go_simp
      try (with_reducible rfl)
    try simp only [Act.put, List.getElem_toArray, List.getElem_cons_succ, List.getElem_cons_zero, List.setIfInBounds_toArray, List.set_cons_zero, List.set_cons_succ]
    refine wpAnyH_take (i := 2) (v := ?_) rfl (by kernel_rfl) (by kernel_rfl) (by kernel_rfl) (fun _ _ _ h => h) (Or.inl ⟨by rfl, ?_⟩) (by assumption) ?_
    rotate_left
    · intro wq hSw
      try dsimp only at hSw
      go_simp
      try (with_reducible rfl)
    try simp only [Act.put, List.getElem_toArray, List.getElem_cons_succ, List.getElem_cons_zero, List.setIfInBounds_toArray, List.set_cons_zero, List.set_cons_succ]
    refine wpAnyH_take (i := 3) (v := ?_) rfl (by kernel_rfl) (by kernel_rfl) (by kernel_rfl) (fun _ _ _ h => h) (Or.inl ⟨by rfl, ?_⟩) (by assumption) ?_
    rotate_left
    · intro wq hSw
      try dsimp only at hSw
      go_simp
      try (with_reducible rfl)
    try simp only [Act.put, List.getElem_toArray, List.getElem_cons_succ, List.getElem_cons_zero, List.setIfInBounds_toArray, List.set_cons_zero, List.set_cons_succ]
    refine wpAnyH_take (i := 4) (v := ?_) rfl (by kernel_rfl) (by kernel_rfl) (by kernel_rfl) (fun _ _ _ h => h) (Or.inl ⟨by rfl, ?_⟩) (by assumption) ?_
    rotate_left
    · intro wq hSw
      try dsimp only at hSw
      go_simp
      try (with_reducible rfl)
    try simp only [Act.put, List.getElem_toArray, List.getElem_cons_succ, List.getElem_cons_zero, List.setIfInBounds_toArray, List.set_cons_zero, List.set_cons_succ]
    refine wpAnyH_take (i := 6) (v := ?_) rfl (by kernel_rfl) (by kernel_rfl) (by kernel_rfl) (fun _ _ _ h => h) (Or.inl ⟨by rfl, ?_⟩) (by assumption) ?_
    rotate_left
    · intro wq hSw
      try dsimp only at hSw
      go_simp
      try (with_reducible rfl)
    try simp only [Act.put, List.getElem_toArray, List.getElem_cons_succ, List.getElem_cons_zero, List.setIfInBounds_toArray, List.set_cons_zero, List.set_cons_succ]
    refine wpAnyH_take (i := 7) (v := ?_) rfl (by kernel_rfl) (by kernel_rfl) (by kernel_rfl) (fun _ _ _ h => h) (Or.inl ⟨by rfl, ?_⟩) (by assumption) ?_
    rotate_left
    · intro wq hSw
      try dsimp only at hSw
      go_simp
      try (with_reducible rfl)
    try simp only [Act.put, List.getElem_toArray, List.getElem_cons_succ, List.getElem_cons_zero, List.setIfInBounds_toArray, List.set_cons_zero, List.set_cons_succ]
    refine wpAnyH_take (i := 8) (v := ?_) rfl (by kernel_rfl) (by kernel_rfl) (by kernel_rfl) (fun _ _ _ h => h) (Or.inl ⟨by rfl, ?_⟩) (by assumption) ?_
    rotate_left
    · intro wq hSw
      try dsimp only at hSw
      go_simp
      try (with_reducible rfl)
    try simp only [Act.put, List.getElem_toArray, List.getElem_cons_succ, List.getElem_cons_zero, List.setIfInBounds_toArray, List.set_cons_zero, List.set_cons_succ]
    refine wpAnyH_take (i := 9) (v := ?_) rfl (by kernel_rfl) (by kernel_rfl) (by kernel_rfl) (fun _ _ _ h => h) (Or.inl ⟨by rfl, ?_⟩) (by assumption) ?_
    rotate_left
    · intro wq hSw
      try dsimp only at hSw
      go_simp
      try (with_reducible rfl)
    try simp only [Act.put, List.getElem_toArray, List.getElem_cons_succ, List.getElem_cons_zero, List.setIfInBounds_toArray, List.set_cons_zero, List.set_cons_succ]
    refine wpAnyH_take (i := 10) (v := ?_) rfl (by kernel_rfl) (by kernel_rfl) (by kernel_rfl) (fun _ _ _ h => h) (Or.inl ⟨by rfl, ?_⟩) (by assumption) ?_
    rotate_left
    · intro wq hSw
      try dsimp only at hSw
      go_simp
      try (with_reducible rfl)
    try simp only [Act.put, List.getElem_toArray, List.getElem_cons_succ, List.getElem_cons_zero, List.setIfInBounds_toArray, List.set_cons_zero, List.set_cons_succ]
    refine wpAnyH_ready (rs := [0]) (by kernel_rfl) (by simp) ?_
    refine AllReadyH.cons rfl (fun K0 hK => ?_) ?_
    rotate_left
    · exact AllReadyH.nil
    go_simp
    have HBa := Lib.hid (show Below W8.heap.size W8 (W8.alloc (.cells #[] 29)).drew from ((Below.refl _ _).alloc (Nat.le_refl _) _).drew)
    have HOa := Lib.hid (show (W8.alloc (.cells #[] 29)).drew.ownsRow W8.heap.size 29 6 (.slice (some ⟨W8.heap.size, 0, none⟩) 0 0) 0 [] from (World.ownsRow_lit (base := W8.heap.size) (e := 29) (size := 6) W8 #[] 0 (Nat.le_refl _) (by unfold maxLen; omega) rfl))
    have hsa := HBa.out.size
    refine hK.out _ _ ?_ (fun hHeld => ?_)
    · exact hS7.out _ (HBa.out)
    clear hK K0
    try simp only [Act.put, List.getElem_toArray, List.getElem_cons_succ, List.getElem_cons_zero, List.setIfInBounds_toArray, List.set_cons_zero, List.set_cons_succ]
    generalize (W8.alloc (.cells #[] 29)).drew = wa at *
    refine wpAnyH_ready (rs := [5]) (by kernel_rfl) (by simp) ?_
    refine AllReadyH.cons rfl (fun K0 hK => ?_) ?_
    rotate_left
    · exact AllReadyH.nil
    refine app_step rfl (.tmp 34) (.tmp 38) 27 rfl W8.heap.size 29 j7 (.agg #[.int .i64 0, .bool false, .int .i64 0, .string ⟨#[]⟩, .slice none 0 0, .slice none 0 0]) 6 88 Tryz.underlying27 j7i j70 j71 j72 rfl (by decide) (.slice (some ⟨W8.heap.size, 0, none⟩) 0 0) 0 [] rfl HOa.out (some ⟨bA, oA, none⟩) k c (xs.take (k * 6)) rfl (((HSrc.out) wa (HBB.out wa HBa.out)).take_ (by omega) (by decide)) (fun u hu => HC.out.2.1 u (List.mem_of_mem_take hu)) (by unfold maxLen; omega) (by omega) hsa k (by omega) ?_
    intro B5 d5 w5 ho5 hg5 hat5
    rw [List.nil_append] at ho5
    have HO5 := Lib.hid ho5
    have HB5 := Lib.hid (HBa.out.grown hg5 hsa (fun k hk => (HOa.out.lt k hk).1))
    have hs5 := HB5.out.size
    clear ho5 hg5 hat5 HOa
    refine hK.out _ _ ?_ (fun hHeld => ?_)
    · exact hS7.out _ (HB5.out)
    clear hK K0
    try simp only [Act.put, List.getElem_toArray, List.getElem_cons_succ, List.getElem_cons_zero, List.setIfInBounds_toArray, List.set_cons_zero, List.set_cons_succ]
    generalize hP1 : (if c = k + 1 then ((some ⟨bA, oA, none⟩) : Option Addr) else some ⟨bA, oA + (k + 1) * 6, none⟩) = P1 at *
    refine wpAnyH_ready (rs := [11]) (by kernel_rfl) (by simp) ?_
    refine AllReadyH.cons rfl (fun K0 hK => ?_) ?_
    rotate_left
    · exact AllReadyH.nil
    refine app_step rfl (.tmp 39) (.tmp 44) 27 rfl W8.heap.size 29 j7 (.agg #[.int .i64 0, .bool false, .int .i64 0, .string ⟨#[]⟩, .slice none 0 0, .slice none 0 0]) 6 88 Tryz.underlying27 j7i j70 j71 j72 rfl (by decide) (.slice B5 k d5) k (xs.take (k * 6)) rfl HO5.out P1 (t.items.length - (k + 1)) (c - (k + 1)) (xs.drop ((k + 1) * 6)) rfl (by rw [← hP1]; exact ((HSrc.out) w5 (HBB.out w5 HB5.out)).drop_ (k := k + 1) (by omega) (by omega)) (fun u hu => HC.out.2.1 u (List.mem_of_mem_drop hu)) (by unfold maxLen; omega) (by omega) hs5 (t.items.length - 1) (by omega) ?_
    intro B6 d6 w6 ho6 hg6 hat6
    have HO6 := Lib.hid ho6
    have HB6 := Lib.hid (HB5.out.grown hg6 hs5 (fun k hk => (HO5.out.lt k hk).1))
    have hs6 := HB6.out.size
    clear ho6 hg6 hat6 HO5
    refine hK.out _ _ ?_ (fun hHeld => ?_)
    · exact hS7.out _ (HB6.out)
    clear hK K0
    try simp only [Act.put, List.getElem_toArray, List.getElem_cons_succ, List.getElem_cons_zero, List.setIfInBounds_toArray, List.set_cons_zero, List.set_cons_succ]
    have hK6 := HKW.out.onto HB6.out
    have k4 : w6.cell? ⟨K, 4, none⟩ = some (.slice (some ⟨bA, oA, none⟩) t.items.length c) := hK6.cell 4
    have fk4 := hK6.free 4
    refine wpAnyH_take (i := 12) (v := ?_) rfl (by kernel_rfl) (by kernel_rfl) (by kernel_rfl) (fun _ _ _ h => h) (Or.inl ⟨by rfl, ?_⟩) (by assumption) ?_
    rotate_left
    · intro wq hSw
      try dsimp only at hSw
      go_simp
      try (with_reducible rfl)
    try simp only [Act.put, List.getElem_toArray, List.getElem_cons_succ, List.getElem_cons_zero, List.setIfInBounds_toArray, List.set_cons_zero, List.set_cons_succ]
    refine wpAnyH_ready (rs := [13]) (by kernel_rfl) (by simp) ?_
    refine AllReadyH.cons rfl (fun K0 hK => ?_) ?_
    rotate_left
    · exact AllReadyH.nil
    go_simp
    refine hK.out _ _ ?_ (fun hHeld => ?_)
    · exact (show Six w6 G 0 t (some ⟨bA, oA, none⟩) c A' c' from hS7.out _ HB6.out).on_blk (Below.heap_setCell w6 ⟨K, 4, none⟩ _ G (show G ≠ K by omega))
    clear hK K0
    try simp only [Act.put, List.getElem_toArray, List.getElem_cons_succ, List.getElem_cons_zero, List.setIfInBounds_toArray, List.set_cons_zero, List.set_cons_succ]
    refine wpAnyH_done (by kernel_rfl) ?_ _
    have hKN := hK6.set_ 4 (.slice B6 (t.items.length - 1) d6)
    have hBN := (HB8.out.trans (HB6.out.mono HB8.out.size)).setCell (p := ⟨K, 4, none⟩) hs7 (.slice B6 (t.items.length - 1) d6)
    have hsN : (w6.setCell ⟨K, 4, none⟩ (.slice B6 (t.items.length - 1) d6)).heap.size = w6.heap.size := by simp [World.setCell]
    have hfarN : ∀ b, b ≠ K → (w6.setCell ⟨K, 4, none⟩ (.slice B6 (t.items.length - 1) d6)).heap[b]? = w6.heap[b]? := fun b hb => Below.heap_setCell _ _ _ _ hb
    generalize (w6.setCell ⟨K, 4, none⟩ (.slice B6 (t.items.length - 1) d6)) = W9 at *
    clear k4 fk4 hK6
    have HV9 := Lib.hid (show t.items.length - 1 ≤ d6 ∧ VReads W9 (fun b => b < B0 ∨ (G + 1 < b ∧ b < W9.heap.size ∧ b ≠ K)) B6 (t.without k).items from by
      have hw6 : Below G w w6 := HWW8.out.trans (HB6.out.mono (by omega))
      have h1 := own_vreads HO6.out (without_len hkl) (cells_keep (cells_erase HC.out hkl) (.of_below (hw6.mono hB)))
      refine ⟨h1.1, (h1.2.keep fun b hb => hfarN b (by rcases hb with hb | hb; have : b < B0 := hb; omega; omega)).wide fun b hb => ?_⟩
      rcases hb with hb | hb
      · exact .inl hb
      · exact .inr (by omega))
    have HK9 := Lib.hid (show Blk W9 K 29 #[.int .i64 t.kind, .bool t.tr, .int .i64 t.num, .string t.str, .slice B6 (t.items.length - 1) d6, .slice A' t.keys.length c'] from hKN)
    have HB9 := Lib.hid hBN
    have hs9 := hBN.size
    clear hKN hBN HO6 HB6 HB5 HBa hS7 HKW HK8 hsN
    have a0 : W9.cell? ⟨G, 0, none⟩ = some (.int .i64 t.kind) := (HB0.out.onto HB9.out).cell 0
    have HR9 := Lib.hid (HB2.out.onto HB9.out)
    have HW9 := Lib.hid (show Below G w W9 from HW.out.trans (HB9.out.mono (by have := HW.out.size; omega)))
    have hGK : G + 1 < K := by omega
    have hK9l := HK9.out.lt
    clear HB2 HV HWW8 hVW HSS
    by_cases h5 : t.kind = 5
    · have g5 : (t.kind == 5) = true := by rw [beq_iff_eq]; exact h5
      have hll := HN.out.good.here.lens h5
      have hkk : k < t.keys.length := by omega
      have HKS := Lib.hid hkeys
      obtain ⟨bK, oK, rfl, hbK, _⟩ := hkeys (by intro e; rw [e] at hkk; simp at hkk)
      have HSK := Lib.hid (show ∀ W2, Below B0 w W2 → Src W2 (some ⟨bK, oK, none⟩) t.keys.length 1 (t.keys.map Value.string) from fun W2 h => (HKS.out.below h).src)
      have H1K := Lib.hid (show ∀ u ∈ t.keys.map Value.string, u.oneCell' = true from fun u hu => by obtain ⟨s, _, rfl⟩ := List.mem_map.1 hu; rfl)
      have HBB9 := Lib.hid (show ∀ w', Below W9.heap.size W9 w' → Below B0 w w' from fun w' h => (HW9.out.trans (h.mono (by have := HW9.out.size; omega))).mono hB)
      have H5 := Lib.hid h5
      have j1 : (k : Int) ≤ (c' : Int) := by omega
      have j3 : (k : Int) + 1 ≤ (t.keys.length : Int) := by omega
      have j4 : (t.keys.length : Int) ≤ (c' : Int) := by omega
      have j5 : k ≤ c' := by omega
      have j6 : k + 1 ≤ t.keys.length := by omega
      have j8 : k + 1 ≤ c' := by omega
      have j9 : (k : Int) + 1 ≤ (c' : Int) := by omega
      have HLL := Lib.hid hll
      clear h5 hll
      go_upto_region 9 with fail
      clear a0
      have hz9 := HB9.out.size
      have hS9 := Lib.hid (show ∀ w', Below W9.heap.size W9 w' → (w'.cell? ⟨G, 0, none⟩ = some (.int .i64 t.kind) ∧ w'.cell? ⟨G, 1, none⟩ = some (.bool t.tr) ∧ w'.cell? ⟨G, 2, none⟩ = some (.int .i64 t.num) ∧ w'.cell? ⟨G, 3, none⟩ = some (.string t.str) ∧ w'.cell? ⟨G, 4, none⟩ = some (.slice (some ⟨bA, oA, none⟩) t.items.length c) ∧ w'.cell? ⟨G, 5, none⟩ = some (.slice (some ⟨bK, oK, none⟩) t.keys.length c')) from fun w' h => by
        have h0 := HB0.out.onto (HB9.out.trans (h.mono hz9))
        exact ⟨h0.cell 0, h0.cell 1, h0.cell 2, h0.cell 3, h0.cell 4, h0.cell 5⟩)
      obtain ⟨j9, j9i, j90, j91, j92⟩ := info_parts infoStr
      refine wp_region_held_drew (S := fun w' => (w'.cell? ⟨G, 0, none⟩ = some (.int .i64 t.kind) ∧ w'.cell? ⟨G, 1, none⟩ = some (.bool t.tr) ∧ w'.cell? ⟨G, 2, none⟩ = some (.int .i64 t.num) ∧ w'.cell? ⟨G, 3, none⟩ = some (.string t.str) ∧ w'.cell? ⟨G, 4, none⟩ = some (.slice (some ⟨bA, oA, none⟩) t.items.length c) ∧ w'.cell? ⟨G, 5, none⟩ = some (.slice (some ⟨bK, oK, none⟩) t.keys.length c'))) (by kernel_rfl) ?_ (fun hHeld => ?_)
      · exact hS9.out _ (Below.refl W9.heap.size W9).drew
      refine wpAnyH_take (i := 1) (v := ?_) rfl (by kernel_rfl) (by kernel_rfl) (by kernel_rfl) (fun _ _ _ h => h) (Or.inl ⟨by rfl, ?_⟩) (by assumption) ?_
      rotate_left
      · intro wq hSw
        try dsimp only at hSw
        go_simp
        try (with_reducible rfl)
      try simp only [Act.put, List.getElem_toArray, List.getElem_cons_succ, List.getElem_cons_zero, List.setIfInBounds_toArray, List.set_cons_zero, List.set_cons_succ]
      refine wpAnyH_take (i := 2) (v := ?_) rfl (by kernel_rfl) (by kernel_rfl) (by kernel_rfl) (fun _ _ _ h => h) (Or.inl ⟨by rfl, ?_⟩) (by assumption) ?_
      rotate_left
      · intro wq hSw
        try dsimp only at hSw
        go_simp
        try (with_reducible rfl)
      try simp only [Act.put, List.getElem_toArray, List.getElem_cons_succ, List.getElem_cons_zero, List.setIfInBounds_toArray, List.set_cons_zero, List.set_cons_succ]
      refine wpAnyH_take (i := 3) (v := ?_) rfl (by kernel_rfl) (by kernel_rfl) (by kernel_rfl) (fun _ _ _ h => h) (Or.inl ⟨by rfl, ?_⟩) (by assumption) ?_
      rotate_left
      · intro wq hSw
        try dsimp only at hSw
        go_simp
        try (with_reducible rfl)
      try simp only [Act.put, List.getElem_toArray, List.getElem_cons_succ, List.getElem_cons_zero, List.setIfInBounds_toArray, List.set_cons_zero, List.set_cons_succ]
      refine wpAnyH_take (i := 4) (v := ?_) rfl (by kernel_rfl) (by kernel_rfl) (by kernel_rfl) (fun _ _ _ h => h) (Or.inl ⟨by rfl, ?_⟩) (by assumption) ?_
      rotate_left
      · intro wq hSw
        try dsimp only at hSw
        go_simp
        try (with_reducible rfl)
      try simp only [Act.put, List.getElem_toArray, List.getElem_cons_succ, List.getElem_cons_zero, List.setIfInBounds_toArray, List.set_cons_zero, List.set_cons_succ]
      refine wpAnyH_take (i := 6) (v := ?_) rfl (by kernel_rfl) (by kernel_rfl) (by kernel_rfl) (fun _ _ _ h => h) (Or.inl ⟨by rfl, ?_⟩) (by assumption) ?_
      rotate_left
      · intro wq hSw
        try dsimp only at hSw
        go_simp
        try (with_reducible rfl)
      try simp only [Act.put, List.getElem_toArray, List.getElem_cons_succ, List.getElem_cons_zero, List.setIfInBounds_toArray, List.set_cons_zero, List.set_cons_succ]
      refine wpAnyH_take (i := 7) (v := ?_) rfl (by kernel_rfl) (by kernel_rfl) (by kernel_rfl) (fun _ _ _ h => h) (Or.inl ⟨by rfl, ?_⟩) (by assumption) ?_
      rotate_left
      · intro wq hSw
        try dsimp only at hSw
        go_simp
        try (with_reducible rfl)
      try simp only [Act.put, List.getElem_toArray, List.getElem_cons_succ, List.getElem_cons_zero, List.setIfInBounds_toArray, List.set_cons_zero, List.set_cons_succ]
      refine wpAnyH_take (i := 8) (v := ?_) rfl (by kernel_rfl) (by kernel_rfl) (by kernel_rfl) (fun _ _ _ h => h) (Or.inl ⟨by rfl, ?_⟩) (by assumption) ?_
      rotate_left
      · intro wq hSw
        try dsimp only at hSw
        go_simp
        try (with_reducible rfl)
      try simp only [Act.put, List.getElem_toArray, List.getElem_cons_succ, List.getElem_cons_zero, List.setIfInBounds_toArray, List.set_cons_zero, List.set_cons_succ]
      refine wpAnyH_take (i := 9) (v := ?_) rfl (by kernel_rfl) (by kernel_rfl) (by kernel_rfl) (fun _ _ _ h => h) (Or.inl ⟨by rfl, ?_⟩) (by assumption) ?_
      rotate_left
      · intro wq hSw
        try dsimp only at hSw
        go_simp
        try (with_reducible rfl)
      try simp only [Act.put, List.getElem_toArray, List.getElem_cons_succ, List.getElem_cons_zero, List.setIfInBounds_toArray, List.set_cons_zero, List.set_cons_succ]
      refine wpAnyH_take (i := 10) (v := ?_) rfl (by kernel_rfl) (by kernel_rfl) (by kernel_rfl) (fun _ _ _ h => h) (Or.inl ⟨by rfl, ?_⟩) (by assumption) ?_
      rotate_left
      · intro wq hSw
        try dsimp only at hSw
        go_simp
        try (with_reducible rfl)
      try simp only [Act.put, List.getElem_toArray, List.getElem_cons_succ, List.getElem_cons_zero, List.setIfInBounds_toArray, List.set_cons_zero, List.set_cons_succ]
      refine wpAnyH_ready (rs := [0]) (by kernel_rfl) (by simp) ?_
      refine AllReadyH.cons rfl (fun K0 hK => ?_) ?_
      rotate_left
      · exact AllReadyH.nil
      go_simp
      have HBa := Lib.hid (show Below W9.heap.size W9 (W9.alloc (.cells #[] 9)).drew from ((Below.refl _ _).alloc (Nat.le_refl _) _).drew)
      have HOa := Lib.hid (show (W9.alloc (.cells #[] 9)).drew.ownsRow W9.heap.size 9 1 (.slice (some ⟨W9.heap.size, 0, none⟩) 0 0) 0 [] from (World.ownsRow_lit (base := W9.heap.size) (e := 9) (size := 1) W9 #[] 0 (Nat.le_refl _) (by unfold maxLen; omega) rfl))
      have hsa := HBa.out.size
      refine hK.out _ _ ?_ (fun hHeld => ?_)
      · exact hS9.out _ (HBa.out)
      clear hK K0
      try simp only [Act.put, List.getElem_toArray, List.getElem_cons_succ, List.getElem_cons_zero, List.setIfInBounds_toArray, List.set_cons_zero, List.set_cons_succ]
      generalize (W9.alloc (.cells #[] 9)).drew = wa at *
      refine wpAnyH_ready (rs := [5]) (by kernel_rfl) (by simp) ?_
      refine AllReadyH.cons rfl (fun K0 hK => ?_) ?_
      rotate_left
      · exact AllReadyH.nil
      refine app_step rfl (.tmp 50) (.tmp 54) 24 rfl W9.heap.size 9 j9 (.string ⟨#[]⟩) 1 16 Tryz.underlying24 j9i j90 j91 j92 rfl (by decide) (.slice (some ⟨W9.heap.size, 0, none⟩) 0 0) 0 [] rfl HOa.out (some ⟨bK, oK, none⟩) k c' ((t.keys.map Value.string).take (k * 1)) rfl (((HSK.out) wa (HBB9.out wa HBa.out)).take_ (by omega) (by decide)) (fun u hu => H1K.out u (List.mem_of_mem_take hu)) (by unfold maxLen; omega) (by omega) hsa k (by omega) ?_
      intro B5 d5 w5 ho5 hg5 hat5
      rw [List.nil_append] at ho5
      have HO5 := Lib.hid ho5
      have HB5 := Lib.hid (HBa.out.grown hg5 hsa (fun k hk => (HOa.out.lt k hk).1))
      have hs5 := HB5.out.size
      clear ho5 hg5 hat5 HOa
      refine hK.out _ _ ?_ (fun hHeld => ?_)
      · exact hS9.out _ (HB5.out)
      clear hK K0
      try simp only [Act.put, List.getElem_toArray, List.getElem_cons_succ, List.getElem_cons_zero, List.setIfInBounds_toArray, List.set_cons_zero, List.set_cons_succ]
      generalize hP1 : (if c' = k + 1 then ((some ⟨bK, oK, none⟩) : Option Addr) else some ⟨bK, oK + (k + 1), none⟩) = P1 at *
      refine wpAnyH_ready (rs := [11]) (by kernel_rfl) (by simp) ?_
      refine AllReadyH.cons rfl (fun K0 hK => ?_) ?_
      rotate_left
      · exact AllReadyH.nil
      refine app_step rfl (.tmp 55) (.tmp 60) 24 rfl W9.heap.size 9 j9 (.string ⟨#[]⟩) 1 16 Tryz.underlying24 j9i j90 j91 j92 rfl (by decide) (.slice B5 k d5) k ((t.keys.map Value.string).take (k * 1)) rfl HO5.out P1 (t.keys.length - (k + 1)) (c' - (k + 1)) ((t.keys.map Value.string).drop ((k + 1) * 1)) rfl (by rw [← hP1]; have hh := ((HSK.out) w5 (HBB9.out w5 HB5.out)).drop_ (k := k + 1) (by omega) (by omega); simp only [Nat.mul_one] at hh ⊢; exact hh) (fun u hu => H1K.out u (List.mem_of_mem_drop hu)) (by unfold maxLen; omega) (by omega) hs5 (t.keys.length - 1) (by omega) ?_
      intro C6 f6 w6 ho6 hg6 hat6
      have HO6 := Lib.hid ho6
      have HB6 := Lib.hid (HB5.out.grown hg6 hs5 (fun k hk => (HO5.out.lt k hk).1))
      have hs6 := HB6.out.size
      clear ho6 hg6 hat6 HO5
      refine hK.out _ _ ?_ (fun hHeld => ?_)
      · exact hS9.out _ (HB6.out)
      clear hK K0
      try simp only [Act.put, List.getElem_toArray, List.getElem_cons_succ, List.getElem_cons_zero, List.setIfInBounds_toArray, List.set_cons_zero, List.set_cons_succ]
      have hK6 := HK9.out.onto HB6.out
      have k4 : w6.cell? ⟨K, 5, none⟩ = some (.slice (some ⟨bK, oK, none⟩) t.keys.length c') := hK6.cell 5
      have fk4 := hK6.free 5
      refine wpAnyH_take (i := 12) (v := ?_) rfl (by kernel_rfl) (by kernel_rfl) (by kernel_rfl) (fun _ _ _ h => h) (Or.inl ⟨by rfl, ?_⟩) (by assumption) ?_
      rotate_left
      · intro wq hSw
        try dsimp only at hSw
        go_simp
        try (with_reducible rfl)
      try simp only [Act.put, List.getElem_toArray, List.getElem_cons_succ, List.getElem_cons_zero, List.setIfInBounds_toArray, List.set_cons_zero, List.set_cons_succ]
      refine wpAnyH_ready (rs := [13]) (by kernel_rfl) (by simp) ?_
      refine AllReadyH.cons rfl (fun K0 hK => ?_) ?_
      rotate_left
      · exact AllReadyH.nil
      go_simp
      refine hK.out _ _ ?_ (fun hHeld => ?_)
      · exact (show Six w6 G 0 t (some ⟨bA, oA, none⟩) c (some ⟨bK, oK, none⟩) c' from hS9.out _ HB6.out).on_blk (Below.heap_setCell w6 ⟨K, 5, none⟩ _ G (show G ≠ K by omega))
      clear hK K0
      try simp only [Act.put, List.getElem_toArray, List.getElem_cons_succ, List.getElem_cons_zero, List.setIfInBounds_toArray, List.set_cons_zero, List.set_cons_succ]
      refine wpAnyH_done (by kernel_rfl) ?_ _
      have hKN := hK6.set_ 5 (.slice C6 (t.keys.length - 1) f6)
      have hBN := (HB9.out.trans (HB6.out.mono HB9.out.size)).setCell (p := ⟨K, 5, none⟩) hs7 (.slice C6 (t.keys.length - 1) f6)
      have hsN : (w6.setCell ⟨K, 5, none⟩ (.slice C6 (t.keys.length - 1) f6)).heap.size = w6.heap.size := by simp [World.setCell]
      have hfarN : ∀ b, b ≠ K → (w6.setCell ⟨K, 5, none⟩ (.slice C6 (t.keys.length - 1) f6)).heap[b]? = w6.heap[b]? := fun b hb => Below.heap_setCell _ _ _ _ hb
      generalize (w6.setCell ⟨K, 5, none⟩ (.slice C6 (t.keys.length - 1) f6)) = W10 at *
      clear k4 fk4 hK6
      have hlK : (t.without k).keys.length = t.keys.length - 1 := without_klen H5.out hkk
      have hT : TV W10 (fun b => b < B0 ∨ (G + 1 < b ∧ b < W10.heap.size)) (t.without k) B6 d6 C6 f6 := by
        have hv9 := HV9.out
        have hs2 := own_strs2 (l := t.keys.eraseIdx k) (by rw [List.length_eraseIdx, if_pos hkk]) (keys_erase hkk ▸ HO6.out)
        have hkeep : Keeps (fun b => b < B0 ∨ (G + 1 < b ∧ b < W9.heap.size ∧ b ≠ K)) W9 W10 := fun b hb => by
          have h1 : b < W9.heap.size := by omega
          have h2 : b ≠ K := by omega
          exact (hfarN b h2).trans (HB6.out.block b h1)
        refine TV.of (by rw [without_len hkl]; exact hv9.1) (by rw [hlK]; exact hs2.1) ((hv9.2.keep hkeep).wide fun b hb => ?_) ?_
        · rcases hb with hb | hb
          · exact .inl hb
          · exact .inr (by omega)
        · rw [without_keys5 H5.out]
          refine (hs2.2.keep fun b hb => hfarN b (by omega)).wide fun b hb => .inr (by omega)
      have hKF : Blk W10 K 29 #[.int .i64 t.kind, .bool t.tr, .int .i64 t.num, .string t.str, .slice B6 (t.items.length - 1) d6, .slice C6 (t.keys.length - 1) f6] := hKN
      have hRF : Blk W10 (G + 1) 29 #[.int .i64 0, .bool false, .int .i64 0, .string ⟨#[]⟩, .slice none 0 0, .slice none 0 0] := (hfarN _ (by omega)).trans (HR9.out.onto HB6.out)
      have hWF : Below G w W10 := HW.out.trans (hBN.mono (by have := HW.out.size; omega))
      clear hsN
      obtain ⟨hF, hTF, hE⟩ := give_end (w := w) hG hB (Nat.le_succ G) hRF hT hWF t.kind t.tr t.num t.str (t.items.length - 1) ((t.keys.length - 1)) rfl rfl rfl rfl (without_len hkl) hlK
      have HFin := Lib.hid (show GivesR B0 (t.without k) w (.returned (.agg #[.int .i64 t.kind, .bool t.tr, .int .i64 t.num, .string t.str, .slice B6 (t.items.length - 1) d6, .slice C6 (t.keys.length - 1) f6])) ((((((W10.setCell ⟨G + 1, 0, none⟩ (.int .i64 t.kind)).setCell ⟨G + 1, 1, none⟩ (.bool t.tr)).setCell ⟨G + 1, 2, none⟩ (.int .i64 t.num)).setCell ⟨G + 1, 3, none⟩ (.string t.str)).setCell ⟨G + 1, 4, none⟩ (.slice B6 (t.items.length - 1) d6)).setCell ⟨G + 1, 5, none⟩ (.slice C6 (t.keys.length - 1) f6)) from by
        obtain ⟨E, e, E', e', he, ht⟩ := hTF
        exact ⟨E, e, E', e', congrArg Ending.returned he, ht, hE⟩)
      have HF := Lib.hid hF
      have r0 : W10.cell? ⟨K, 0, none⟩ = some (.int .i64 t.kind) := hKF.cell 0
      have r1 : W10.cell? ⟨K, 1, none⟩ = some (.bool t.tr) := hKF.cell 1
      have r2 : W10.cell? ⟨K, 2, none⟩ = some (.int .i64 t.num) := hKF.cell 2
      have r3 : W10.cell? ⟨K, 3, none⟩ = some (.string t.str) := hKF.cell 3
      have r4 : W10.cell? ⟨K, 4, none⟩ = some (.slice B6 (t.items.length - 1) d6) := hKF.cell 4
      have r5 : W10.cell? ⟨K, 5, none⟩ = some (.slice C6 (t.keys.length - 1) f6) := hKF.cell 5
      have q0 : W10.cell? ⟨G + 1, 0, none⟩ = some (.int .i64 0) := hRF.cell 0
      have q1 : W10.cell? ⟨G + 1, 1, none⟩ = some (.bool false) := hRF.cell 1
      have q2 : W10.cell? ⟨G + 1, 2, none⟩ = some (.int .i64 0) := hRF.cell 2
      have q3 : W10.cell? ⟨G + 1, 3, none⟩ = some (.string ⟨#[]⟩) := hRF.cell 3
      have q4 : W10.cell? ⟨G + 1, 4, none⟩ = some (.slice none 0 0) := hRF.cell 4
      have q5 : W10.cell? ⟨G + 1, 5, none⟩ = some (.slice none 0 0) := hRF.cell 5
      have f0 := hRF.free 0
      have f1 := hRF.free 1
      have f2 := hRF.free 2
      have f3 := hRF.free 3
      have f4 := hRF.free 4
      have f5 := hRF.free 5
      clear hKF hRF hT hWF hF hTF hE
      go_wp2_with fail
      generalize ((((((W10.setCell ⟨G + 1, 0, none⟩ (.int .i64 t.kind)).setCell ⟨G + 1, 1, none⟩ (.bool t.tr)).setCell ⟨G + 1, 2, none⟩ (.int .i64 t.num)).setCell ⟨G + 1, 3, none⟩ (.string t.str)).setCell ⟨G + 1, 4, none⟩ (.slice B6 (t.items.length - 1) d6)).setCell ⟨G + 1, 5, none⟩ (.slice C6 (t.keys.length - 1) f6)) = Wf at *
      have m0 : Wf.cell? ⟨G + 1, 0, none⟩ = some (.int .i64 t.kind) := HF.out.cell 0
      have m1 : Wf.cell? ⟨G + 1, 1, none⟩ = some (.bool t.tr) := HF.out.cell 1
      have m2 : Wf.cell? ⟨G + 1, 2, none⟩ = some (.int .i64 t.num) := HF.out.cell 2
      have m3 : Wf.cell? ⟨G + 1, 3, none⟩ = some (.string t.str) := HF.out.cell 3
      have m4 : Wf.cell? ⟨G + 1, 4, none⟩ = some (.slice B6 (t.items.length - 1) d6) := HF.out.cell 4
      have m5 : Wf.cell? ⟨G + 1, 5, none⟩ = some (.slice C6 (t.keys.length - 1) f6) := HF.out.cell 5
      exact bodyPost_ret (v := .agg #[.int .i64 t.kind, .bool t.tr, .int .i64 t.num, .string t.str, .slice B6 (t.items.length - 1) d6, .slice C6 (t.keys.length - 1) f6]) (by simp [results, Tryz.results14, go_sem, m0, m1, m2, m3, m4, m5]) rfl HFin.out
    · have g5 : (t.kind == 5) = false := by rw [beq_eq_false_iff_ne]; exact h5
      have hlK : (t.without k).keys.length = t.keys.length := by rw [without_keys4 h5]
      have hT : TV W9 (fun b => b < B0 ∨ (G + 1 < b ∧ b < W9.heap.size)) (t.without k) B6 d6 A' c' := by
        have hv9 := HV9.out
        refine TV.of (by rw [without_len hkl]; exact hv9.1) (by rw [hlK]; exact hlk) (hv9.2.wide fun b hb => ?_) ?_
        · rcases hb with hb | hb
          · exact .inl hb
          · exact .inr (by omega)
        · rw [without_keys4 h5]
          exact (hkeys.below (HW9.out.mono hB)).wide fun b hb => .inl hb
      have hKF := HK9.out
      have hRF := HR9.out
      have hWF := HW9.out
      clear h5
      obtain ⟨hF, hTF, hE⟩ := give_end (w := w) hG hB (Nat.le_succ G) hRF hT hWF t.kind t.tr t.num t.str (t.items.length - 1) (t.keys.length) rfl rfl rfl rfl (without_len hkl) hlK
      have HFin := Lib.hid (show GivesR B0 (t.without k) w (.returned (.agg #[.int .i64 t.kind, .bool t.tr, .int .i64 t.num, .string t.str, .slice B6 (t.items.length - 1) d6, .slice A' t.keys.length c'])) ((((((W9.setCell ⟨G + 1, 0, none⟩ (.int .i64 t.kind)).setCell ⟨G + 1, 1, none⟩ (.bool t.tr)).setCell ⟨G + 1, 2, none⟩ (.int .i64 t.num)).setCell ⟨G + 1, 3, none⟩ (.string t.str)).setCell ⟨G + 1, 4, none⟩ (.slice B6 (t.items.length - 1) d6)).setCell ⟨G + 1, 5, none⟩ (.slice A' t.keys.length c')) from by
        obtain ⟨E, e, E', e', he, ht⟩ := hTF
        exact ⟨E, e, E', e', congrArg Ending.returned he, ht, hE⟩)
      have HF := Lib.hid hF
      have r0 : W9.cell? ⟨K, 0, none⟩ = some (.int .i64 t.kind) := hKF.cell 0
      have r1 : W9.cell? ⟨K, 1, none⟩ = some (.bool t.tr) := hKF.cell 1
      have r2 : W9.cell? ⟨K, 2, none⟩ = some (.int .i64 t.num) := hKF.cell 2
      have r3 : W9.cell? ⟨K, 3, none⟩ = some (.string t.str) := hKF.cell 3
      have r4 : W9.cell? ⟨K, 4, none⟩ = some (.slice B6 (t.items.length - 1) d6) := hKF.cell 4
      have r5 : W9.cell? ⟨K, 5, none⟩ = some (.slice A' t.keys.length c') := hKF.cell 5
      have q0 : W9.cell? ⟨G + 1, 0, none⟩ = some (.int .i64 0) := hRF.cell 0
      have q1 : W9.cell? ⟨G + 1, 1, none⟩ = some (.bool false) := hRF.cell 1
      have q2 : W9.cell? ⟨G + 1, 2, none⟩ = some (.int .i64 0) := hRF.cell 2
      have q3 : W9.cell? ⟨G + 1, 3, none⟩ = some (.string ⟨#[]⟩) := hRF.cell 3
      have q4 : W9.cell? ⟨G + 1, 4, none⟩ = some (.slice none 0 0) := hRF.cell 4
      have q5 : W9.cell? ⟨G + 1, 5, none⟩ = some (.slice none 0 0) := hRF.cell 5
      have f0 := hRF.free 0
      have f1 := hRF.free 1
      have f2 := hRF.free 2
      have f3 := hRF.free 3
      have f4 := hRF.free 4
      have f5 := hRF.free 5
      clear hKF hRF hT hWF hF hTF hE
      go_wp2_with fail
      generalize ((((((W9.setCell ⟨G + 1, 0, none⟩ (.int .i64 t.kind)).setCell ⟨G + 1, 1, none⟩ (.bool t.tr)).setCell ⟨G + 1, 2, none⟩ (.int .i64 t.num)).setCell ⟨G + 1, 3, none⟩ (.string t.str)).setCell ⟨G + 1, 4, none⟩ (.slice B6 (t.items.length - 1) d6)).setCell ⟨G + 1, 5, none⟩ (.slice A' t.keys.length c')) = Wf at *
      have m0 : Wf.cell? ⟨G + 1, 0, none⟩ = some (.int .i64 t.kind) := HF.out.cell 0
      have m1 : Wf.cell? ⟨G + 1, 1, none⟩ = some (.bool t.tr) := HF.out.cell 1
      have m2 : Wf.cell? ⟨G + 1, 2, none⟩ = some (.int .i64 t.num) := HF.out.cell 2
      have m3 : Wf.cell? ⟨G + 1, 3, none⟩ = some (.string t.str) := HF.out.cell 3
      have m4 : Wf.cell? ⟨G + 1, 4, none⟩ = some (.slice B6 (t.items.length - 1) d6) := HF.out.cell 4
      have m5 : Wf.cell? ⟨G + 1, 5, none⟩ = some (.slice A' t.keys.length c') := HF.out.cell 5
      exact bodyPost_ret (v := .agg #[.int .i64 t.kind, .bool t.tr, .int .i64 t.num, .string t.str, .slice B6 (t.items.length - 1) d6, .slice A' t.keys.length c']) (by simp [results, Tryz.results14, go_sem, m0, m1, m2, m3, m4, m5]) rfl HFin.out
theorem tail_reads {w : World} {S : Nat → Prop} {bp op cp : Nat} {q : ByteArray} {p : List ByteArray} (h : SReads w S (some ⟨bp, op, none⟩) (q :: p)) (hc : p.length + 1 ≤ cp) : SReads w S (if cp = 1 then some ⟨bp, op, none⟩ else some ⟨bp, op + 1, none⟩) p := by
  split
  · have : p = [] := List.length_eq_zero_iff.1 (by omega)
    subst this
    exact SReads.none_ _ _ _
  · exact h.tail
set_option maxRecDepth 100000 in
set_option maxHeartbeats 16000000 in
theorem rrem_cons (q : ByteArray) (p : List ByteArray) (ih : RRemAt p) : RRemAt (q :: p) := by
  intro B0 t h r qe ke P cp A c A' c' w hn hl hke hs hpc hpl hB hp hv
  obtain ⟨k, y, hk, hy, hly⟩ := hl
  obtain ⟨k', y', z, hk', hy', hsy, rfl⟩ := hs
  obtain rfl := IsAt.unique hn hk hk'
  obtain rfl : y = y' := by have := hy.symm.trans hy'; injection this
  have hkl := hk.1
  have hi80 := hn.items80
  obtain ⟨n, hnp⟩ : ∃ n, n = p.length + 1 := ⟨_, rfl⟩
  have hlen : (q :: p).length = n := by rw [hnp]; rfl
  rw [hlen] at hpc hpl ⊢
  obtain ⟨bp, op, rfl, hbp, hcp⟩ := hp (by simp)
  have hq0 : w.cell? ⟨bp, op, none⟩ = some (.string q) := by have := hcp 0 q rfl; rwa [Nat.add_zero] at this
  obtain ⟨bA, oA, y', D, g, D', g', rfl, hbA, hx', h6y, hY⟩ := hv.at_ hkl
  obtain rfl : y = y' := by have := hy.symm.trans hx'; injection this
  obtain ⟨xs, hcells, hsrc⟩ := hv.vreads.src
  have HK := Lib.hid hk
  have HN := Lib.hid hn
  have HV := Lib.hid hv
  have HY := Lib.hid hY
  have HY6 := Lib.hid h6y
  have HC := Lib.hid hcells
  have HSrc := Lib.hid hsrc
  have HTail := Lib.hid (tail_reads (cp := cp) (show SReads w (· < B0) (some ⟨bp, op, none⟩) (q :: (p ++ [qe])) from hp) (by simp; omega))
  have HQ0 := Lib.hid hq0
  have HIH := Lib.hid (show ∀ cp0 cp w, n ≤ cp → B0 ≤ w.heap.size → SReads w (· < B0) (if cp0 = 1 then some ⟨bp, op, none⟩ else some ⟨bp, op + 1, none⟩) (p ++ [qe]) → TV w (· < B0) y D g D' g' → Calls Tryz.prog 14 #[.agg #[.int .i64 y.kind, .bool y.tr, .int .i64 y.num, .string y.str, .slice D y.items.length g, .slice D' y.keys.length g'], .slice (if cp0 = 1 then some ⟨bp, op, none⟩ else some ⟨bp, op + 1, none⟩) n cp] w (GivesR B0 z w) from fun cp0 cp w hpc hB hp hyv => by
    have := ih B0 y h z qe ke (if cp0 = 1 then some ⟨bp, op, none⟩ else some ⟨bp, op + 1, none⟩) cp D g D' g' w (hn.at_ hy) hly hke hsy (by omega) (by omega) hB hp hyv
    rwa [← hnp] at this)
  have n1 : (1 : Int) < (n : Int) + 1 := by omega
  have n2 : ¬ ((n : Int) + 1 ≤ 1) := by omega
  have n3 : decide ((1 : Int) < (n : Int) + 1) = true := decide_eq_true n1
  clear hp hv hn hsy hcp hq0 hY h6y hcells hsrc hx' ih hk hk' hke hly hlen hnp
  go_enter Tryz.func14, Tryz.ntmps14
  go_upto_region 1 with fail
  have hW : Below w.heap.size w ((w.alloc (.cells #[.int .i64 t.kind, .bool t.tr, .int .i64 t.num, .string t.str, .slice (some ⟨bA, oA, none⟩) t.items.length c, .slice A' t.keys.length c'] 29)).alloc (.cells #[.int .i64 0, .bool false, .int .i64 0, .string ⟨#[]⟩, .slice none 0 0, .slice none 0 0] 29)) := ((Below.refl _ _).alloc (Nat.le_refl _) _).alloc (by simp) _
  have hB0 : Blk ((w.alloc (.cells #[.int .i64 t.kind, .bool t.tr, .int .i64 t.num, .string t.str, .slice (some ⟨bA, oA, none⟩) t.items.length c, .slice A' t.keys.length c'] 29)).alloc (.cells #[.int .i64 0, .bool false, .int .i64 0, .string ⟨#[]⟩, .slice none 0 0, .slice none 0 0] 29)) w.heap.size 29 #[.int .i64 t.kind, .bool t.tr, .int .i64 t.num, .string t.str, .slice (some ⟨bA, oA, none⟩) t.items.length c, .slice A' t.keys.length c'] := (Blk.new w _ _).alloc _
  have hB2 : Blk ((w.alloc (.cells #[.int .i64 t.kind, .bool t.tr, .int .i64 t.num, .string t.str, .slice (some ⟨bA, oA, none⟩) t.items.length c, .slice A' t.keys.length c'] 29)).alloc (.cells #[.int .i64 0, .bool false, .int .i64 0, .string ⟨#[]⟩, .slice none 0 0, .slice none 0 0] 29)) (w.heap.size + 1) 29 #[.int .i64 0, .bool false, .int .i64 0, .string ⟨#[]⟩, .slice none 0 0, .slice none 0 0] := by
    have := Blk.new (w.alloc (.cells #[.int .i64 t.kind, .bool t.tr, .int .i64 t.num, .string t.str, .slice (some ⟨bA, oA, none⟩) t.items.length c, .slice A' t.keys.length c'] 29)) 29 #[.int .i64 0, .bool false, .int .i64 0, .string ⟨#[]⟩, .slice none 0 0, .slice none 0 0]
    simpa using this
  change Code.wp _ _ _ _ ((w.alloc (.cells #[.int .i64 t.kind, .bool t.tr, .int .i64 t.num, .string t.str, .slice (some ⟨bA, oA, none⟩) t.items.length c, .slice A' t.keys.length c'] 29)).alloc (.cells #[.int .i64 0, .bool false, .int .i64 0, .string ⟨#[]⟩, .slice none 0 0, .slice none 0 0] 29))
  generalize ((w.alloc (.cells #[.int .i64 t.kind, .bool t.tr, .int .i64 t.num, .string t.str, .slice (some ⟨bA, oA, none⟩) t.items.length c, .slice A' t.keys.length c'] 29)).alloc (.cells #[.int .i64 0, .bool false, .int .i64 0, .string ⟨#[]⟩, .slice none 0 0, .slice none 0 0] 29)) = W at *
  have HW := Lib.hid hW
  have HB0 := Lib.hid hB0
  have HB2 := Lib.hid hB2
  have hl2 := hB2.lt
  generalize hG : w.heap.size = G at *
  have hVW := Lib.hid (show TV W (· < W.heap.size) t (some ⟨bA, oA, none⟩) c A' c' from (HV.out.under (hW.mono hB)).wide fun b hb => by have : b < B0 := hb; show b < W.heap.size; omega)
  have HSS := Lib.hid (show ∀ w', Below W.heap.size W w' → (w'.cell? ⟨G, 0, none⟩ = some (.int .i64 t.kind) ∧ w'.cell? ⟨G, 1, none⟩ = some (.bool t.tr) ∧ w'.cell? ⟨G, 2, none⟩ = some (.int .i64 t.num) ∧ w'.cell? ⟨G, 3, none⟩ = some (.string t.str) ∧ w'.cell? ⟨G, 4, none⟩ = some (.slice (some ⟨bA, oA, none⟩) t.items.length c) ∧ w'.cell? ⟨G, 5, none⟩ = some (.slice A' t.keys.length c')) ∧ w'.cell? ⟨bp, op, none⟩ = some (.string q) from fun w' h => by
    have h0 := HB0.out.onto h
    have hbp2 : bp < B0 := hbp
    exact ⟨⟨h0.cell 0, h0.cell 1, h0.cell 2, h0.cell 3, h0.cell 4, h0.cell 5⟩, ((h.cell (p := ⟨bp, op, none⟩) (show bp < W.heap.size by omega)).trans (hW.cell (p := ⟨bp, op, none⟩) (show bp < G by omega))).trans HQ0.out⟩)
  obtain ⟨⟨a0, a1, a2, a3, a4, a5⟩, ep⟩ := HSS.out W (Below.refl _ _)
  have HBc := Lib.hid (Below.refl W.heap.size W)
  clear hW hB0 hB2
  go_region_held3 (fun w' => (w'.cell? ⟨G, 0, none⟩ = some (.int .i64 t.kind) ∧ w'.cell? ⟨G, 1, none⟩ = some (.bool t.tr) ∧ w'.cell? ⟨G, 2, none⟩ = some (.int .i64 t.num) ∧ w'.cell? ⟨G, 3, none⟩ = some (.string t.str) ∧ w'.cell? ⟨G, 4, none⟩ = some (.slice (some ⟨bA, oA, none⟩) t.items.length c) ∧ w'.cell? ⟨G, 5, none⟩ = some (.slice A' t.keys.length c')) ∧ w'.cell? ⟨bp, op, none⟩ = some (.string q))
    (first
      | with_reducible exact HSS.out _ HBc.out
      | with_reducible exact HSS.out _ (below_drewN HBc.out _)
      | exact HSS.out _ HBc.out.drew
      | go_keep)
    (first
      | (go_at_call 28
         with_reducible refine (rplace_yes t q k _ c A' c' _ HN.out HK.out (hVW.out.on ?_)).mono ?_
         · exact (by first | with_reducible exact HBc.out | with_reducible exact below_drewN HBc.out _ | exact HBc.out.drew)
         rintro e7 w7 ⟨rfl, hb7⟩
         have HBc := Lib.hid (show Below W.heap.size W w7 from by first | with_reducible exact HBc.out.trans (hb7.mono HBc.out.size) | with_reducible exact (below_drewN HBc.out _).trans (hb7.mono HBc.out.size) | exact HBc.out.drew.trans (hb7.mono HBc.out.size))
         clear hb7))
  all_goals
    have hb7 : Below W.heap.size W w7 := (by first | with_reducible exact HBc.out | with_reducible exact below_drewN HBc.out _ | exact HBc.out.drew)
    have h7 := HB0.out.onto hb7
    obtain ⟨b0, b1, b2, b3, b4, b5⟩ : w7.cell? ⟨G, 0, none⟩ = some (.int .i64 t.kind) ∧ w7.cell? ⟨G, 1, none⟩ = some (.bool t.tr) ∧ w7.cell? ⟨G, 2, none⟩ = some (.int .i64 t.num) ∧ w7.cell? ⟨G, 3, none⟩ = some (.string t.str) ∧ w7.cell? ⟨G, 4, none⟩ = some (.slice (some ⟨bA, oA, none⟩) t.items.length c) ∧ w7.cell? ⟨G, 5, none⟩ = some (.slice A' t.keys.length c') := ⟨h7.cell 0, h7.cell 1, h7.cell 2, h7.cell 3, h7.cell 4, h7.cell 5⟩
    have HB7 := Lib.hid hb7
    have hs7 := hb7.size
    clear h7 hb7 a0 a1 a2 a3 a4 a5 ep HBc
    go_upto_region 3 with fail
    have hb8 : Below W.heap.size W (w7.alloc (.cells #[.int .i64 t.kind, .bool t.tr, .int .i64 t.num, .string t.str, .slice (some ⟨bA, oA, none⟩) t.items.length c, .slice A' t.keys.length c'] 29)) := HB7.out.alloc hs7 _
    have hK8 : Blk (w7.alloc (.cells #[.int .i64 t.kind, .bool t.tr, .int .i64 t.num, .string t.str, .slice (some ⟨bA, oA, none⟩) t.items.length c, .slice A' t.keys.length c'] 29)) w7.heap.size 29 #[.int .i64 t.kind, .bool t.tr, .int .i64 t.num, .string t.str, .slice (some ⟨bA, oA, none⟩) t.items.length c, .slice A' t.keys.length c'] := Blk.new w7 _ _
    change Code.wp _ _ _ _ (w7.alloc (.cells #[.int .i64 t.kind, .bool t.tr, .int .i64 t.num, .string t.str, .slice (some ⟨bA, oA, none⟩) t.items.length c, .slice A' t.keys.length c'] 29))
    generalize (w7.alloc (.cells #[.int .i64 t.kind, .bool t.tr, .int .i64 t.num, .string t.str, .slice (some ⟨bA, oA, none⟩) t.items.length c, .slice A' t.keys.length c'] 29)) = W8 at *
    generalize w7.heap.size = K at *
    have HB8 := Lib.hid hb8
    have HK8 := Lib.hid hK8
    have hs8 := hb8.size
    have hK8l := hK8.lt
    have hww8 : Below G w W8 := HW.out.trans (hb8.mono (by have := HW.out.size; omega))
    have HWW8 := Lib.hid hww8
    have HBB := Lib.hid (show ∀ w', Below W8.heap.size W8 w' → Below B0 w w' from fun w' h => (hww8.trans (h.mono (by have := hww8.size; omega))).mono hB)
    clear hb8 hK8 b0 b1 b2 b3 b4 b5 HB7 hww8
    have g4 : W8.cell? ⟨G, 4, none⟩ = some (.slice (some ⟨bA, oA, none⟩) t.items.length c) := (HB0.out.onto HB8.out).cell 4
    have g4' : ∀ o : Obj, (W8.alloc o).cell? ⟨G, 4, none⟩ = some (.slice (some ⟨bA, oA, none⟩) t.items.length c) := fun o => (fary (HB0.out.onto HB8.out).lt).trans g4
    have HO8 := Lib.hid (World.ownsRow_lit (base := W8.heap.size) (e := 29) (size := 6) W8 #[] 0 (Nat.le_refl _) (by unfold maxLen; omega) rfl)
    have HS8 := Lib.hid (HSrc.out (W8.alloc (.cells #[] 29)) ((HWW8.out.mono hB).alloc (by omega) _))
    go_wp2_with (
      at_builtin
      refine app_vs rfl (.tmp 16) (.tmp 18) rfl W8.heap.size _ rfl HO8.out (some ⟨bA, oA, none⟩) t.items.length c xs rfl HS8.out HC.out.2.1 (by omega) (by simp) ?_
      intro Bn dn w10 ho10 hbl10 hg10
      obtain ⟨gN, cur, rfl, hge, hBk, hcsz, hnd, hcur⟩ := own_blk ho10 (by omega)
      have hb10 : Below W8.heap.size W8 w10 := hbl10 _ ((Below.refl _ _).alloc (Nat.le_refl _) _)
      have hK10 := HK8.out.onto hb10
      have k4 : w10.cell? ⟨K, 4, none⟩ = some (.slice (some ⟨bA, oA, none⟩) t.items.length c) := hK10.cell 4
      have fk4 := hK10.free 4
      have hKg : K ≠ gN := by omega
      have hK11 := Lib.hid (hK10.set_ 4 (.slice (some ⟨gN, 0, none⟩) t.items.length dn))
      have hN11 := Lib.hid (hBk.far (p := ⟨K, 4, none⟩) (Ne.symm hKg) (.slice (some ⟨gN, 0, none⟩) t.items.length dn))
      have hb11 := Lib.hid ((HB8.out.trans (hb10.mono hs8)).setCell (p := ⟨K, 4, none⟩) hs7 (.slice (some ⟨gN, 0, none⟩) t.items.length dn))
      have hs11 : (w10.setCell ⟨K, 4, none⟩ (.slice (some ⟨gN, 0, none⟩) t.items.length dn)).heap.size = w10.heap.size := by simp [World.setCell]
      have hs10 := hb10.size
      have hgl := hBk.lt
      clear ho10 hbl10 hg10 hb10 hK10 hBk g4 g4' HO8 HS8)
    change Code.wp _ _ _ _ (w10.setCell ⟨K, 4, none⟩ (.slice (some ⟨gN, 0, none⟩) t.items.length dn))
    generalize (w10.setCell ⟨K, 4, none⟩ (.slice (some ⟨gN, 0, none⟩) t.items.length dn)) = W11 at *
    generalize w10.heap.size = L10 at *
    clear k4 fk4
    have hK11' := Lib.hid (show Blk W11 K 29 #[.int .i64 t.kind, .bool t.tr, .int .i64 t.num, .string t.str, .slice (some ⟨gN, 0, none⟩) t.items.length dn, .slice A' t.keys.length c'] from hK11.out)
    have hww11 := Lib.hid (show Below G w W11 from HW.out.trans (hb11.out.mono (by have := HW.out.size; omega)))
    have HS11 := Lib.hid (show ∀ w', Below W11.heap.size W11 w' → (w'.cell? ⟨K, 4, none⟩ = some (.slice (some ⟨gN, 0, none⟩) t.items.length dn) ∧ w'.cell? ⟨G, 4, none⟩ = some (.slice (some ⟨bA, oA, none⟩) t.items.length c)) ∧ (w'.cell? ⟨bA, oA + k * 6, none⟩ = some (.int .i64 y.kind) ∧ w'.cell? ⟨bA, oA + k * 6 + 1, none⟩ = some (.bool y.tr) ∧ w'.cell? ⟨bA, oA + k * 6 + 2, none⟩ = some (.int .i64 y.num) ∧ w'.cell? ⟨bA, oA + k * 6 + 3, none⟩ = some (.string y.str) ∧ w'.cell? ⟨bA, oA + k * 6 + 4, none⟩ = some (.slice D y.items.length g) ∧ w'.cell? ⟨bA, oA + k * 6 + 5, none⟩ = some (.slice D' y.keys.length g')) from fun w' h => by
      have hb : Below W.heap.size W w' := hb11.out.trans (h.mono hb11.out.size)
      have hw : Below G w w' := hww11.out.trans (h.mono (by have := hww11.out.size; omega))
      have h0 := HB0.out.onto hb
      have h3 := hK11'.out.onto h
      have hbA2 : bA < B0 := hbA
      exact ⟨⟨h3.cell 4, h0.cell 4⟩, HY6.out.on_blk (hw.block bA (by omega))⟩)
    obtain ⟨⟨k4, g4⟩, ⟨y0, y1, y2, y3, y4, y5⟩⟩ := HS11.out W11 (Below.refl _ _)
    have HBd := Lib.hid (Below.refl W11.heap.size W11)
    have l1 : (0 : Int) ≤ (n : Int) := by omega
    have l2 : (n : Int) + 1 ≤ (cp : Int) := by omega
    have l3 : n + 1 ≤ cp := by omega
    have l4 : (1 : Int) ≤ (n : Int) + 1 := by omega
    have l5 : (1 : Int) ≤ (cp : Int) := by omega
    have i3 : (k : Int) < (t.items.length : Int) := by omega
    have i4 : (0 : Int) ≤ (k : Int) := by omega
    have HTx := Lib.hid (fun w' (h : Below W11.heap.size W11 w') => HIH.out cp (cp - 1) w' (by omega) (by have := h.size; omega) (HTail.out.below ((hww11.out.trans (h.mono (by have := hww11.out.size; omega))).mono hB)) (HY.out.under ((hww11.out.trans (h.mono (by have := hww11.out.size; omega))).mono hB)))
    have HN11 := Lib.hid (fun w' (h : Below W11.heap.size W11 w') => (hN11.out.onto h).six (o := k * 6) (by omega))
    have HF11 := Lib.hid (fun w' (h : Below W11.heap.size W11 w') j => (hN11.out.onto h).free j)
    refine wp_region_held_drew (S := fun w' => (w'.cell? ⟨K, 4, none⟩ = some (.slice (some ⟨gN, 0, none⟩) t.items.length dn) ∧ w'.cell? ⟨G, 4, none⟩ = some (.slice (some ⟨bA, oA, none⟩) t.items.length c)) ∧ (w'.cell? ⟨bA, oA + k * 6, none⟩ = some (.int .i64 y.kind) ∧ w'.cell? ⟨bA, oA + k * 6 + 1, none⟩ = some (.bool y.tr) ∧ w'.cell? ⟨bA, oA + k * 6 + 2, none⟩ = some (.int .i64 y.num) ∧ w'.cell? ⟨bA, oA + k * 6 + 3, none⟩ = some (.string y.str) ∧ w'.cell? ⟨bA, oA + k * 6 + 4, none⟩ = some (.slice D y.items.length g) ∧ w'.cell? ⟨bA, oA + k * 6 + 5, none⟩ = some (.slice D' y.keys.length g'))) (by kernel_rfl) ?_ (fun hHeld => ?_)
    · exact HS11.out _ (Below.refl _ _).drew
    refine wpAnyH_take (i := 0) (v := ?_) rfl (by kernel_rfl) (by kernel_rfl) (by kernel_rfl) (fun _ _ _ h => h) (Or.inl ⟨by rfl, ?_⟩) (by assumption) ?_
    rotate_left
    · intro wq hSw
      try dsimp only at hSw
      go_simp
      try (with_reducible rfl)
    try simp only [Act.put, List.getElem_toArray, List.getElem_cons_zero, List.setIfInBounds_toArray, List.set_cons_zero, List.set_cons_succ]
    refine wpAnyH_take (i := 1) (v := ?_) rfl (by kernel_rfl) (by kernel_rfl) (by kernel_rfl) (fun _ _ _ h => h) (Or.inl ⟨by rfl, ?_⟩) (by assumption) ?_
    rotate_left
    · intro wq hSw
      try dsimp only at hSw
      go_simp
      try (with_reducible rfl)
    try simp only [Act.put, List.getElem_toArray, List.getElem_cons_succ, List.getElem_cons_zero, List.setIfInBounds_toArray, List.set_cons_zero, List.set_cons_succ]
    refine wpAnyH_take (i := 2) (v := ?_) rfl (by kernel_rfl) (by kernel_rfl) (by kernel_rfl) (fun _ _ _ h => h) (Or.inl ⟨by rfl, ?_⟩) (by assumption) ?_
    rotate_left
    · intro wq hSw
      try dsimp only at hSw
      go_simp
      try (with_reducible rfl)
    try simp only [Act.put, List.getElem_toArray, List.getElem_cons_succ, List.getElem_cons_zero, List.setIfInBounds_toArray, List.set_cons_zero, List.set_cons_succ]
    refine wpAnyH_take (i := 3) (v := ?_) rfl (by kernel_rfl) (by kernel_rfl) (by kernel_rfl) (fun _ _ _ h => h) (Or.inl ⟨by rfl, ?_⟩) (by assumption) ?_
    rotate_left
    · intro wq hSw
      try dsimp only at hSw
      go_simp
      try (with_reducible rfl)
    try simp only [Act.put, List.getElem_toArray, List.getElem_cons_succ, List.getElem_cons_zero, List.setIfInBounds_toArray, List.set_cons_zero, List.set_cons_succ]
    refine wpAnyH_take (i := 4) (v := ?_) rfl (by kernel_rfl) (by kernel_rfl) (by kernel_rfl) (fun _ _ _ h => h) (Or.inl ⟨by rfl, ?_⟩) (by assumption) ?_
    rotate_left
    · intro wq hSw
      try dsimp only at hSw
      go_simp
      try (with_reducible rfl)
    try simp only [Act.put, List.getElem_toArray, List.getElem_cons_succ, List.getElem_cons_zero, List.setIfInBounds_toArray, List.set_cons_zero, List.set_cons_succ]
    refine wpAnyH_take (i := 5) (v := ?_) rfl (by kernel_rfl) (by kernel_rfl) (by kernel_rfl) (fun _ _ _ h => h) (Or.inl ⟨by rfl, ?_⟩) (by assumption) ?_
    rotate_left
    · intro wq hSw
      try dsimp only at hSw
      go_simp
      try (with_reducible rfl)
    try simp only [Act.put, List.getElem_toArray, List.getElem_cons_succ, List.getElem_cons_zero, List.setIfInBounds_toArray, List.set_cons_zero, List.set_cons_succ]
    refine wpAnyH_take (i := 6) (v := ?_) rfl (by kernel_rfl) (by kernel_rfl) (by kernel_rfl) (fun _ _ _ h => h) (Or.inl ⟨by rfl, ?_⟩) (by assumption) ?_
    rotate_left
    · intro wq hSw
      try dsimp only at hSw
      go_simp
      try (with_reducible rfl)
    try simp only [Act.put, List.getElem_toArray, List.getElem_cons_succ, List.getElem_cons_zero, List.setIfInBounds_toArray, List.set_cons_zero, List.set_cons_succ]
    refine wpAnyH_take (i := 7) (v := ?_) rfl (by kernel_rfl) (by kernel_rfl) (by kernel_rfl) (fun _ _ _ h => h) (Or.inl ⟨by rfl, ?_⟩) (by assumption) ?_
    rotate_left
    · intro wq hSw
      try dsimp only at hSw
      go_simp
      try (with_reducible rfl)
    try simp only [Act.put, List.getElem_toArray, List.getElem_cons_succ, List.getElem_cons_zero, List.setIfInBounds_toArray, List.set_cons_zero, List.set_cons_succ]
    refine wpAnyH_take (i := 8) (v := ?_) rfl (by kernel_rfl) (by kernel_rfl) (by kernel_rfl) (fun _ _ _ h => h) (Or.inl ⟨by rfl, ?_⟩) (by assumption) ?_
    rotate_left
    · intro wq hSw
      try dsimp only at hSw
      go_simp
      try (with_reducible rfl)
    try simp only [Act.put, List.getElem_toArray, List.getElem_cons_succ, List.getElem_cons_zero, List.setIfInBounds_toArray, List.set_cons_zero, List.set_cons_succ]
    refine wpAnyH_take (i := 9) (v := ?_) rfl (by kernel_rfl) (by kernel_rfl) (by kernel_rfl) (fun _ _ _ h => h) (Or.inl ⟨by rfl, ?_⟩) (by assumption) ?_
    rotate_left
    · intro wq hSw
      try dsimp only at hSw
      go_simp
      try (with_reducible rfl)
    try simp only [Act.put, List.getElem_toArray, List.getElem_cons_succ, List.getElem_cons_zero, List.setIfInBounds_toArray, List.set_cons_zero, List.set_cons_succ]
    generalize (if cp = 1 then some (⟨bp, op, none⟩ : Addr) else some ⟨bp, op + 1, none⟩) = P1 at *
    refine wpAnyH_ready (rs := [10]) (by kernel_rfl) (by simp) ?_
    refine AllReadyH.cons rfl (fun K0 hK => ?_) ?_
    rotate_left
    · exact AllReadyH.nil
    go_simp
    refine (HTx.out _ ?_).mono ?_
    · exact (Below.refl _ _).drew
    rintro e12 w12 ⟨D2, d2, D2', d2', rfl, hT12, hb12⟩
    unfold T.agg
    have HT12 := Lib.hid hT12
    have HBd := Lib.hid (show Below W11.heap.size W11 w12 from (Below.refl W11.heap.size W11).drew.trans hb12)
    clear hb12 hT12
    go_wp2_with fail
    refine hK.out _ _ ?_ (fun hHeld => ?_)
    · exact HS11.out _ HBd.out
    clear hK K0
    try simp only [Act.put, List.getElem_toArray, List.getElem_cons_succ, List.getElem_cons_zero, List.setIfInBounds_toArray, List.set_cons_zero, List.set_cons_succ]
    refine wpAnyH_take (i := 11) (v := ?_) rfl (by kernel_rfl) (by kernel_rfl) (by kernel_rfl) (fun _ _ _ h => h) (Or.inl ⟨by rfl, ?_⟩) (by assumption) ?_
    rotate_left
    · intro wq hSw
      try dsimp only at hSw
      go_simp
      try (with_reducible rfl)
    try simp only [Act.put, List.getElem_toArray, List.getElem_cons_succ, List.getElem_cons_zero, List.setIfInBounds_toArray, List.set_cons_zero, List.set_cons_succ]
    obtain ⟨n0, n1, n2, n3, n4, n5, m0, m1, m2, m3, m4, m5⟩ := HN11.out w12 HBd.out
    have z0 := HF11.out w12 HBd.out (k * 6)
    have z1 := HF11.out w12 HBd.out (k * 6 + 1)
    have z2 := HF11.out w12 HBd.out (k * 6 + 2)
    have z3 := HF11.out w12 HBd.out (k * 6 + 3)
    have z4 := HF11.out w12 HBd.out (k * 6 + 4)
    have z5 := HF11.out w12 HBd.out (k * 6 + 5)
    refine wpAnyH_ready (rs := [12]) (by kernel_rfl) (by simp) ?_
    refine AllReadyH.cons rfl (fun K0 hK => ?_) ?_
    rotate_left
    · exact AllReadyH.nil
    go_simp
    refine hK.out _ _ ?_ (fun hHeld => ?_)
    · have hS := HS11.out w12 HBd.out
      have hne : ∀ b o, b ≠ gN → (((((((w12.setCell ⟨gN, k * 6, none⟩ (.int .i64 z.kind)).setCell ⟨gN, k * 6 + 1, none⟩ (.bool z.tr)).setCell ⟨gN, k * 6 + 2, none⟩ (.int .i64 z.num)).setCell ⟨gN, k * 6 + 3, none⟩ (.string z.str)).setCell ⟨gN, k * 6 + 4, none⟩ (.slice D2 z.items.length d2)).setCell ⟨gN, k * 6 + 5, none⟩ (.slice D2' z.keys.length d2'))).cell? ⟨b, o, none⟩ = w12.cell? ⟨b, o, none⟩ := fun b o hb => World.cell?_of_block (put6_heap hb)
      have hbA2 : bA < B0 := hbA
      have hsW := hb11.out.size
      have g1 : G ≠ gN := by omega
      have g3 : bA ≠ gN := by omega
      try dsimp only
      rw [hne K _ hKg, hne G _ g1, hne bA _ g3, hne bA _ g3, hne bA _ g3, hne bA _ g3, hne bA _ g3, hne bA _ g3]
      exact hS
    clear hK K0
    try simp only [Act.put, List.getElem_toArray, List.getElem_cons_succ, List.getElem_cons_zero, List.setIfInBounds_toArray, List.set_cons_zero, List.set_cons_succ]
    refine wpAnyH_done (by kernel_rfl) ?_ _
    have hsW' := hb11.out.size
    all_goals
      have hbd := HBd.out
      have hw12 : Below G w w12 := hww11.out.trans (hbd.mono (by have := hww11.out.size; omega))
      have hs12 := hbd.size
      have hsW := hb11.out.size
      have hbN := hN11.out.onto hbd
      have hRW2 := (HB2.out.onto hb11.out).onto hbd
      obtain ⟨W13, hW13, hKW, hRW, hF, hTT, hE⟩ := rset_endR (R := G + 1) (w := w) (W11 := W11) (w12 := w12) (t := t) (z := z) (xs := xs) hG hB (show G ≤ G + 1 by omega) (show G + 1 < gN by omega) (by omega) hKg hkl hbN hcsz hnd hcur hw12 hs12 HC.out HV.out.keys HV.out.lens.2 HT12.out (hK11'.out.onto hbd) hRW2
      rw [← hW13]
      clear hW13
      have r0 : W13.cell? ⟨K, 0, none⟩ = some (.int .i64 t.kind) := hKW.cell 0
      have r1 : W13.cell? ⟨K, 1, none⟩ = some (.bool t.tr) := hKW.cell 1
      have r2 : W13.cell? ⟨K, 2, none⟩ = some (.int .i64 t.num) := hKW.cell 2
      have r3 : W13.cell? ⟨K, 3, none⟩ = some (.string t.str) := hKW.cell 3
      have r4 : W13.cell? ⟨K, 4, none⟩ = some (.slice (some ⟨gN, 0, none⟩) t.items.length dn) := hKW.cell 4
      have r5 : W13.cell? ⟨K, 5, none⟩ = some (.slice A' t.keys.length c') := hKW.cell 5
      have q0 : W13.cell? ⟨G + 1, 0, none⟩ = some (.int .i64 0) := hRW.cell 0
      have q1 : W13.cell? ⟨G + 1, 1, none⟩ = some (.bool false) := hRW.cell 1
      have q2 : W13.cell? ⟨G + 1, 2, none⟩ = some (.int .i64 0) := hRW.cell 2
      have q3 : W13.cell? ⟨G + 1, 3, none⟩ = some (.string ⟨#[]⟩) := hRW.cell 3
      have q4 : W13.cell? ⟨G + 1, 4, none⟩ = some (.slice none 0 0) := hRW.cell 4
      have q5 : W13.cell? ⟨G + 1, 5, none⟩ = some (.slice none 0 0) := hRW.cell 5
      have f0 := hRW.free 0
      have f1 := hRW.free 1
      have f2 := hRW.free 2
      have f3 := hRW.free 3
      have f4 := hRW.free 4
      have f5 := hRW.free 5
      have HF := Lib.hid hF
      have HE2 := Lib.hid hE
      have HTT := Lib.hid hTT
      clear hF hTT hE hKW hRW hRW2 hbN hw12 hbd m0 m1 m2 m3 m4 m5 z0 z1 z2 z3 z4 z5 k4 g4 y0 y1 y2 y3 y4 y5 hcur hcsz hnd
      go_wp2_with fail
      generalize ((((((W13.setCell ⟨G + 1, 0, none⟩ (.int .i64 t.kind)).setCell ⟨G + 1, 1, none⟩ (.bool t.tr)).setCell ⟨G + 1, 2, none⟩ (.int .i64 t.num)).setCell ⟨G + 1, 3, none⟩ (.string t.str)).setCell ⟨G + 1, 4, none⟩ (.slice (some ⟨gN, 0, none⟩) t.items.length dn)).setCell ⟨G + 1, 5, none⟩ (.slice A' t.keys.length c')) = Wf at *
      have m0 : Wf.cell? ⟨G + 1, 0, none⟩ = some (.int .i64 t.kind) := HF.out.cell 0
      have m1 : Wf.cell? ⟨G + 1, 1, none⟩ = some (.bool t.tr) := HF.out.cell 1
      have m2 : Wf.cell? ⟨G + 1, 2, none⟩ = some (.int .i64 t.num) := HF.out.cell 2
      have m3 : Wf.cell? ⟨G + 1, 3, none⟩ = some (.string t.str) := HF.out.cell 3
      have m4 : Wf.cell? ⟨G + 1, 4, none⟩ = some (.slice (some ⟨gN, 0, none⟩) t.items.length dn) := HF.out.cell 4
      have m5 : Wf.cell? ⟨G + 1, 5, none⟩ = some (.slice A' t.keys.length c') := HF.out.cell 5
      exact bodyPost_ret (v := .agg #[.int .i64 t.kind, .bool t.tr, .int .i64 t.num, .string t.str, .slice (some ⟨gN, 0, none⟩) t.items.length dn, .slice A' t.keys.length c']) (by simp [results, Tryz.results14, go_sem, m0, m1, m2, m3, m4, m5]) rfl ⟨some ⟨gN, 0, none⟩, dn, A', c', by rw [agg_with], HTT.out, HE2.out⟩
end Go.Proofs.YthkpeomdklcnmaaGreatDoor
namespace Go.Proofs.YthkpeomdklcnmaaGreatDoor
open Go.RowKit
set_option linter.unusedVariables false

theorem rrem_at (p : List ByteArray) : RRemAt p := by
  induction p with
  | nil => exact rrem_nil
  | cons a p ih => exact rrem_cons a p ih
theorem rrem_any (t h r : T) (p : List ByteArray) (q : ByteArray) (k : Nat) (P : Option Addr) (cp : Nat) (A : Option Addr) (c : Nat) (A' : Option Addr) (c' : Nat) (w : World) (hn : t.Fine) (hl : Leads t p h) (hk : IsAt h q k) (hs : Sets t p (h.without k) r) (hpc : p.length + 1 ≤ cp) (hpl : p.length ≤ 999) (hp : SReads w (· < w.heap.size) P (p ++ [q])) (hv : TV w (· < w.heap.size) t A c A' c') :
    Calls Tryz.prog 14 #[.agg #[.int .i64 t.kind, .bool t.tr, .int .i64 t.num, .string t.str, .slice A t.items.length c, .slice A' t.keys.length c'], .slice P (p.length + 1) cp] w (GivesV r w) := by
  refine (rrem_at p w.heap.size t h r q k P cp A c A' c' w hn hl hk hs hpc hpl (Nat.le_refl _) hp hv).mono ?_
  rintro e w' ⟨D, d, D', d', rfl, hT, hb⟩
  have hsz := hb.size
  exact ⟨D, d, D', d', rfl, hT.wide fun b h => by show b < w'.heap.size; omega, hb⟩
theorem vgood_cells (t : T) (A : Option Addr) (c : Nat) (A' : Option Addr) (c' : Nat) (w : World) (ht : t.size ≤ 100000) (hg : t.Good) (hv : TV w (· < w.heap.size) t A c A' c') :
    Calls Tryz.prog 13 #[.agg #[.int .i64 t.kind, .bool t.tr, .int .i64 t.num, .string t.str, .slice A t.items.length c, .slice A' t.keys.length c']] w fun e w' => e = .returned (.bool true) ∧ Below w.heap.size w w' := vgood_yes t A c A' c' w ht hg hv
end Go.Proofs.YthkpeomdklcnmaaGreatDoor
