/- Taking an element out of a row in place: what the cells hold then. slices.Delete of one element: contracts. removeItem: contract. reach, as Remove uses it: contract. path.Remove: contract. -/
import Derived.Test.YthkpeomdklcnmaaGreatDoorHandA
import Derived.Outline
import Derived.Deep.RegionLaw
import Derived.Test.YthkpeomdklcnmaaGreatDoorRems
import Derived.Test.YthkpeomdklcnmaaGreatDoorReachS
namespace Go.Proofs.YthkpeomdklcnmaaGreatDoor
open Go.RowKit
set_option linter.unusedVariables false

theorem set_cells {g : Nat} {ty : TypeId} : ∀ (vs : List Value) {w : World} {cs : Array Value} {o : Nat}, Blk w g ty cs → o + vs.length ≤ cs.size →
    ∃ cs', cs'.size = cs.size ∧ Blk (w.setCells g o vs) g ty cs' ∧ (∀ j, j < vs.length → cs'[o + j]? = vs[j]?) ∧ (∀ i, (i < o ∨ o + vs.length ≤ i) → cs'[i]? = cs[i]?) ∧ But (· = g) w (w.setCells g o vs)
  | [], w, cs, o, hb, ho => ⟨cs, rfl, hb, fun j hj => by simp at hj, fun i _ => rfl, .of (Below.refl _ _)⟩
  | v :: vs, w, cs, o, hb, ho => by
    simp only [List.length_cons] at ho
    obtain ⟨cs', h1, h2, h3, h4, h5⟩ := set_cells vs (hb.set_ o v) (o := o + 1) (by simp; omega)
    have hs : (cs.setIfInBounds o v).size = cs.size := by simp
    refine ⟨cs', h1.trans hs, h2, fun j hj => ?_, fun i hi => ?_, ?_⟩
    · cases j with
      | zero => rw [Nat.add_zero, h4 o (.inl (by omega))]; simp [Array.getElem?_setIfInBounds]; omega
      | succ j =>
        have := h3 j (by simp at hj; omega)
        rw [show o + (j + 1) = o + 1 + j by omega, this]; rfl
    · simp only [List.length_cons] at hi
      rw [h4 i (by omega), Array.getElem?_setIfInBounds, if_neg (by omega)]
    · have hB : But (· = g) w (w.setCell ⟨g, o, none⟩ v) := But.set (D := (· = g)) (.of (Below.refl _ _)) (.inl rfl) v
      exact hB.trans h5
/-- clear of a row of one element -/
theorem run_clear_one {P : Program} (w : World) (t e ty : TypeId) (z : Value) (ht : P.underlying t = some (.slice e)) (hv : ∀ w, (zeroValue e).run P w = .ok z w) (h1 : ∀ u ∈ z.cells.toList, u.oneCell' = true) (hz : 0 < z.cells.size) (b o c : Nat)
    (hc : ∀ j, j < z.cells.size → (w.cell? ⟨b, o + j, none⟩).isSome = true) (hf : ∀ j, j < z.cells.size → w.frozen? ⟨b, o + j, none⟩ = false) :
    (Builtin.clear_ #[t] ty #[.slice (some ⟨b, o, none⟩) 1 c]).run P w = .ok (.tuple #[]) (w.setCells b o z.cells.toList) := by
  have hzc : (Builtin.zeroCells z.cells 1).toList = z.cells.toList := by
    apply List.ext_getElem
    · simp [Builtin.zeroCells]
    · intro i h1 h2
      simp only [Array.length_toList] at h2
      simp only [Builtin.zeroCells, Nat.one_mul, Array.getElem_toList, Array.getElem_map, Array.getElem_range, Nat.mod_eq_of_lt h2]
      exact getElem!_pos z.cells i h2
  have hst := run_storeCells_cells (P := P) b o z.cells.toList 0 w (by simpa using hc) (by simpa using hf) h1
  simp only [Nat.add_zero] at hst
  simp [Builtin.clear_, run_underlying ht, hv, hzc, hst]
/-- the cells of the elements behind one -/
def behind (cs : Array Value) (n k m : Nat) : List Value := (cs.toList.drop ((k + 1) * m)).take ((n - (k + 1)) * m)
theorem behind_len {cs : Array Value} {n k m : Nat} (hk : k < n) (hn : n * m ≤ cs.size) : (behind cs n k m).length = (n - (k + 1)) * m := by
  have h1 : n * m = (k + 1) * m + (n - (k + 1)) * m := by rw [← Nat.add_mul]; congr 1; omega
  rw [behind, List.length_take, List.length_drop, Array.length_toList]; omega
theorem behind_at {cs : Array Value} {n k m j : Nat} (hj : j < (n - (k + 1)) * m) : (behind cs n k m)[j]? = cs[(k + 1) * m + j]? := by
  rw [behind, List.getElem?_take, if_pos hj, List.getElem?_drop, Array.getElem?_toList]
/-- what the row holds when the elements behind have been moved up and the last one's cells cleared -/
theorem del_cells {w : World} {g : Nat} {ty : TypeId} {cs : Array Value} {n k m : Nat} {zs : List Value} (hb : Blk w g ty cs) (hk : k < n) (hn : n * m ≤ cs.size) (hz : zs.length = m) :
    ∃ cs', cs'.size = cs.size ∧ Blk ((w.setCells g (k * m) (behind cs n k m)).setCells g ((n - 1) * m) zs) g ty cs' ∧ (∀ i, i < k * m → cs'[i]? = cs[i]?) ∧ (∀ i, k * m ≤ i → i < (n - 1) * m → cs'[i]? = cs[i + m]?) ∧
      But (· = g) w ((w.setCells g (k * m) (behind cs n k m)).setCells g ((n - 1) * m) zs) := by
  have hl := behind_len (m := m) hk hn
  have h1 : n * m = k * m + m + (n - (k + 1)) * m := by rw [show k * m + m = (k + 1) * m by rw [Nat.add_mul, Nat.one_mul], ← Nat.add_mul]; congr 1; omega
  have h2 : (n - 1) * m = k * m + (n - (k + 1)) * m := by rw [← Nat.add_mul]; congr 1; omega
  obtain ⟨c1, a1, a2, a3, a4, a5⟩ := set_cells (behind cs n k m) hb (o := k * m) (by omega)
  obtain ⟨c2, b1, b2, b3, b4, b5⟩ := set_cells zs a2 (o := (n - 1) * m) (by omega)
  refine ⟨c2, b1.trans a1, b2, fun i hi => ?_, fun i h3 h4 => ?_, a5.trans b5⟩
  · rw [b4 i (.inl (by omega)), a4 i (.inl hi)]
  · rw [b4 i (.inl h4)]
    obtain ⟨j, rfl⟩ : ∃ j, i = k * m + j := ⟨i - k * m, by omega⟩
    rw [a3 j (by omega), behind_at (by omega)]
    congr 1
    rw [Nat.add_mul, Nat.one_mul]; omega
theorem get_erase {α : Type} {l : List α} {k i : Nat} {x : α} (h : (l.eraseIdx k)[i]? = some x) : (i < k ∧ l[i]? = some x) ∨ (k ≤ i ∧ l[i + 1]? = some x) := by
  rw [List.getElem?_eraseIdx] at h
  split at h
  · exact .inl ⟨by assumption, h⟩
  · exact .inr ⟨by omega, h⟩
end Go.Proofs.YthkpeomdklcnmaaGreatDoor
namespace Go.Proofs.YthkpeomdklcnmaaGreatDoor
open Go.RowKit
set_option linter.unusedVariables false

/-- how slices.Delete of the element at k ends -/
def Deleted (g : Nat) (ty : TypeId) (n c k m : Nat) (cs : Array Value) (w : World) (e : Ending) (w' : World) : Prop :=
  e = .returned (.slice (some ⟨g, 0, none⟩) (n - 1) c) ∧ ∃ cs', cs'.size = cs.size ∧ Blk w' g ty cs' ∧ (∀ i, i < k * m → cs'[i]? = cs[i]?) ∧ (∀ i, k * m ≤ i → i < (n - 1) * m → cs'[i]? = cs[i + m]?) ∧ But (· = g) w w'
set_option maxHeartbeats 4000000 in
set_option maxRecDepth 1000000 in
theorem del_vals (g n c k : Nat) (cs : Array Value) (w : World) (hb : Blk w g 34 cs) (hcs : n * 6 ≤ cs.size) (hk : k < n) (hn : n ≤ 1000) (hc : n ≤ c) (h1 : ∀ i u, i < n * 6 → cs[i]? = some u → u.oneCell' = true) :
    Calls Tryz.prog 41 #[.slice (some ⟨g, 0, none⟩) n c, .int .i64 k, .int .i64 ((k : Int) + 1)] w (Deleted g 34 n c k 6 cs w) := by
  obtain ⟨i0, hi0, hz0, hz1, hz2⟩ := info_parts infoVal
  have hl := behind_len (m := 6) hk hcs
  have hAex : ∃ A : Addr, (if c = k + 1 then (some ⟨g, 0, none⟩ : Option Addr) else some ⟨g, (k + 1) * 6, none⟩) = some A ∧ RowKit.Hid (∀ j u, (behind cs n k 6)[j]? = some u → w.drew.cell? (A.add j) = some u) := by
    by_cases h : c = k + 1
    · refine ⟨⟨g, 0, none⟩, by simp [h], fun j u hu => ?_⟩
      have h0 := lt_of_get hu
      rw [hl, show n - (k + 1) = 0 by omega] at h0
      omega
    · refine ⟨⟨g, (k + 1) * 6, none⟩, by simp [h], fun j u hu => ?_⟩
      have h0 := lt_of_get hu
      rw [behind_at (by omega)] at hu
      rw [add_lit]
      exact (hb.cell _).trans hu
  obtain ⟨A, hA, hsrc⟩ := hAex
  have s1 : RowKit.Hid ((behind cs n k 6).length = (n - (k + 1)) * 6) := hl
  have s2 : RowKit.Hid (∀ u ∈ behind cs n k 6, u.oneCell' = true) := by
    intro u hu
    obtain ⟨j, hj⟩ := List.getElem?_of_mem hu
    have h0 := lt_of_get hj
    rw [behind_at (by omega)] at hj
    exact h1 _ u (by have : n * 6 = (k + 1) * 6 + (n - (k + 1)) * 6 := by rw [← Nat.add_mul]; congr 1; omega
                     omega) hj
  have hsz : n * 6 = k * 6 + 6 + (n - (k + 1)) * 6 := by rw [show k * 6 + 6 = (k + 1) * 6 by rw [Nat.add_mul, Nat.one_mul], ← Nat.add_mul]; congr 1; omega
  have s3 : RowKit.Hid (∀ j, j < (behind cs n k 6).length → (w.drew.cell? ⟨g, 0 + k * 6 + j, none⟩).isSome = true ∧ w.drew.frozen? ⟨g, 0 + k * 6 + j, none⟩ = false) := by
    intro j hj
    rw [hl] at hj
    refine ⟨?_, hb.free _⟩
    show (w.cell? _).isSome = true
    rw [hb.cell, Array.getElem?_eq_getElem (by omega)]; rfl
  obtain ⟨cs', d1, d2, d3, d4, d5⟩ := del_cells (w := w.drew) (zs := [.int .i64 0, .bool false, .int .i64 0, .string ⟨#[]⟩, .slice none 0 0, .slice none 0 0]) hb hk hcs rfl
  obtain ⟨c1, e1, e2, e3, e4, e5⟩ := set_cells (behind cs n k 6) (w := w.drew) hb (o := k * 6) (by omega)
  obtain ⟨W1, hW1⟩ : ∃ W1, W1 = w.drew.setCells g (k * 6) (behind cs n k 6) := ⟨_, rfl⟩
  rw [← hW1] at d2 d5 e2
  obtain ⟨N, hN⟩ : ∃ N, k + (n - (k + 1)) = N := ⟨_, rfl⟩
  have hN1 : n - 1 = N := by omega
  have hnN : n - N = 1 := by omega
  have hcl : ∀ ty, (Builtin.clear_ #[32] ty #[.slice (some ⟨g, N * 6, none⟩) (n - N) (c - N)]).run Tryz.prog W1 = .ok (.tuple #[]) (W1.setCells g ((n - 1) * 6) [.int .i64 0, .bool false, .int .i64 0, .string ⟨#[]⟩, .slice none 0 0, .slice none 0 0]) := by
    intro ty
    rw [hnN, hN1]
    skip
    exact run_clear_one W1 32 34 ty (.agg #[.int .i64 0, .bool false, .int .i64 0, .string ⟨#[]⟩, .slice none 0 0, .slice none 0 0]) Tryz.underlying32 Tryz.zeroValue34 (by intro u hu; simp [Value.cells] at hu; rcases hu with rfl | rfl | rfl | rfl | rfl | rfl <;> rfl) (by decide) g _ _ (fun j hj => by rw [e2.cell, Array.getElem?_eq_getElem (by simp [Value.cells] at hj; omega)]; rfl) (fun j hj => e2.free _)
  have hW : RowKit.Hid (W1 = w.drew.setCells g (0 + k * 6) (behind cs n k 6)) := by rw [Nat.zero_add]; exact hW1
  have HD := Lib.hid (show ∃ cs', cs'.size = cs.size ∧ Blk (W1.setCells g ((n - 1) * 6) [.int .i64 0, .bool false, .int .i64 0, .string ⟨#[]⟩, .slice none 0 0, .slice none 0 0]) g 34 cs' ∧ (∀ i, i < k * 6 → cs'[i]? = cs[i]?) ∧ (∀ i, k * 6 ≤ i → i < (n - 1) * 6 → cs'[i]? = cs[i + 6]?) ∧ But (· = g) w (W1.setCells g ((n - 1) * 6) [.int .i64 0, .bool false, .int .i64 0, .string ⟨#[]⟩, .slice none 0 0, .slice none 0 0]) from ⟨cs', d1, d2, d3, d4, (But.of (Below.refl w.heap.size w).drew).trans d5⟩)
  have hic : k ≤ c := by omega
  have hjc : k + 1 ≤ c := by omega
  have hjn : k + 1 ≤ n := by omega
  have i1 : (k : Int) + 1 ≤ (n : Int) := by omega
  have i2 : (k : Int) ≤ (k : Int) + 1 := by omega
  have i3 : (n : Int) ≤ (c : Int) := by omega
  have i4 : (0 : Int) ≤ (k : Int) := by omega
  have i5 : (k : Int) ≤ (c : Int) := by omega
  have i6 : (0 : Int) ≤ (k : Int) + 1 := by omega
  have mixed : Tryz.prog.follows Departure.mixedOrders = true := by kernel_rfl
  have hne : ((k : Int) == (k : Int) + 1) = false := by rw [beq_eq_false_iff_ne]; omega
  skip
  clear hW1 hb h1 d1 d2 d3 d4 d5 e1 e2 e3 e4 e5 hl hsz
  go_enter Tryz.func41, Tryz.ntmps41
  go_wp2_with fail
  go_region_law_o (refine step_append_room rfl (.tmp 22) (.tmp 25) 32 rfl 34 i0 6 Tryz.underlying32 hi0 hz1 g 0 k c (by simp [Act.eval, Act.put]) A (n - (k + 1)) (c - (k + 1)) (behind cs n k 6) (by simp [Act.eval, Act.put]) s1.out hsrc.out s2.out (by omega) s3.out ?_; rw [← hW.out])
  try rw [hN]
  have j1 : (N : Int) ≤ (n : Int) := by omega
  have j2 : (0 : Int) ≤ (N : Int) := by omega
  have j3 : N ≤ n := by omega
  have j4 : ¬ c = N := by omega
  have j5 : N ≤ c := by omega
  have j6 : (N : Int) ≤ (c : Int) := by omega
  have HN1 := Lib.hid hN1
  clear hN hN1 hA hnN i1 i2 i4 i5 i6 hne hic hjc hjn
  go_wp2_with fail
  go_ret
  exact ⟨by rw [HN1.out]; rfl, HD.out⟩
set_option maxHeartbeats 4000000 in
set_option maxRecDepth 1000000 in
theorem del_strs (g n c k : Nat) (cs : Array Value) (w : World) (hb : Blk w g 9 cs) (hcs : n * 1 ≤ cs.size) (hk : k < n) (hn : n ≤ 1000) (hc : n ≤ c) (h1 : ∀ i u, i < n * 1 → cs[i]? = some u → u.oneCell' = true) :
    Calls Tryz.prog 42 #[.slice (some ⟨g, 0, none⟩) n c, .int .i64 k, .int .i64 ((k : Int) + 1)] w (Deleted g 9 n c k 1 cs w) := by
  obtain ⟨i0, hi0, hz0, hz1, hz2⟩ := info_parts infoStr
  have hl := behind_len (m := 1) hk hcs
  have hAex : ∃ A : Addr, (if c = k + 1 then (some ⟨g, 0, none⟩ : Option Addr) else some ⟨g, (k + 1) * 1, none⟩) = some A ∧ RowKit.Hid (∀ j u, (behind cs n k 1)[j]? = some u → w.drew.cell? (A.add j) = some u) := by
    by_cases h : c = k + 1
    · refine ⟨⟨g, 0, none⟩, by simp [h], fun j u hu => ?_⟩
      have h0 := lt_of_get hu
      rw [hl, show n - (k + 1) = 0 by omega] at h0
      omega
    · refine ⟨⟨g, (k + 1) * 1, none⟩, by simp [h], fun j u hu => ?_⟩
      have h0 := lt_of_get hu
      rw [behind_at (by omega)] at hu
      rw [add_lit]
      exact (hb.cell _).trans hu
  obtain ⟨A, hA, hsrc⟩ := hAex
  have s1 : RowKit.Hid ((behind cs n k 1).length = (n - (k + 1)) * 1) := hl
  have s2 : RowKit.Hid (∀ u ∈ behind cs n k 1, u.oneCell' = true) := by
    intro u hu
    obtain ⟨j, hj⟩ := List.getElem?_of_mem hu
    have h0 := lt_of_get hj
    rw [behind_at (by omega)] at hj
    exact h1 _ u (by have : n * 1 = (k + 1) * 1 + (n - (k + 1)) * 1 := by rw [← Nat.add_mul]; congr 1; omega
                     omega) hj
  have hsz : n * 1 = k * 1 + 1 + (n - (k + 1)) * 1 := by rw [show k * 1 + 1 = (k + 1) * 1 by rw [Nat.add_mul, Nat.one_mul], ← Nat.add_mul]; congr 1; omega
  have s3 : RowKit.Hid (∀ j, j < (behind cs n k 1).length → (w.drew.cell? ⟨g, 0 + k * 1 + j, none⟩).isSome = true ∧ w.drew.frozen? ⟨g, 0 + k * 1 + j, none⟩ = false) := by
    intro j hj
    rw [hl] at hj
    refine ⟨?_, hb.free _⟩
    show (w.cell? _).isSome = true
    rw [hb.cell, Array.getElem?_eq_getElem (by omega)]; rfl
  obtain ⟨cs', d1, d2, d3, d4, d5⟩ := del_cells (w := w.drew) (zs := [.string ⟨#[]⟩]) hb hk hcs rfl
  obtain ⟨c1, e1, e2, e3, e4, e5⟩ := set_cells (behind cs n k 1) (w := w.drew) hb (o := k * 1) (by omega)
  obtain ⟨W1, hW1⟩ : ∃ W1, W1 = w.drew.setCells g (k * 1) (behind cs n k 1) := ⟨_, rfl⟩
  rw [← hW1] at d2 d5 e2
  obtain ⟨N, hN⟩ : ∃ N, k + (n - (k + 1)) = N := ⟨_, rfl⟩
  have hN1 : n - 1 = N := by omega
  have hnN : n - N = 1 := by omega
  have hcl : ∀ ty, (Builtin.clear_ #[24] ty #[.slice (some ⟨g, N, none⟩) (n - N) (c - N)]).run Tryz.prog W1 = .ok (.tuple #[]) (W1.setCells g ((n - 1) * 1) [.string ⟨#[]⟩]) := by
    intro ty
    rw [hnN, hN1]
    rw [Nat.mul_one]
    exact run_clear_one W1 24 9 ty (.string ⟨#[]⟩) Tryz.underlying24 Tryz.zeroValue9 (by intro u hu; simp [Value.cells] at hu; subst hu; rfl) (by decide) g _ _ (fun j hj => by rw [e2.cell, Array.getElem?_eq_getElem (by simp [Value.cells] at hj; omega)]; rfl) (fun j hj => e2.free _)
  have hW : RowKit.Hid (W1 = w.drew.setCells g (0 + k * 1) (behind cs n k 1)) := by rw [Nat.zero_add]; exact hW1
  have HD := Lib.hid (show ∃ cs', cs'.size = cs.size ∧ Blk (W1.setCells g ((n - 1) * 1) [.string ⟨#[]⟩]) g 9 cs' ∧ (∀ i, i < k * 1 → cs'[i]? = cs[i]?) ∧ (∀ i, k * 1 ≤ i → i < (n - 1) * 1 → cs'[i]? = cs[i + 1]?) ∧ But (· = g) w (W1.setCells g ((n - 1) * 1) [.string ⟨#[]⟩]) from ⟨cs', d1, d2, d3, d4, (But.of (Below.refl w.heap.size w).drew).trans d5⟩)
  have hic : k ≤ c := by omega
  have hjc : k + 1 ≤ c := by omega
  have hjn : k + 1 ≤ n := by omega
  have i1 : (k : Int) + 1 ≤ (n : Int) := by omega
  have i2 : (k : Int) ≤ (k : Int) + 1 := by omega
  have i3 : (n : Int) ≤ (c : Int) := by omega
  have i4 : (0 : Int) ≤ (k : Int) := by omega
  have i5 : (k : Int) ≤ (c : Int) := by omega
  have i6 : (0 : Int) ≤ (k : Int) + 1 := by omega
  have mixed : Tryz.prog.follows Departure.mixedOrders = true := by kernel_rfl
  have hne : ((k : Int) == (k : Int) + 1) = false := by rw [beq_eq_false_iff_ne]; omega
  rw [Nat.mul_one] at hA
  clear hW1 hb h1 d1 d2 d3 d4 d5 e1 e2 e3 e4 e5 hl hsz
  go_enter Tryz.func42, Tryz.ntmps42
  go_wp2_with fail
  go_region_law_o (refine step_append_room rfl (.tmp 22) (.tmp 25) 24 rfl 9 i0 1 Tryz.underlying24 hi0 hz1 g 0 k c (by simp [Act.eval, Act.put]) A (n - (k + 1)) (c - (k + 1)) (behind cs n k 1) (by simp [Act.eval, Act.put]) s1.out hsrc.out s2.out (by omega) s3.out ?_; rw [← hW.out])
  try rw [hN]
  have j1 : (N : Int) ≤ (n : Int) := by omega
  have j2 : (0 : Int) ≤ (N : Int) := by omega
  have j3 : N ≤ n := by omega
  have j4 : ¬ c = N := by omega
  have j5 : N ≤ c := by omega
  have j6 : (N : Int) ≤ (c : Int) := by omega
  have HN1 := Lib.hid hN1
  clear hN hN1 hA hnN i1 i2 i4 i5 i6 hne hic hjc hjn
  go_wp2_with fail
  go_ret
  exact ⟨by rw [HN1.out]; rfl, by have h := HD.out; simp only [Nat.mul_one, HN1.out] at h ⊢; exact h⟩
end Go.Proofs.YthkpeomdklcnmaaGreatDoor
namespace Go.Proofs.YthkpeomdklcnmaaGreatDoor
open Go.RowKit
set_option linter.unusedVariables false

/-- how removeItem of what the step q leads to ends: y stands at (b, o), its rows are blocks lo to hi -/
def RemAt (b o lo hi : Nat) (y : T) (q : ByteArray) (w : World) (e : Ending) (w' : World) : Prop :=
  (∃ k D d D' d', IsAt y q k ∧ e = .returned (.bool true) ∧ Six w' b o (y.without k) D d D' d' ∧ TV w' (fun i => lo ≤ i ∧ i < hi) (y.without k) D d D' d' ∧ (∀ i, (i < o ∨ o + 6 ≤ i) → w'.cell? ⟨b, i, none⟩ = w.cell? ⟨b, i, none⟩) ∧ But (fun i => i = b ∨ (lo ≤ i ∧ i < hi)) w w') ∨
  ((∀ k, ¬ IsAt y q k) ∧ e = .returned (.bool false) ∧ Below w.heap.size w w')
theorem without_keys4 {t : T} {k : Nat} (h : t.kind ≠ 5) : (t.without k).keys = t.keys := by rw [without_keys, if_neg h]
theorem without_keys5 {t : T} {k : Nat} (h : t.kind = 5) : (t.without k).keys = t.keys.eraseIdx k := by rw [without_keys, if_pos h]
theorem without_klen {t : T} {k : Nat} (h : t.kind = 5) (hk : k < t.keys.length) : (t.without k).keys.length = t.keys.length - 1 := by rw [without_keys5 h, List.length_eraseIdx, if_pos hk]
/-- what lies in the rows then -/
theorem rem_end {w w' : World} {lo hi : Nat} {y : T} {g : Nat} {c : Nat} {A' : Option Addr} {c' k : Nat} {cs cs' : Array Value} {D : Nat → Prop} (hO : Own w lo hi y (some ⟨g, 0, none⟩) c A' c') (hk : k < y.items.length)
    (hb : Blk w g 34 cs) (hb' : Blk w' g 34 cs') (h1 : ∀ i, i < k * 6 → cs'[i]? = cs[i]?) (h2 : ∀ i, k * 6 ≤ i → i < (y.items.length - 1) * 6 → cs'[i]? = cs[i + 6]?)
    (hkeys : SReads w' (fun i => lo ≤ i ∧ i < hi) A' (y.without k).keys) (hkl : (y.without k).keys.length ≤ c') (hD : ∀ i, D i → y.keys ≠ [] ∧ A' = some ⟨i, 0, none⟩) (hbut : ∀ i, lo ≤ i → i < hi → i ≠ g → ¬ D i → w'.heap[i]? = w.heap[i]?) :
    TV w' (fun i => lo ≤ i ∧ i < hi) (y.without k) (some ⟨g, 0, none⟩) c A' c' := by
  cases hO with
  | mk _ _ _ _ _ _ _ hf hA hc hA' hc' l1 l2 hrow hlo hmono hhi hkey hin =>
    have hne : y.items ≠ [] := by intro e; rw [e] at hk; simp at hk
    obtain ⟨g', cs0, e0, g1, g2, g3, g4, g5⟩ := hrow hne
    injection e0 with e0
    injection e0 with e0
    subst e0
    obtain rfl : cs0 = cs := by have := g3.symm.trans hb; injection this with this; injection this
    have hup := up_to hmono y.items.length (Nat.le_refl _)
    have item : ∀ x j, y.items[j]? = some x → TV w' (fun i => lo ≤ i ∧ i < hi) x (hA j) (hc j) (hA' j) (hc' j) := fun x j hj => by
      have hjl := lt_of_get hj
      have q1 := hmono j hjl
      have q0 := up_to hmono j (by omega) 0 (by omega)
      have q2 := hup (j + 1) (by omega)
      refine ((hin j x hj).tv.keep fun i hi => hbut i (by omega) (by omega) (by omega) fun hd => ?_).wide fun i hi => ⟨by omega, by omega⟩
      obtain ⟨hkn, e⟩ := hD i hd
      obtain ⟨kg, kcs, e1, e2, e3, _⟩ := hkey hkn
      rw [e1] at e
      injection e with e
      injection e with e
      omega
    refine TV.of (by rw [without_len hk]; omega) hkl (fun _ => ⟨g, 0, rfl, ⟨by omega, by have := hup 0 (by omega); omega⟩, fun i x hx => ?_⟩) hkeys
    rw [without_items] at hx
    rcases get_erase hx with ⟨hik, hx⟩ | ⟨hik, hx⟩
    · refine ⟨hA i, hc i, hA' i, hc' i, ?_, item x i hx⟩
      obtain ⟨b0, b1, b2, b3, b4, b5⟩ := g5 i x hx
      have at_ : ∀ j, j < 6 → w'.cell? ⟨g, i * 6 + j, none⟩ = w.cell? ⟨g, i * 6 + j, none⟩ := fun j hj => by rw [hb'.cell, hb.cell]; exact h1 _ (by omega)
      rw [Nat.zero_add]
      exact ⟨(at_ 0 (by omega)).trans b0, (at_ 1 (by omega)).trans b1, (at_ 2 (by omega)).trans b2, (at_ 3 (by omega)).trans b3, (at_ 4 (by omega)).trans b4, (at_ 5 (by omega)).trans b5⟩
    · refine ⟨hA (i + 1), hc (i + 1), hA' (i + 1), hc' (i + 1), ?_, item x (i + 1) hx⟩
      have hil := lt_of_get hx
      obtain ⟨b0, b1, b2, b3, b4, b5⟩ := g5 (i + 1) x hx
      have at_ : ∀ j, j < 6 → w'.cell? ⟨g, i * 6 + j, none⟩ = w.cell? ⟨g, (i + 1) * 6 + j, none⟩ := fun j hj => by
        rw [hb'.cell, hb.cell, h2 _ (by omega) (by omega)]; congr 1; omega
      rw [Nat.zero_add]
      exact ⟨(at_ 0 (by omega)).trans b0, (at_ 1 (by omega)).trans b1, (at_ 2 (by omega)).trans b2, (at_ 3 (by omega)).trans b3, (at_ 4 (by omega)).trans b4, (at_ 5 (by omega)).trans b5⟩
theorem six_one {w : World} {g : Nat} {k n i : Nat} {cs : Array Value} {u : Value} {ys : List T} {hA : Nat → Option Addr} {hc : Nat → Nat} {hA' : Nat → Option Addr} {hc' : Nat → Nat} (hb : Blk w g 34 cs) (h : ∀ i x, ys[i]? = some x → Six w g (i * 6) x (hA i) (hc i) (hA' i) (hc' i)) (hi : i < ys.length * 6) (hu : cs[i]? = some u) : u.oneCell' = true := by
  obtain ⟨x, hx⟩ : ∃ x, ys[i / 6]? = some x := ⟨_, List.getElem?_eq_getElem (by omega)⟩
  obtain ⟨b0, b1, b2, b3, b4, b5⟩ := h _ x hx
  rw [hb.cell] at b0 b1 b2 b3 b4 b5
  rcases (by omega : i = i / 6 * 6 + 0 ∨ i = i / 6 * 6 + 1 ∨ i = i / 6 * 6 + 2 ∨ i = i / 6 * 6 + 3 ∨ i = i / 6 * 6 + 4 ∨ i = i / 6 * 6 + 5) with e | e | e | e | e | e <;> rw [e] at hu
  · rw [show i / 6 * 6 + 0 = i / 6 * 6 from rfl, b0] at hu; injection hu with hu; subst hu; rfl
  · rw [b1] at hu; injection hu with hu; subst hu; rfl
  · rw [b2] at hu; injection hu with hu; subst hu; rfl
  · rw [b3] at hu; injection hu with hu; subst hu; rfl
  · rw [b4] at hu; injection hu with hu; subst hu; rfl
  · rw [b5] at hu; injection hu with hu; subst hu; rfl
/-- the cells of a value whose fourth, or fourth and fifth cell have been stored to -/
theorem six_set1 {w w' : World} {b o : Nat} {y : T} {A : Option Addr} {c : Nat} {A' : Option Addr} {c' : Nat} {cb : Array Value} {v4 : Value} (h6 : Six w b o y A c A' c') (hb : Blk w b 34 cb) (ho : o + 6 ≤ cb.size) (hb' : Blk w' b 34 (cb.setIfInBounds (o + 4) v4)) :
    w'.cell? ⟨b, o, none⟩ = some (.int .i64 y.kind) ∧ w'.cell? ⟨b, o + 1, none⟩ = some (.bool y.tr) ∧ w'.cell? ⟨b, o + 2, none⟩ = some (.int .i64 y.num) ∧ w'.cell? ⟨b, o + 3, none⟩ = some (.string y.str) ∧ w'.cell? ⟨b, o + 4, none⟩ = some v4 ∧ w'.cell? ⟨b, o + 5, none⟩ = some (.slice A' y.keys.length c') ∧ (∀ i, (i < o ∨ o + 6 ≤ i) → w'.cell? ⟨b, i, none⟩ = w.cell? ⟨b, i, none⟩) := by
  have far : ∀ i, i ≠ o + 4 → w'.cell? ⟨b, i, none⟩ = w.cell? ⟨b, i, none⟩ := fun i hi => by rw [hb'.cell, hb.cell, Array.getElem?_setIfInBounds, if_neg (by omega)]
  obtain ⟨e0, e1, e2, e3, e4, e5⟩ := h6
  refine ⟨(far _ (by omega)).trans e0, (far _ (by omega)).trans e1, (far _ (by omega)).trans e2, (far _ (by omega)).trans e3, ?_, (far _ (by omega)).trans e5, fun i hi => far i (by omega)⟩
  rw [hb'.cell, Array.getElem?_setIfInBounds, if_pos rfl, if_pos (by omega)]
theorem six_set2 {w w' : World} {b o : Nat} {y : T} {A : Option Addr} {c : Nat} {A' : Option Addr} {c' : Nat} {cb : Array Value} {v4 v5 : Value} (h6 : Six w b o y A c A' c') (hb : Blk w b 34 cb) (ho : o + 6 ≤ cb.size) (hb' : Blk w' b 34 ((cb.setIfInBounds (o + 4) v4).setIfInBounds (o + 5) v5)) :
    w'.cell? ⟨b, o, none⟩ = some (.int .i64 y.kind) ∧ w'.cell? ⟨b, o + 1, none⟩ = some (.bool y.tr) ∧ w'.cell? ⟨b, o + 2, none⟩ = some (.int .i64 y.num) ∧ w'.cell? ⟨b, o + 3, none⟩ = some (.string y.str) ∧ w'.cell? ⟨b, o + 4, none⟩ = some v4 ∧ w'.cell? ⟨b, o + 5, none⟩ = some v5 ∧ (∀ i, (i < o ∨ o + 6 ≤ i) → w'.cell? ⟨b, i, none⟩ = w.cell? ⟨b, i, none⟩) := by
  have far : ∀ i, i ≠ o + 4 → i ≠ o + 5 → w'.cell? ⟨b, i, none⟩ = w.cell? ⟨b, i, none⟩ := fun i h4 h5 => by rw [hb'.cell, hb.cell, Array.getElem?_setIfInBounds, if_neg (by omega), Array.getElem?_setIfInBounds, if_neg (by omega)]
  obtain ⟨e0, e1, e2, e3, e4, e5⟩ := h6
  refine ⟨(far _ (by omega) (by omega)).trans e0, (far _ (by omega) (by omega)).trans e1, (far _ (by omega) (by omega)).trans e2, (far _ (by omega) (by omega)).trans e3, ?_, ?_, fun i hi => far i (by omega) (by omega)⟩
  · rw [hb'.cell, Array.getElem?_setIfInBounds, if_neg (by omega), Array.getElem?_setIfInBounds, if_pos rfl, if_pos (by omega)]
  · rw [hb'.cell, Array.getElem?_setIfInBounds, if_pos rfl, if_pos (by simp; omega)]
set_option maxRecDepth 100000 in
set_option maxHeartbeats 8000000 in
theorem rem_item (y : T) (q : ByteArray) (b o lo hi : Nat) (A : Option Addr) (c : Nat) (A' : Option Addr) (c' : Nat) (cb : Array Value) (w : World) (hn : y.Fine) (he : Errs w) (hq60 : q.size ≤ 1000) (h6 : Six w b o y A c A' c') (hO : Own w lo hi y A c A' c') (hb : Blk w b 34 cb) (ho : o + 6 ≤ cb.size) (hsep : b < lo ∨ hi ≤ b) (hH : hi ≤ w.heap.size) :
    Calls Tryz.prog 27 #[.pointer (some ⟨b, o, none⟩), .string q] w (RemAt b o lo hi y q w) := by
  have hV : TV w (· < w.heap.size) y A c A' c' := hO.tv.wide fun i hi => by show i < w.heap.size; omega
  have hi80 := hn.items80
  have hk80 := hn.keys_le
  have HS6 := Lib.hid h6
  obtain ⟨e0, e1, e2, e3, e4, e5⟩ := h6
  have HN := Lib.hid hn
  have HE := Lib.hid he
  have HV := Lib.hid hV
  have HB := Lib.hid hb
  have HO := Lib.hid hO
  by_cases hk : ∃ k, IsAt y q k
  · obtain ⟨k, hk⟩ := hk
    have hkl := hk.1
    have hne : y.items ≠ [] := by intro e; rw [e] at hkl; simp at hkl
    have HK := Lib.hid hk
    have HR : ∃ (g : Nat) (cs : Array Value), A = some ⟨g, 0, none⟩ ∧ lo ≤ g ∧ g < hi ∧ y.items.length ≤ c ∧ y.items.length * 6 ≤ cs.size ∧ Blk w g 34 cs ∧ (∀ i u, i < y.items.length * 6 → cs[i]? = some u → u.oneCell' = true) ∧
        (y.kind = 5 → ∃ (kg : Nat) (kcs : Array Value), A' = some ⟨kg, 0, none⟩ ∧ kg ≠ g ∧ lo ≤ kg ∧ kg < hi ∧ y.keys.length ≤ c' ∧ y.keys.length ≤ kcs.size ∧ Blk w kg 9 kcs ∧ ∀ (i : Nat) (s : ByteArray), y.keys[i]? = some s → kcs[i]? = some (Value.string s)) := by
      cases hO with
      | mk _ _ _ _ _ _ _ hf hA hc hA' hc' l1 l2 hrow hlo hmono hhi hkey hin =>
        obtain ⟨g, cs, e0, g1, g2, g3, g4, g5⟩ := hrow hne
        have hup := up_to hmono y.items.length (Nat.le_refl _) 0 (by omega)
        refine ⟨g, cs, e0, g1, by omega, l1, g4, g3, fun i u hi hu => six_one (k := 0) (n := 0) g3 g5 hi hu, fun h5 => ?_⟩
        have hll := hn.good.here.lens h5
        obtain ⟨kg, kcs, e1, e2, e3, e4, e5, e6⟩ := hkey (by intro e; rw [e] at hll; simp at hll; omega)
        exact ⟨kg, kcs, e1, by omega, by omega, e3, l2, e5, e4, e6⟩
    obtain ⟨g, cs, rfl, g1, g2, g3, g4, g5, g6, g7⟩ := HR
    have hbg : b ≠ g := by omega
    have HG5 := Lib.hid g5
    have HG6 := Lib.hid g6
    clear hn he hV hb hO hk g5 g6
    by_cases h5 : y.kind = 5
    · have k5 : (y.kind == 5) = true := by rw [beq_iff_eq]; exact h5
      obtain ⟨kg, kcs, rfl, m1, m2, m3, m4, m5, m6, m7⟩ := g7 h5
      have hll := HN.out.good.here.lens h5
      have hklk : k < y.keys.length := by omega
      have hbk : b ≠ kg := by clear g7; omega
      have HM6 := Lib.hid m6
      have HM7 := Lib.hid m7
      have H5 := Lib.hid h5
      have HKL := Lib.hid hll
      clear m6 m7 g7 h5 hll
      go_enter Tryz.func27, Tryz.ntmps27
      go_wp2_with fail
      refine (place_yes y q k _ c _ c' _ HN.out HK.out HV.out).mono ?_
      rintro e w2 ⟨rfl, hb2⟩
      have H2 := Lib.hid hb2
      have HE4 := Lib.hid e4
      have e4' : w2.cell? ⟨b, o + 4, none⟩ = some (.slice (some ⟨g, 0, none⟩) y.items.length c) := (HB.out.onto hb2).cell _ |>.trans ((HB.out.cell _).symm.trans e4)
      clear hb2 e0 e1 e2 e3 e4 e5
      go_wp2_with fail
      refine (del_vals g y.items.length c k cs w2 (HG5.out.onto H2.out) g4 hkl (by omega) g3 HG6.out).mono ?_
      rintro e w3 ⟨rfl, cs', d1, d2, d3, d4, d5⟩
      have hbl := HB.out.lt
      have HB3 := Lib.hid (d5.blk (HB.out.onto H2.out) hbg)
      have HC2 := Lib.hid d2
      have HC3 := Lib.hid d3
      have HC4 := Lib.hid d4
      have hbut3 : But (fun i => i = b ∨ i = g) w w3 := (But.of H2.out).trans (d5.wide fun i hi => .inl (.inr hi))
      have e4'' : w3.cell? ⟨b, o + 4, none⟩ = some (.slice (some ⟨g, 0, none⟩) y.items.length c) := (HB3.out.cell _).trans ((HB.out.cell _).symm.trans HE4.out)
      have f4 := HB3.out.free (o + 4)
      have hB5 := HB3.out.set_ (o + 4) (.slice (some ⟨g, 0, none⟩) (y.items.length - 1) c)
      have hbut5 : But (fun i => i = b ∨ i = g) w (w3.setCell ⟨b, o + 4, none⟩ (.slice (some ⟨g, 0, none⟩) (y.items.length - 1) c)) := hbut3.set (.inl (.inl rfl)) _
      have hg5 : Blk (w3.setCell ⟨b, o + 4, none⟩ (.slice (some ⟨g, 0, none⟩) (y.items.length - 1) c)) g 34 cs' := d2.far (p := ⟨b, o + 4, none⟩) (Ne.symm hbg) _
      obtain ⟨x0, x1, x2, x3, x4, x5, xf⟩ := six_set1 HS6.out HB.out ho hB5
      have HX := Lib.hid xf
      have HB5 := Lib.hid hB5
      have HU5 := Lib.hid hbut5
      have HG := Lib.hid hg5
      clear d1 d2 d3 d4 d5 e4' hbut3 hB5 hbut5 xf hg5
      go_upto_region 5 with fail
      change Code.wp _ _ _ _ (w3.setCell ⟨b, o + 4, none⟩ (.slice (some ⟨g, 0, none⟩) (y.items.length - 1) c))
      generalize (w3.setCell ⟨b, o + 4, none⟩ (.slice (some ⟨g, 0, none⟩) (y.items.length - 1) c)) = W5 at *
      clear e4'' f4
      have hkb : Blk W5 kg 9 kcs := HU5.out.blk HM6.out (by omega)
      go_wp2_with fail
      refine (del_strs kg y.keys.length c' k kcs W5 hkb (by omega) hklk (by omega) m4 (fun i u hi hu => ?_)).mono ?_
      · obtain ⟨s, hs⟩ : ∃ s, y.keys[i]? = some s := ⟨_, List.getElem?_eq_getElem (by omega)⟩
        rw [HM7.out i s hs] at hu
        injection hu with hu
        subst hu; rfl
      rintro e w6 ⟨rfl, kcs', d1, d2, d3, d4, d5⟩
      have HB6 := Lib.hid (d5.blk HB5.out hbk)
      have e5'' : w6.cell? ⟨b, o + 5, none⟩ = some (.slice (some ⟨kg, 0, none⟩) y.keys.length c') := (HB6.out.cell _).trans ((HB5.out.cell _).symm.trans x5)
      have f5 := HB6.out.free (o + 5)
      have hB7 := HB6.out.set_ (o + 5) (.slice (some ⟨kg, 0, none⟩) (y.keys.length - 1) c')
      have hbut7 : But (fun i => i = b ∨ i = g ∨ i = kg) w (w6.setCell ⟨b, o + 5, none⟩ (.slice (some ⟨kg, 0, none⟩) (y.keys.length - 1) c')) := ((HU5.out.wide (E := fun i => i = b ∨ i = g ∨ i = kg) fun i hi => .inl (by rcases hi with h | h; exact .inl h; exact .inr (.inl h))).trans (d5.wide fun i hi => .inl (.inr (.inr hi)))).set (.inl (.inl rfl)) _
      have hg7 : Blk (w6.setCell ⟨b, o + 5, none⟩ (.slice (some ⟨kg, 0, none⟩) (y.keys.length - 1) c')) g 34 cs' := (d5.blk HG.out (show ¬ g = kg by omega)).far (p := ⟨b, o + 5, none⟩) (Ne.symm hbg) _
      have hk7 : Blk (w6.setCell ⟨b, o + 5, none⟩ (.slice (some ⟨kg, 0, none⟩) (y.keys.length - 1) c')) kg 9 kcs' := d2.far (p := ⟨b, o + 5, none⟩) (Ne.symm hbk) _
      have hwk : (y.without k).keys = y.keys.eraseIdx k := without_keys5 H5.out
      have hrow : SReads (w6.setCell ⟨b, o + 5, none⟩ (.slice (some ⟨kg, 0, none⟩) (y.keys.length - 1) c')) (fun i => lo ≤ i ∧ i < hi) (some ⟨kg, 0, none⟩) (y.without k).keys := fun _ => ⟨kg, 0, rfl, ⟨m2, m3⟩, fun i s hs => by
        rw [hwk] at hs
        rw [Nat.zero_add, hk7.cell]
        rcases get_erase hs with ⟨hik, hs⟩ | ⟨hik, hs⟩
        · rw [d3 i (by omega)]; exact HM7.out i s hs
        · have hil := lt_of_get hs
          rw [d4 i (by omega) (by omega)]; exact HM7.out (i + 1) s hs⟩
      have hwl : (y.without k).keys.length = y.keys.length - 1 := without_klen H5.out hklk
      have hTV := rem_end HO.out hkl HG5.out hg7 HC3.out HC4.out hrow (by rw [hwl]; omega) (D := fun i => i = kg) (fun i hi => ⟨by intro e; rw [e] at hklk; simp at hklk, by rw [show i = kg from hi]⟩) (fun i h1 h2 h3 h4 => hbut7.block i (by omega) (by rintro (h | h | h); omega; exact h3 h; exact h4 h))
      obtain ⟨y0, y1, y2, y3, y4, y5, yf⟩ := six_set2 HS6.out HB.out ho hB7
      have hS : Six (w6.setCell ⟨b, o + 5, none⟩ (.slice (some ⟨kg, 0, none⟩) (y.keys.length - 1) c')) b o (y.without k) (some ⟨g, 0, none⟩) c (some ⟨kg, 0, none⟩) c' := by
        unfold Six
        rw [hwl, without_len hkl]
        exact ⟨y0, y1, y2, y3, y4, y5⟩
      have HFin := Lib.hid (show RemAt b o lo hi y q w (.returned (.bool true)) (w6.setCell ⟨b, o + 5, none⟩ (.slice (some ⟨kg, 0, none⟩) (y.keys.length - 1) c')) from .inl ⟨k, _, _, _, _, HK.out, rfl, hS, hTV, yf, hbut7.wide fun i hi => .inl (by rcases hi with h | h | h; exact .inl h; exact .inr (by omega); exact .inr (by omega))⟩)
      clear d1 d2 d3 d4 d5 hB7 hbut7 hg7 hk7 hrow hTV y0 y1 y2 y3 y4 y5 yf hS x0 x1 x2 x3 x4 x5 hwk hwl
      go_wp2_with fail
      go_ret
      exact HFin.out
    · have k5 : (y.kind == 5) = false := by rw [beq_eq_false_iff_ne]; exact h5
      have H5 := Lib.hid (show y.keys = [] from HN.out.good.here.keys h5)
      have H55 := Lib.hid (show ¬ y.kind = 5 from h5)
      clear g7 h5
      go_enter Tryz.func27, Tryz.ntmps27
      go_wp2_with fail
      refine (place_yes y q k _ c A' c' _ HN.out HK.out HV.out).mono ?_
      rintro e w2 ⟨rfl, hb2⟩
      have H2 := Lib.hid hb2
      have HE4 := Lib.hid e4
      have e4' : w2.cell? ⟨b, o + 4, none⟩ = some (.slice (some ⟨g, 0, none⟩) y.items.length c) := (HB.out.onto hb2).cell _ |>.trans ((HB.out.cell _).symm.trans e4)
      clear hb2 e0 e1 e2 e3 e4 e5
      go_wp2_with fail
      refine (del_vals g y.items.length c k cs w2 (HG5.out.onto H2.out) g4 hkl (by omega) g3 HG6.out).mono ?_
      rintro e w3 ⟨rfl, cs', d1, d2, d3, d4, d5⟩
      have hbl := HB.out.lt
      have HB3 := Lib.hid (d5.blk (HB.out.onto H2.out) hbg)
      have HC2 := Lib.hid d2
      have HC3 := Lib.hid d3
      have HC4 := Lib.hid d4
      have hbut3 : But (fun i => i = b ∨ i = g) w w3 := (But.of H2.out).trans (d5.wide fun i hi => .inl (.inr hi))
      have e4'' : w3.cell? ⟨b, o + 4, none⟩ = some (.slice (some ⟨g, 0, none⟩) y.items.length c) := (HB3.out.cell _).trans ((HB.out.cell _).symm.trans HE4.out)
      have f4 := HB3.out.free (o + 4)
      have hB5 := HB3.out.set_ (o + 4) (.slice (some ⟨g, 0, none⟩) (y.items.length - 1) c)
      have hbut5 : But (fun i => i = b ∨ i = g) w (w3.setCell ⟨b, o + 4, none⟩ (.slice (some ⟨g, 0, none⟩) (y.items.length - 1) c)) := hbut3.set (.inl (.inl rfl)) _
      have hg5 : Blk (w3.setCell ⟨b, o + 4, none⟩ (.slice (some ⟨g, 0, none⟩) (y.items.length - 1) c)) g 34 cs' := d2.far (p := ⟨b, o + 4, none⟩) (Ne.symm hbg) _
      obtain ⟨x0, x1, x2, x3, x4, x5, xf⟩ := six_set1 HS6.out HB.out ho hB5
      have HX := Lib.hid xf
      have HB5 := Lib.hid hB5
      have HU5 := Lib.hid hbut5
      have HG := Lib.hid hg5
      clear d1 d2 d3 d4 d5 e4' hbut3 hB5 hbut5 xf hg5
      have hwk : (y.without k).keys = [] := by rw [without_keys4 H55.out]; exact H5.out
      have hTV := rem_end HO.out hkl HG5.out HG.out HC3.out HC4.out (by rw [hwk]; exact SReads.none_ _ _ _) (by rw [hwk]; exact Nat.zero_le _) (D := fun _ => False) (fun i hi => hi.elim) (fun i h1 h2 h3 h4 => HU5.out.block i (by omega) (by rintro (h | h); omega; exact h3 h))
      have hS : Six (w3.setCell ⟨b, o + 4, none⟩ (.slice (some ⟨g, 0, none⟩) (y.items.length - 1) c)) b o (y.without k) (some ⟨g, 0, none⟩) c A' c' := by
        unfold Six
        rw [without_keys4 H55.out, without_len hkl]
        exact ⟨x0, x1, x2, x3, x4, x5⟩
      have HFin := Lib.hid (show RemAt b o lo hi y q w (.returned (.bool true)) (w3.setCell ⟨b, o + 4, none⟩ (.slice (some ⟨g, 0, none⟩) (y.items.length - 1) c)) from .inl ⟨k, _, _, _, _, HK.out, rfl, hS, hTV, HX.out, HU5.out.wide fun i hi => .inl (by rcases hi with h | h; exact .inl h; exact .inr (by omega))⟩)
      clear hS hTV hwk x1 x2 x3 x4 x5
      go_wp2_with fail
      go_ret
      exact HFin.out
  · have HK := Lib.hid (show ∀ k, ¬ IsAt y q k from fun k h => hk ⟨k, h⟩)
    clear hn he hV hb hO hk
    go_enter Tryz.func27, Tryz.ntmps27
    go_wp2_with fail
    refine (place_no y q A c A' c' _ HN.out HE.out hq60 HK.out HV.out).mono ?_
    rintro e w2 ⟨⟨n, rfl⟩, hb2⟩
    have H2 := Lib.hid hb2
    clear hb2 e0 e1 e2 e3 e4 e5
    go_wp2_with fail
    go_ret
    exact .inr ⟨HK.out, rfl, H2.out⟩
end Go.Proofs.YthkpeomdklcnmaaGreatDoor
namespace Go.Proofs.YthkpeomdklcnmaaGreatDoor
open Go.RowKit
set_option linter.unusedVariables false

/-- the boxes that Remove's closure reads: the path, and its last step's place -/
def Boxes (w : World) (gp gl : Nat) (P : Option Addr) (n cp : Nat) (q : ByteArray) : Prop :=
  Blk w gp 24 #[.slice P (n + 1) cp] ∧ Blk w gl 3 #[.int .i64 n] ∧ ∃ b o, P = some ⟨b, o, none⟩ ∧ b < w.heap.size ∧ w.cell? ⟨b, o + n, none⟩ = some (.string q)
theorem Boxes.onto {w w' : World} {gp gl : Nat} {P : Option Addr} {n cp : Nat} {q : ByteArray} (h : Boxes w gp gl P n cp q) (hb : Below w.heap.size w w') : Boxes w' gp gl P n cp q := by
  obtain ⟨h1, h2, b, o, e, h3, h4⟩ := h
  exact ⟨h1.onto hb, h2.onto hb, b, o, e, Nat.lt_of_lt_of_le h3 hb.size, (hb.cell (p := ⟨b, o + n, none⟩) h3).trans h4⟩
set_option maxRecDepth 100000 in
set_option maxHeartbeats 4000000 in
theorem rem1_any (y : T) (q : ByteArray) (b o lo hi : Nat) (A : Option Addr) (c : Nat) (A' : Option Addr) (c' : Nat) (cs : Array Value) (gp gl n cp : Nat) (P : Option Addr) (w : World) (hn : y.Fine) (he : Errs w) (hq60 : q.size ≤ 1000) (hn1 : n ≤ 1000) (h6 : Six w b o y A c A' c') (hO : Own w lo hi y A c A' c') (hb : Blk w b 34 cs) (ho : o + 6 ≤ cs.size) (hsep : b < lo ∨ hi ≤ b) (hH : hi ≤ w.heap.size) (hbx : Boxes w gp gl P n cp q) :
    Calls Tryz.prog 26 #[.pointer (some ⟨b, o, none⟩), .pointer (some ⟨gp, 0, none⟩), .pointer (some ⟨gl, 0, none⟩)] w (RemAt b o lo hi y q w) := by
  obtain ⟨h1, h2, bp, op, rfl, h3, h4⟩ := hbx
  have x0 : w.cell? ⟨gp, 0, none⟩ = some (.slice (some ⟨bp, op, none⟩) (n + 1) cp) := h1.cell 0
  have x1 : w.cell? ⟨gl, 0, none⟩ = some (.int .i64 n) := h2.cell 0
  have i1 : (n : Int) < ((n + 1 : Nat) : Int) := by omega
  have i2 : (0 : Int) ≤ (n : Int) := by omega
  have HR := Lib.hid (rem_item y q b o lo hi A c A' c' cs w hn he hq60 h6 hO hb ho hsep hH)
  clear hn he h6 hO hb h1 h2
  go_enter Tryz.func26, Tryz.ntmps26
  go_wp2_with fail
  refine HR.out.mono ?_
  intro e w2 hr
  have HX := Lib.hid hr
  rcases hr with ⟨k, D, d, D', d', _, rfl, _⟩ | ⟨_, rfl, _⟩
  · go_wp2_with fail
    go_ret
    exact HX.out
  · go_wp2_with fail
    go_ret
    exact HX.out
/-- how it ends -/
def ReachRPost (g0 LO : Nat) (t : T) (p : List ByteArray) (q : ByteArray) (w : World) (e : Ending) (w' : World) : Prop :=
  (∃ h k y r D d D' d', Leads t p h ∧ IsAt h q k ∧ h.items[k]? = some y ∧ Sets t p (h.without k) r ∧ e = .returned (.bool true) ∧ Six w' g0 0 r D d D' d' ∧ TV w' (fun i => LO ≤ i ∧ i < w'.heap.size) r D d D' d' ∧ Below LO w w') ∨
  ((∀ y, ¬ Leads t (p ++ [q]) y) ∧ e = .returned (.bool false) ∧ Below w.heap.size w w')
/-- what is taken out at the end of the way makes of the whole -/
theorem zip_endR {g0 LO HI : Nat} {wr w2 : World} {t : T} {p : List ByteArray} {y : T} {lo hi b o k : Nat} {D : Option Addr} {d : Nat} {D' : Option Addr} {d' : Nat}
    (hz : Zip g0 LO HI wr t p y [] lo hi b o) (hbl : b < wr.heap.size) (hlo : LO ≤ lo) (hhi : hi ≤ HI) (hg0 : g0 < wr.heap.size) (hH : HI ≤ wr.heap.size) (h6 : Six w2 b o (y.without k) D d D' d') (hT : TV w2 (fun i => lo ≤ i ∧ i < hi) (y.without k) D d D' d')
    (hfar : ∀ i, (i < o ∨ o + 6 ≤ i) → w2.cell? ⟨b, i, none⟩ = wr.cell? ⟨b, i, none⟩) (hbut : But (fun i => i = b ∨ (lo ≤ i ∧ i < hi)) wr w2) :
    ∃ r E e E' e', Sets t p (y.without k) r ∧ Six w2 g0 0 r E e E' e' ∧ TV w2 (fun i => LO ≤ i ∧ i < w2.heap.size) r E e E' e' := by
  obtain ⟨F, f1, f2⟩ := hz
  have hs := hbut.size
  obtain ⟨E, e, E', e', k6, kv⟩ := f2 w2 (y.without k) D d D' d' (fun i hi hn hne => hbut.block i (by rcases hi with rfl | hi <;> omega) (fun h => by rcases h with h | h; exact hne h; exact hn h)) hfar (by omega) h6 (hT.wide fun i hi => ⟨by omega, by omega⟩)
  exact ⟨_, E, e, E', e', f1 _ _ rfl, k6, kv⟩
set_option maxRecDepth 100000 in
set_option maxHeartbeats 8000000 in
theorem reachR_any (t : T) (p : List ByteArray) (q0 : ByteArray) (P : Option Addr) (cp cp0 : Nat) (A : Option Addr) (c : Nat) (A' : Option Addr) (c' : Nat) (g0 LO HI gp gl : Nat) (w : World) (hn : t.Fine) (he : Errs w) (hp60 : ∀ q ∈ p, q.size ≤ 1000) (hq60' : q0.size ≤ 1000) (hpl : p.length ≤ 1000) (hp : SReads w (· < w.heap.size) P p)
    (hg0 : Blk w g0 34 #[.int .i64 t.kind, .bool t.tr, .int .i64 t.num, .string t.str, .slice A t.items.length c, .slice A' t.keys.length c']) (hgo : g0 < LO ∨ HI ≤ g0) (hL : LO ≤ HI) (hLg : LO ≤ g0) (hO : Own w LO HI t A c A' c') (hH : HI ≤ w.heap.size) (hbx : Boxes w gp gl P p.length cp0 q0) :
    Calls Tryz.prog 25 #[.pointer (some ⟨g0, 0, none⟩), .slice P p.length cp, .func (.func 26) #[] #[.pointer (some ⟨gp, 0, none⟩), .pointer (some ⟨gl, 0, none⟩)]] w (ReachRPost g0 LO t p q0 w) := by
  have hgl := hg0.lt
  have HE := Lib.hid he
  have HP60 := Lib.hid hp60
  have HP := Lib.hid hp
  have HX := Lib.hid hbx
  have HST := Lib.hid (show StandsS w g0 LO HI t p 0 (.pointer (some ⟨g0, 0, none⟩)) w from ⟨t, g0, 0, LO, HI, A, c, A', c', _, rfl, hgl, ⟨hg0.cell 0, hg0.cell 1, hg0.cell 2, hg0.cell 3, hg0.cell 4, hg0.cell 5⟩, hO, hgo, .inl rfl, Nat.le_refl _, Nat.le_refl _, hg0, Nat.le_refl _, zip_start g0 LO HI w t p, hn, fun x => by simp, Below.refl _ _⟩)
  clear hn he hp60 hp hg0 hO hbx
  go_enter Tryz.func25, Tryz.ntmps25
  go_wp2_with fail
  go_loopw [0, 13] (fun s0 s13 wr => ∃ j : Nat, j ≤ p.length ∧ s13 = .int .i64 j ∧ StandsS w g0 LO HI t p j s0 wr) (fun _ s _ => p.length - (intOf s).toNat)
  case atStart => exact ⟨0, Nat.zero_le _, rfl, HST.out⟩
  case round =>
    obtain ⟨j, hj, rfl, y, b, o, lo, hi, A, c, A', c', cs, rfl, hbw, h6, hO, hbo, hbg, hlo, hhi, hbk, hos, hz, hn, hl, hbel⟩ := hrel
    obtain ⟨e0, e1, e2, e3, e4, e5⟩ := h6
    have HO := Lib.hid hO
    have HN := Lib.hid hn
    have HL := Lib.hid hl
    have HZ := Lib.hid hz
    have HBk := Lib.hid hbk
    have HBl := Lib.hid hbel
    have hgr : w.heap.size ≤ wr.heap.size := hbel.size
    have hi80 := hn.items80
    have HS6 := Lib.hid (show Six wr b o y A c A' c' from ⟨e0, e1, e2, e3, e4, e5⟩)
    have HV := Lib.hid (show TV wr (· < wr.heap.size) y A c A' c' from hO.tv.wide fun k hk => by show k < wr.heap.size; omega)
    clear hO hn hl hz hbk hbel
    by_cases hlt : j < p.length
    · have u1 : decide (j < p.length) = true := decide_eq_true hlt
      have u2 : decide ((j : Int) < (p.length : Int)) = true := decide_eq_true (by omega)
      obtain ⟨bp, op, rfl, hbp, hcp⟩ := (HP.out) (by intro hz; rw [hz] at hlt; simp at hlt)
      obtain ⟨q, hq⟩ : ∃ q, p[j]? = some q := ⟨_, List.getElem?_eq_getElem hlt⟩
      have ep : wr.cell? ⟨bp, op + j, none⟩ = some (.string q) := (HBl.out.cell (p := ⟨bp, op + j, none⟩) hbp).trans (hcp j q hq)
      have HQ := Lib.hid hq
      have hq60 := HP60.out q (List.mem_of_getElem? hq)
      clear hcp hq
      by_cases hk : ∃ k, IsAt y q k
      · obtain ⟨k, hk⟩ := hk
        have hkl := hk.1
        obtain ⟨z, hz⟩ : ∃ z, y.items[k]? = some z := ⟨_, List.getElem?_eq_getElem hkl⟩
        have HK := Lib.hid hk
        have HZz := Lib.hid hz
        have hstep := HZ.out
        rw [drop_at HQ.out] at hstep
        obtain ⟨g, lo', hi', B, d, B', d', rfl, k6, kO, ⟨cs2, kb, ks⟩, ksep, kg, klo, khi, kz⟩ := zip_step hstep HS6.out HO.out hbo hbg hlo hhi hk hz
        have K6 := Lib.hid k6
        have KO := Lib.hid kO
        have KB := Lib.hid kb
        have KZ := Lib.hid kz
        have hgr2 : g < wr.heap.size := kb.lt
        clear hk hz k6 kO kb kz hstep
        go_wp2_with fail
        refine (place_yes y q k _ c A' c' _ HN.out HK.out HV.out).mono ?_
        rintro e w2 ⟨rfl, hb2⟩
        have e4' : w2.cell? ⟨b, o + 4, none⟩ = some (.slice (some ⟨g, 0, none⟩) y.items.length c) := (hb2.cell (p := ⟨b, o + 4, none⟩) (show b < wr.heap.size by omega)).trans e4
        have H2 := Lib.hid hb2
        have i1 : (k : Int) < (y.items.length : Int) := by omega
        have i2 : (0 : Int) ≤ (k : Int) := by omega
        clear hb2 e0 e1 e2 e3 e4 e5 ep
        go_wp2_with fail
        go_roundw
        case rel =>
          refine ⟨j + 1, hlt, by go_num, z, g, k * 6, lo', hi', B, d, B', d', cs2, by go_num, by omega, ?_, ?_, ksep, .inr kg, klo, khi, KB.out.onto H2.out, ks, KZ.out.onto (by omega) (by omega) hgr2 H2.out, HN.out.at_ HZz.out, fun x => ?_, HBl.out.trans (H2.out.mono HBl.out.size)⟩
          · exact K6.out.on_blk (H2.out.block g hgr2)
          · exact KO.out.keep fun k hk => H2.out.block k (by omega)
          · rw [HL.out x, drop_at HQ.out]
            exact leads_cons HN.out HK.out HZz.out
        case measure => simp [intOf]; omega
      · have HK := Lib.hid (show ∀ k, ¬ IsAt y q k from fun k h => hk ⟨k, h⟩)
        clear hk
        go_wp2_with fail
        refine (place_no y q A c A' c' _ HN.out (HE.out.on HBl.out) hq60 HK.out HV.out).mono ?_
        rintro e w2 ⟨⟨n, rfl⟩, hb2⟩
        have H2 := Lib.hid (HBl.out.trans (hb2.mono HBl.out.size))
        clear hb2 e0 e1 e2 e3 e4 e5 ep
        go_wp2_with fail
        go_ret
        refine .inr ⟨fun x hx => ?_, rfl, H2.out⟩
        obtain ⟨h, _, hx, _⟩ := leads_snoc.1 hx
        have h1 := (HL.out h).1 hx
        rw [drop_at HQ.out] at h1
        obtain ⟨k, _, h2, _⟩ := h1
        exact HK.out k h2
    · have u1 : decide (j < p.length) = false := decide_eq_false hlt
      have u2 : decide ((j : Int) < (p.length : Int)) = false := decide_eq_false (by omega)
      have hnil : p.drop j = [] := List.drop_eq_nil_of_le (by omega)
      have HY := Lib.hid (show Leads t p y from (HL.out y).2 (by rw [hnil]; exact rfl))
      have HYU := Lib.hid (show ∀ h, Leads t p h → h = y from fun h hh => by
        have h1 := (HL.out h).1 hh
        rw [hnil] at h1
        exact (show y = h from h1).symm)
      have HZE := Lib.hid (show Zip g0 LO HI wr t p y [] lo hi b o from hnil ▸ HZ.out)
      have hLb : LO ≤ b := by rcases hbg with rfl | h <;> omega
      clear e0 e1 e2 e3 e4 e5 hnil
      go_wp2_with fail
      refine (rem1_any y q0 b o lo hi A c A' c' cs gp gl p.length cp0 P _ HN.out (HE.out.on HBl.out) hq60' hpl HS6.out HO.out HBk.out hos hbo (by omega) (HX.out.onto HBl.out)).mono ?_
      rintro e w2 (⟨k, D, d, D', d', hk, rfl, h6, hT, hfar, hbut⟩ | ⟨hno, rfl, h3⟩)
      · obtain ⟨z, hz⟩ : ∃ z, y.items[k]? = some z := ⟨_, List.getElem?_eq_getElem hk.1⟩
        have HH := Lib.hid (zip_endR HZE.out (by omega) hlo hhi (by omega) (by omega) h6 hT hfar hbut)
        have HB3 := Lib.hid ((HBl.out.mono (show LO ≤ w.heap.size by omega)).trans (hbut.below (B := LO) (fun i hi => by rcases hi with rfl | hi <;> omega) (by omega)))
        have HK := Lib.hid hk
        have HZz := Lib.hid hz
        clear h6 hT hfar hbut hk hz
        go_wp2_with fail
        go_ret
        obtain ⟨r, E, e, E', e', h1, h2, h3⟩ := HH.out
        exact .inl ⟨y, k, z, r, E, e, E', e', HY.out, HK.out, HZz.out, h1, rfl, h2, h3, HB3.out⟩
      · have HNO := Lib.hid hno
        have H3 := Lib.hid (HBl.out.trans (h3.mono HBl.out.size))
        clear hno h3
        go_wp2_with fail
        go_ret
        refine .inr ⟨fun x hx => ?_, rfl, H3.out⟩
        obtain ⟨h, k, hx, h2, _⟩ := leads_snoc.1 hx
        cases HYU.out h hx
        exact HNO.out k h2
end Go.Proofs.YthkpeomdklcnmaaGreatDoor
namespace Go.Proofs.YthkpeomdklcnmaaGreatDoor
open Go.RowKit
set_option linter.unusedVariables false

/-- what Remove answers at a path of steps p and q -/
def RemAns (t : T) (p : List ByteArray) (q : ByteArray) (w : World) (e : Ending) (w' : World) : Prop :=
  (∃ h k y r, Leads t p h ∧ IsAt h q k ∧ h.items[k]? = some y ∧ Sets t p (h.without k) r ∧ ∃ D d D' d', e = .returned (.tuple #[.agg #[.int .i64 r.kind, .bool r.tr, .int .i64 r.num, .string r.str, .slice D r.items.length d, .slice D' r.keys.length d'], .int .i64 0]) ∧ TV w' (fun b => w.heap.size ≤ b ∧ b < w'.heap.size) r D d D' d' ∧ Below w.heap.size w w') ∨
  ((∀ y, ¬ Leads t (p ++ [q]) y) ∧ e = .returned (.tuple #[.agg #[.int .i64 0, .bool false, .int .i64 0, .string ⟨#[]⟩, .slice none 0 0, .slice none 0 0], .int .i64 12]) ∧ Below w.heap.size w w')
set_option maxRecDepth 100000 in
set_option maxHeartbeats 4000000 in
theorem rem_nil (t : T) (P : Option Addr) (cp : Nat) (A : Option Addr) (c : Nat) (A' : Option Addr) (c' : Nat) (w : World) :
    Calls Tryz.prog 9 #[.agg #[.int .i64 t.kind, .bool t.tr, .int .i64 t.num, .string t.str, .slice A t.items.length c, .slice A' t.keys.length c'], .slice P 0 cp] w fun e w' => e = .returned (.tuple #[.agg #[.int .i64 0, .bool false, .int .i64 0, .string ⟨#[]⟩, .slice none 0 0, .slice none 0 0], .int .i64 8]) ∧ Below w.heap.size w w' := by
  go_enter Tryz.func9, Tryz.ntmps9
  go_upto_region 1 with fail
  have hW : Below w.heap.size w (((w.alloc (.cells #[.int .i64 t.kind, .bool t.tr, .int .i64 t.num, .string t.str, .slice A t.items.length c, .slice A' t.keys.length c'] 34)).alloc (.cells #[.slice P 0 cp] 24)).alloc (.cells #[.int .i64 0, .bool false, .int .i64 0, .string ⟨#[]⟩, .slice none 0 0, .slice none 0 0] 34)) := (((Below.refl _ _).alloc (Nat.le_refl _) _).alloc (by simp) _).alloc (by simp; omega) _
  have hB1 : Blk (((w.alloc (.cells #[.int .i64 t.kind, .bool t.tr, .int .i64 t.num, .string t.str, .slice A t.items.length c, .slice A' t.keys.length c'] 34)).alloc (.cells #[.slice P 0 cp] 24)).alloc (.cells #[.int .i64 0, .bool false, .int .i64 0, .string ⟨#[]⟩, .slice none 0 0, .slice none 0 0] 34)) (w.heap.size + 1) 24 #[.slice P 0 cp] := by
    have := (Blk.new (w.alloc (.cells #[.int .i64 t.kind, .bool t.tr, .int .i64 t.num, .string t.str, .slice A t.items.length c, .slice A' t.keys.length c'] 34)) 24 #[.slice P 0 cp]).alloc (.cells #[.int .i64 0, .bool false, .int .i64 0, .string ⟨#[]⟩, .slice none 0 0, .slice none 0 0] 34)
    simpa using this
  have hB2 : Blk (((w.alloc (.cells #[.int .i64 t.kind, .bool t.tr, .int .i64 t.num, .string t.str, .slice A t.items.length c, .slice A' t.keys.length c'] 34)).alloc (.cells #[.slice P 0 cp] 24)).alloc (.cells #[.int .i64 0, .bool false, .int .i64 0, .string ⟨#[]⟩, .slice none 0 0, .slice none 0 0] 34)) (w.heap.size + 2) 34 #[.int .i64 0, .bool false, .int .i64 0, .string ⟨#[]⟩, .slice none 0 0, .slice none 0 0] := by
    have := Blk.new ((w.alloc (.cells #[.int .i64 t.kind, .bool t.tr, .int .i64 t.num, .string t.str, .slice A t.items.length c, .slice A' t.keys.length c'] 34)).alloc (.cells #[.slice P 0 cp] 24)) 34 #[.int .i64 0, .bool false, .int .i64 0, .string ⟨#[]⟩, .slice none 0 0, .slice none 0 0]
    simpa using this
  change Code.wp _ _ _ _ (((w.alloc (.cells #[.int .i64 t.kind, .bool t.tr, .int .i64 t.num, .string t.str, .slice A t.items.length c, .slice A' t.keys.length c'] 34)).alloc (.cells #[.slice P 0 cp] 24)).alloc (.cells #[.int .i64 0, .bool false, .int .i64 0, .string ⟨#[]⟩, .slice none 0 0, .slice none 0 0] 34))
  generalize (((w.alloc (.cells #[.int .i64 t.kind, .bool t.tr, .int .i64 t.num, .string t.str, .slice A t.items.length c, .slice A' t.keys.length c'] 34)).alloc (.cells #[.slice P 0 cp] 24)).alloc (.cells #[.int .i64 0, .bool false, .int .i64 0, .string ⟨#[]⟩, .slice none 0 0, .slice none 0 0] 34)) = W at *
  have x0 : W.cell? ⟨w.heap.size + 1, 0, none⟩ = some (.slice P 0 cp) := hB1.cell 0
  have q0 : W.cell? ⟨w.heap.size + 2, 0, none⟩ = some (.int .i64 0) := hB2.cell 0
  have q1 : W.cell? ⟨w.heap.size + 2, 1, none⟩ = some (.bool false) := hB2.cell 1
  have q2 : W.cell? ⟨w.heap.size + 2, 2, none⟩ = some (.int .i64 0) := hB2.cell 2
  have q3 : W.cell? ⟨w.heap.size + 2, 3, none⟩ = some (.string ⟨#[]⟩) := hB2.cell 3
  have q4 : W.cell? ⟨w.heap.size + 2, 4, none⟩ = some (.slice none 0 0) := hB2.cell 4
  have q5 : W.cell? ⟨w.heap.size + 2, 5, none⟩ = some (.slice none 0 0) := hB2.cell 5
  have f0 := hB2.free 0
  have f1 := hB2.free 1
  have f2 := hB2.free 2
  have f3 := hB2.free 3
  have f4 := hB2.free 4
  have f5 := hB2.free 5
  have HF := Lib.hid (res_put hB2 rfl T.zero none 0 none 0)
  have HE := Lib.hid (show Below w.heap.size w ((((((W.setCell ⟨w.heap.size + 2, 0, none⟩ (.int .i64 T.zero.kind)).setCell ⟨w.heap.size + 2, 1, none⟩ (.bool T.zero.tr)).setCell ⟨w.heap.size + 2, 2, none⟩ (.int .i64 T.zero.num)).setCell ⟨w.heap.size + 2, 3, none⟩ (.string T.zero.str)).setCell ⟨w.heap.size + 2, 4, none⟩ (.slice none T.zero.items.length 0)).setCell ⟨w.heap.size + 2, 5, none⟩ (.slice none T.zero.keys.length 0)) from put6_below hW (by omega))
  clear hB1 hB2 hW
  go_wp2_with fail
  change bodyPost _ _ _ _ _ ((((((W.setCell ⟨w.heap.size + 2, 0, none⟩ (.int .i64 T.zero.kind)).setCell ⟨w.heap.size + 2, 1, none⟩ (.bool T.zero.tr)).setCell ⟨w.heap.size + 2, 2, none⟩ (.int .i64 T.zero.num)).setCell ⟨w.heap.size + 2, 3, none⟩ (.string T.zero.str)).setCell ⟨w.heap.size + 2, 4, none⟩ (.slice none T.zero.items.length 0)).setCell ⟨w.heap.size + 2, 5, none⟩ (.slice none T.zero.keys.length 0))
  generalize ((((((W.setCell ⟨w.heap.size + 2, 0, none⟩ (.int .i64 T.zero.kind)).setCell ⟨w.heap.size + 2, 1, none⟩ (.bool T.zero.tr)).setCell ⟨w.heap.size + 2, 2, none⟩ (.int .i64 T.zero.num)).setCell ⟨w.heap.size + 2, 3, none⟩ (.string T.zero.str)).setCell ⟨w.heap.size + 2, 4, none⟩ (.slice none T.zero.items.length 0)).setCell ⟨w.heap.size + 2, 5, none⟩ (.slice none T.zero.keys.length 0)) = Wf at *
  have m0 : Wf.cell? ⟨w.heap.size + 2, 0, none⟩ = some (.int .i64 0) := HF.out.cell 0
  have m1 : Wf.cell? ⟨w.heap.size + 2, 1, none⟩ = some (.bool false) := HF.out.cell 1
  have m2 : Wf.cell? ⟨w.heap.size + 2, 2, none⟩ = some (.int .i64 0) := HF.out.cell 2
  have m3 : Wf.cell? ⟨w.heap.size + 2, 3, none⟩ = some (.string ⟨#[]⟩) := HF.out.cell 3
  have m4 : Wf.cell? ⟨w.heap.size + 2, 4, none⟩ = some (.slice none 0 0) := HF.out.cell 4
  have m5 : Wf.cell? ⟨w.heap.size + 2, 5, none⟩ = some (.slice none 0 0) := HF.out.cell 5
  exact bodyPost_ret (v := .tuple #[.agg #[.int .i64 0, .bool false, .int .i64 0, .string ⟨#[]⟩, .slice none 0 0, .slice none 0 0], .int .i64 8]) (by simp [results, Tryz.results9, go_sem, m0, m1, m2, m3, m4, m5]) rfl ⟨rfl, HE.out⟩
set_option maxRecDepth 100000 in
set_option maxHeartbeats 8000000 in
theorem rem_any (t : T) (p : List ByteArray) (q : ByteArray) (P : Option Addr) (cp : Nat) (A : Option Addr) (c : Nat) (A' : Option Addr) (c' : Nat) (w : World) (hn : t.Nice) (he : Errs w) (hp60 : ∀ s ∈ p ++ [q], s.size ≤ 1000) (hpl : p.length ≤ 999) (hpc : p.length + 1 ≤ cp) (hp : SReads w (· < w.heap.size) P (p ++ [q])) (hv : TV w (· < w.heap.size) t A c A' c') :
    Calls Tryz.prog 9 #[.agg #[.int .i64 t.kind, .bool t.tr, .int .i64 t.num, .string t.str, .slice A t.items.length c, .slice A' t.keys.length c'], .slice P (p.length + 1) cp] w (RemAns t p q w) := by
  obtain ⟨bp, op, rfl, hbp, hcp⟩ := hp (by simp)
  have hql := hcp p.length q (by simp)
  have HN := Lib.hid hn
  have HE := Lib.hid he
  have HP60 := Lib.hid (show ∀ s ∈ p, s.size ≤ 1000 from fun s hs => hp60 s (by simp [hs]))
  have hq60 : q.size ≤ 1000 := hp60 q (by simp)
  have HP := Lib.hid (show SReads w (· < w.heap.size) (some ⟨bp, op, none⟩) p from fun _ => ⟨bp, op, rfl, hbp, fun i s hi => hcp i s (by rw [List.getElem?_append_left (lt_of_get hi)]; exact hi)⟩)
  have HQ := Lib.hid hql
  have HV := Lib.hid hv
  clear hn he hp60 hp hv hcp hql
  go_enter Tryz.func9, Tryz.ntmps9
  go_upto_region 1 with fail
  have hW : Below w.heap.size w (((w.alloc (.cells #[.int .i64 t.kind, .bool t.tr, .int .i64 t.num, .string t.str, .slice A t.items.length c, .slice A' t.keys.length c'] 34)).alloc (.cells #[.slice (some ⟨bp, op, none⟩) (p.length + 1) cp] 24)).alloc (.cells #[.int .i64 0, .bool false, .int .i64 0, .string ⟨#[]⟩, .slice none 0 0, .slice none 0 0] 34)) := (((Below.refl _ _).alloc (Nat.le_refl _) _).alloc (by simp) _).alloc (by simp; omega) _
  have hB0 : Blk (((w.alloc (.cells #[.int .i64 t.kind, .bool t.tr, .int .i64 t.num, .string t.str, .slice A t.items.length c, .slice A' t.keys.length c'] 34)).alloc (.cells #[.slice (some ⟨bp, op, none⟩) (p.length + 1) cp] 24)).alloc (.cells #[.int .i64 0, .bool false, .int .i64 0, .string ⟨#[]⟩, .slice none 0 0, .slice none 0 0] 34)) w.heap.size 34 #[.int .i64 t.kind, .bool t.tr, .int .i64 t.num, .string t.str, .slice A t.items.length c, .slice A' t.keys.length c'] := ((Blk.new w _ _).alloc _).alloc _
  have hB1 : Blk (((w.alloc (.cells #[.int .i64 t.kind, .bool t.tr, .int .i64 t.num, .string t.str, .slice A t.items.length c, .slice A' t.keys.length c'] 34)).alloc (.cells #[.slice (some ⟨bp, op, none⟩) (p.length + 1) cp] 24)).alloc (.cells #[.int .i64 0, .bool false, .int .i64 0, .string ⟨#[]⟩, .slice none 0 0, .slice none 0 0] 34)) (w.heap.size + 1) 24 #[.slice (some ⟨bp, op, none⟩) (p.length + 1) cp] := by
    have := (Blk.new (w.alloc (.cells #[.int .i64 t.kind, .bool t.tr, .int .i64 t.num, .string t.str, .slice A t.items.length c, .slice A' t.keys.length c'] 34)) 24 #[.slice (some ⟨bp, op, none⟩) (p.length + 1) cp]).alloc (.cells #[.int .i64 0, .bool false, .int .i64 0, .string ⟨#[]⟩, .slice none 0 0, .slice none 0 0] 34)
    simpa using this
  have hB2 : Blk (((w.alloc (.cells #[.int .i64 t.kind, .bool t.tr, .int .i64 t.num, .string t.str, .slice A t.items.length c, .slice A' t.keys.length c'] 34)).alloc (.cells #[.slice (some ⟨bp, op, none⟩) (p.length + 1) cp] 24)).alloc (.cells #[.int .i64 0, .bool false, .int .i64 0, .string ⟨#[]⟩, .slice none 0 0, .slice none 0 0] 34)) (w.heap.size + 2) 34 #[.int .i64 0, .bool false, .int .i64 0, .string ⟨#[]⟩, .slice none 0 0, .slice none 0 0] := by
    have := Blk.new ((w.alloc (.cells #[.int .i64 t.kind, .bool t.tr, .int .i64 t.num, .string t.str, .slice A t.items.length c, .slice A' t.keys.length c'] 34)).alloc (.cells #[.slice (some ⟨bp, op, none⟩) (p.length + 1) cp] 24)) 34 #[.int .i64 0, .bool false, .int .i64 0, .string ⟨#[]⟩, .slice none 0 0, .slice none 0 0]
    simpa using this
  change Code.wp _ _ _ _ (((w.alloc (.cells #[.int .i64 t.kind, .bool t.tr, .int .i64 t.num, .string t.str, .slice A t.items.length c, .slice A' t.keys.length c'] 34)).alloc (.cells #[.slice (some ⟨bp, op, none⟩) (p.length + 1) cp] 24)).alloc (.cells #[.int .i64 0, .bool false, .int .i64 0, .string ⟨#[]⟩, .slice none 0 0, .slice none 0 0] 34))
  generalize (((w.alloc (.cells #[.int .i64 t.kind, .bool t.tr, .int .i64 t.num, .string t.str, .slice A t.items.length c, .slice A' t.keys.length c'] 34)).alloc (.cells #[.slice (some ⟨bp, op, none⟩) (p.length + 1) cp] 24)).alloc (.cells #[.int .i64 0, .bool false, .int .i64 0, .string ⟨#[]⟩, .slice none 0 0, .slice none 0 0] 34)) = W0 at *
  have x0 : W0.cell? ⟨w.heap.size + 1, 0, none⟩ = some (.slice (some ⟨bp, op, none⟩) (p.length + 1) cp) := hB1.cell 0
  have HW0 := Lib.hid hW
  have HB00 := Lib.hid hB0
  have HB01 := Lib.hid hB1
  have HB02 := Lib.hid hB2
  clear hW hB0 hB1 hB2
  go_upto_region 4 with fail
  have hBL : Blk (W0.alloc (.cells #[.int .i64 p.length] 3)) W0.heap.size 3 #[.int .i64 p.length] := Blk.new W0 _ _
  have hWX : Below W0.heap.size W0 (W0.alloc (.cells #[.int .i64 p.length] 3)) := (Below.refl _ _).alloc (Nat.le_refl _) _
  change Code.wp _ _ _ _ (W0.alloc (.cells #[.int .i64 p.length] 3))
  generalize (W0.alloc (.cells #[.int .i64 p.length] 3)) = W at *
  have hB0 := HB00.out.onto hWX
  have HW := Lib.hid (show Below w.heap.size w W from HW0.out.trans (hWX.mono HW0.out.size))
  have HB1 := Lib.hid (HB01.out.onto hWX)
  have HB2 := Lib.hid (HB02.out.onto hWX)
  have HBL := Lib.hid hBL
  have hl2 := HB2.out.lt
  have hs0 := HW0.out.size
  generalize W0.heap.size = gl at *
  obtain ⟨a0, a1, a2, a3, a4, a5⟩ : W.cell? ⟨w.heap.size, 0, none⟩ = some (.int .i64 t.kind) ∧ W.cell? ⟨w.heap.size, 1, none⟩ = some (.bool t.tr) ∧ W.cell? ⟨w.heap.size, 2, none⟩ = some (.int .i64 t.num) ∧ W.cell? ⟨w.heap.size, 3, none⟩ = some (.string t.str) ∧ W.cell? ⟨w.heap.size, 4, none⟩ = some (.slice A t.items.length c) ∧ W.cell? ⟨w.heap.size, 5, none⟩ = some (.slice A' t.keys.length c') := ⟨hB0.cell 0, hB0.cell 1, hB0.cell 2, hB0.cell 3, hB0.cell 4, hB0.cell 5⟩
  clear hB0 hBL hWX HB00 HB01 HB02 HW0 x0
  go_wp2_with fail
  refine (copy_cells t A c A' c' W HN.out.le HN.out.small (HV.out.on HW.out)).mono ?_
  rintro e w2 ⟨B, d, B', d', rfl, hO, hb2⟩
  unfold T.agg
  have hs2 := hb2.size
  have hB3 : Blk (w2.alloc (.cells #[.int .i64 t.kind, .bool t.tr, .int .i64 t.num, .string t.str, .slice B t.items.length d, .slice B' t.keys.length d'] 34)) w2.heap.size 34 #[.int .i64 t.kind, .bool t.tr, .int .i64 t.num, .string t.str, .slice B t.items.length d, .slice B' t.keys.length d'] := Blk.new w2 _ _
  have hW3 : Below w2.heap.size w2 (w2.alloc (.cells #[.int .i64 t.kind, .bool t.tr, .int .i64 t.num, .string t.str, .slice B t.items.length d, .slice B' t.keys.length d'] 34)) := (Below.refl _ _).alloc (Nat.le_refl _) _
  have HO := Lib.hid hO
  have H2 := Lib.hid hb2
  have HB3 := Lib.hid hB3
  have HW3 := Lib.hid hW3
  clear hO hb2 hB3 hW3 a0 a1 a2 a3 a4 a5
  have y0 : (w2.alloc (.cells #[.int .i64 t.kind, .bool t.tr, .int .i64 t.num, .string t.str, .slice B t.items.length d, .slice B' t.keys.length d'] 34)).cell? ⟨w.heap.size + 1, 0, none⟩ = some (.slice (some ⟨bp, op, none⟩) (p.length + 1) cp) := ((HB1.out.onto H2.out).alloc _).cell 0
  have y1 : (w2.alloc (.cells #[.int .i64 t.kind, .bool t.tr, .int .i64 t.num, .string t.str, .slice B t.items.length d, .slice B' t.keys.length d'] 34)).cell? ⟨gl, 0, none⟩ = some (.int .i64 p.length) := ((HBL.out.onto H2.out).alloc _).cell 0
  have i1 : (p.length : Int) ≤ (cp : Int) := by omega
  have i2 : (0 : Int) ≤ (p.length : Int) := by omega
  have i3 : p.length ≤ cp := by omega
  go_wp2_with fail
  change Calls _ _ _ (w2.alloc (.cells #[.int .i64 t.kind, .bool t.tr, .int .i64 t.num, .string t.str, .slice B t.items.length d, .slice B' t.keys.length d'] 34)) _
  generalize (w2.alloc (.cells #[.int .i64 t.kind, .bool t.tr, .int .i64 t.num, .string t.str, .slice B t.items.length d, .slice B' t.keys.length d'] 34)) = W3 at *
  have hw3 : Below W.heap.size W W3 := H2.out.trans (HW3.out.mono hs2)
  have hs3 := hw3.size
  have hsz3 := HW3.out.size
  have hww : Below w.heap.size w W3 := HW.out.trans (hw3.mono HW.out.size)
  refine (reachR_any t p q (some ⟨bp, op, none⟩) cp cp B d B' d' w2.heap.size W.heap.size w2.heap.size (w.heap.size + 1) gl W3 HN.out.fine (HE.out.on hww) HP60.out hq60 (by omega) (HP.out.on hww) HB3.out (.inr (Nat.le_refl _)) hs2 hs2 (HO.out.keep fun k hk => HW3.out.block k hk.2) hsz3 ⟨HB1.out.onto hw3, HBL.out.onto hw3, bp, op, rfl, Nat.lt_of_lt_of_le hbp hww.size, (hww.cell (p := ⟨bp, op + p.length, none⟩) hbp).trans HQ.out⟩).mono ?_
  have HW3' := Lib.hid hw3
  have HWW := Lib.hid hww
  generalize w2.heap.size = G at *
  clear hw3 hww HB3 HW3 HO H2 y0 y1
  rintro e w4 (⟨h, k, y, r, D, dd, D', dd', hy, hk, hyk, hs, rfl, h6, hT, hb4⟩ | ⟨hno, rfl, hb4⟩)
  · have HY := Lib.hid hy
    have HS := Lib.hid hs
    have HK := Lib.hid hk
    have HYK := Lib.hid hyk
    have h1 := (HB2.out.onto HW3'.out).on hb4 hl2
    obtain ⟨x0, x1, x2, x3, x4, x5⟩ : w4.cell? ⟨G, 0, none⟩ = some (.int .i64 r.kind) ∧ w4.cell? ⟨G, 1, none⟩ = some (.bool r.tr) ∧ w4.cell? ⟨G, 2, none⟩ = some (.int .i64 r.num) ∧ w4.cell? ⟨G, 3, none⟩ = some (.string r.str) ∧ w4.cell? ⟨G, 4, none⟩ = some (.slice D r.items.length dd) ∧ w4.cell? ⟨G, 5, none⟩ = some (.slice D' r.keys.length dd') := h6
    have q0 : w4.cell? ⟨w.heap.size + 1 + 1, 0, none⟩ = some (.int .i64 0) := h1.cell 0
    have q1 : w4.cell? ⟨w.heap.size + 1 + 1, 1, none⟩ = some (.bool false) := h1.cell 1
    have q2 : w4.cell? ⟨w.heap.size + 1 + 1, 2, none⟩ = some (.int .i64 0) := h1.cell 2
    have q3 : w4.cell? ⟨w.heap.size + 1 + 1, 3, none⟩ = some (.string ⟨#[]⟩) := h1.cell 3
    have q4 : w4.cell? ⟨w.heap.size + 1 + 1, 4, none⟩ = some (.slice none 0 0) := h1.cell 4
    have q5 : w4.cell? ⟨w.heap.size + 1 + 1, 5, none⟩ = some (.slice none 0 0) := h1.cell 5
    have f0 := h1.free 0
    have f1 := h1.free 1
    have f2 := h1.free 2
    have f3 := h1.free 3
    have f4 := h1.free 4
    have f5 := h1.free 5
    have hF := res_put h1 rfl r D dd D' dd'
    have hw4 : Below w.heap.size w w4 := HWW.out.trans (hb4.mono (by omega))
    have hE : Below w.heap.size w ((((((w4.setCell ⟨w.heap.size + 1 + 1, 0, none⟩ (.int .i64 r.kind)).setCell ⟨w.heap.size + 1 + 1, 1, none⟩ (.bool r.tr)).setCell ⟨w.heap.size + 1 + 1, 2, none⟩ (.int .i64 r.num)).setCell ⟨w.heap.size + 1 + 1, 3, none⟩ (.string r.str)).setCell ⟨w.heap.size + 1 + 1, 4, none⟩ (.slice D r.items.length dd)).setCell ⟨w.heap.size + 1 + 1, 5, none⟩ (.slice D' r.keys.length dd')) := put6_below hw4 (by omega)
    have hz : (((((((w4.setCell ⟨w.heap.size + 1 + 1, 0, none⟩ (.int .i64 r.kind)).setCell ⟨w.heap.size + 1 + 1, 1, none⟩ (.bool r.tr)).setCell ⟨w.heap.size + 1 + 1, 2, none⟩ (.int .i64 r.num)).setCell ⟨w.heap.size + 1 + 1, 3, none⟩ (.string r.str)).setCell ⟨w.heap.size + 1 + 1, 4, none⟩ (.slice D r.items.length dd)).setCell ⟨w.heap.size + 1 + 1, 5, none⟩ (.slice D' r.keys.length dd'))).heap.size = w4.heap.size := put6_size
    have hTT : TV ((((((w4.setCell ⟨w.heap.size + 1 + 1, 0, none⟩ (.int .i64 r.kind)).setCell ⟨w.heap.size + 1 + 1, 1, none⟩ (.bool r.tr)).setCell ⟨w.heap.size + 1 + 1, 2, none⟩ (.int .i64 r.num)).setCell ⟨w.heap.size + 1 + 1, 3, none⟩ (.string r.str)).setCell ⟨w.heap.size + 1 + 1, 4, none⟩ (.slice D r.items.length dd)).setCell ⟨w.heap.size + 1 + 1, 5, none⟩ (.slice D' r.keys.length dd')) (fun b => w.heap.size ≤ b ∧ b < (((((((w4.setCell ⟨w.heap.size + 1 + 1, 0, none⟩ (.int .i64 r.kind)).setCell ⟨w.heap.size + 1 + 1, 1, none⟩ (.bool r.tr)).setCell ⟨w.heap.size + 1 + 1, 2, none⟩ (.int .i64 r.num)).setCell ⟨w.heap.size + 1 + 1, 3, none⟩ (.string r.str)).setCell ⟨w.heap.size + 1 + 1, 4, none⟩ (.slice D r.items.length dd)).setCell ⟨w.heap.size + 1 + 1, 5, none⟩ (.slice D' r.keys.length dd'))).heap.size) r D dd D' dd' := by
      refine (hT.keep fun b hb => put6_heap (by have := hb.1; omega)).wide fun b hb => ⟨by have := hb.1; omega, by rw [hz]; exact hb.2⟩
    have HF := Lib.hid hF
    have HE2 := Lib.hid hE
    have HTT := Lib.hid hTT
    clear h1 hT hy hs hk hyk hF hE hz hTT hw4 hb4
    go_wp2_with fail
    generalize ((((((w4.setCell ⟨w.heap.size + 1 + 1, 0, none⟩ (.int .i64 r.kind)).setCell ⟨w.heap.size + 1 + 1, 1, none⟩ (.bool r.tr)).setCell ⟨w.heap.size + 1 + 1, 2, none⟩ (.int .i64 r.num)).setCell ⟨w.heap.size + 1 + 1, 3, none⟩ (.string r.str)).setCell ⟨w.heap.size + 1 + 1, 4, none⟩ (.slice D r.items.length dd)).setCell ⟨w.heap.size + 1 + 1, 5, none⟩ (.slice D' r.keys.length dd')) = Wf at *
    have m0 : Wf.cell? ⟨w.heap.size + 1 + 1, 0, none⟩ = some (.int .i64 r.kind) := HF.out.cell 0
    have m1 : Wf.cell? ⟨w.heap.size + 1 + 1, 1, none⟩ = some (.bool r.tr) := HF.out.cell 1
    have m2 : Wf.cell? ⟨w.heap.size + 1 + 1, 2, none⟩ = some (.int .i64 r.num) := HF.out.cell 2
    have m3 : Wf.cell? ⟨w.heap.size + 1 + 1, 3, none⟩ = some (.string r.str) := HF.out.cell 3
    have m4 : Wf.cell? ⟨w.heap.size + 1 + 1, 4, none⟩ = some (.slice D r.items.length dd) := HF.out.cell 4
    have m5 : Wf.cell? ⟨w.heap.size + 1 + 1, 5, none⟩ = some (.slice D' r.keys.length dd') := HF.out.cell 5
    exact bodyPost_ret (v := .tuple #[.agg #[.int .i64 r.kind, .bool r.tr, .int .i64 r.num, .string r.str, .slice D r.items.length dd, .slice D' r.keys.length dd'], .int .i64 0]) (by simp [results, Tryz.results9, go_sem, m0, m1, m2, m3, m4, m5]) rfl (.inl ⟨h, k, y, r, HY.out, HK.out, HYK.out, HS.out, D, dd, D', dd', rfl, HTT.out, HE2.out⟩)
  · have HNO := Lib.hid hno
    have h1 := (HB2.out.onto HW3'.out).onto hb4
    have q0 : w4.cell? ⟨w.heap.size + 1 + 1, 0, none⟩ = some (.int .i64 0) := h1.cell 0
    have q1 : w4.cell? ⟨w.heap.size + 1 + 1, 1, none⟩ = some (.bool false) := h1.cell 1
    have q2 : w4.cell? ⟨w.heap.size + 1 + 1, 2, none⟩ = some (.int .i64 0) := h1.cell 2
    have q3 : w4.cell? ⟨w.heap.size + 1 + 1, 3, none⟩ = some (.string ⟨#[]⟩) := h1.cell 3
    have q4 : w4.cell? ⟨w.heap.size + 1 + 1, 4, none⟩ = some (.slice none 0 0) := h1.cell 4
    have q5 : w4.cell? ⟨w.heap.size + 1 + 1, 5, none⟩ = some (.slice none 0 0) := h1.cell 5
    have f0 := h1.free 0
    have f1 := h1.free 1
    have f2 := h1.free 2
    have f3 := h1.free 3
    have f4 := h1.free 4
    have f5 := h1.free 5
    have hF := res_put h1 rfl T.zero none 0 none 0
    have hw4 : Below w.heap.size w w4 := HWW.out.trans (hb4.mono (by have := HWW.out.size; omega))
    have hE : Below w.heap.size w ((((((w4.setCell ⟨w.heap.size + 1 + 1, 0, none⟩ (.int .i64 T.zero.kind)).setCell ⟨w.heap.size + 1 + 1, 1, none⟩ (.bool T.zero.tr)).setCell ⟨w.heap.size + 1 + 1, 2, none⟩ (.int .i64 T.zero.num)).setCell ⟨w.heap.size + 1 + 1, 3, none⟩ (.string T.zero.str)).setCell ⟨w.heap.size + 1 + 1, 4, none⟩ (.slice none T.zero.items.length 0)).setCell ⟨w.heap.size + 1 + 1, 5, none⟩ (.slice none T.zero.keys.length 0)) := put6_below hw4 (by omega)
    have HF := Lib.hid hF
    have HE2 := Lib.hid hE
    clear h1 hb4 hno hF hE hw4
    go_wp2_with fail
    change bodyPost _ _ _ _ _ ((((((w4.setCell ⟨w.heap.size + 1 + 1, 0, none⟩ (.int .i64 T.zero.kind)).setCell ⟨w.heap.size + 1 + 1, 1, none⟩ (.bool T.zero.tr)).setCell ⟨w.heap.size + 1 + 1, 2, none⟩ (.int .i64 T.zero.num)).setCell ⟨w.heap.size + 1 + 1, 3, none⟩ (.string T.zero.str)).setCell ⟨w.heap.size + 1 + 1, 4, none⟩ (.slice none T.zero.items.length 0)).setCell ⟨w.heap.size + 1 + 1, 5, none⟩ (.slice none T.zero.keys.length 0))
    generalize ((((((w4.setCell ⟨w.heap.size + 1 + 1, 0, none⟩ (.int .i64 T.zero.kind)).setCell ⟨w.heap.size + 1 + 1, 1, none⟩ (.bool T.zero.tr)).setCell ⟨w.heap.size + 1 + 1, 2, none⟩ (.int .i64 T.zero.num)).setCell ⟨w.heap.size + 1 + 1, 3, none⟩ (.string T.zero.str)).setCell ⟨w.heap.size + 1 + 1, 4, none⟩ (.slice none T.zero.items.length 0)).setCell ⟨w.heap.size + 1 + 1, 5, none⟩ (.slice none T.zero.keys.length 0)) = Wf at *
    have m0 : Wf.cell? ⟨w.heap.size + 1 + 1, 0, none⟩ = some (.int .i64 0) := HF.out.cell 0
    have m1 : Wf.cell? ⟨w.heap.size + 1 + 1, 1, none⟩ = some (.bool false) := HF.out.cell 1
    have m2 : Wf.cell? ⟨w.heap.size + 1 + 1, 2, none⟩ = some (.int .i64 0) := HF.out.cell 2
    have m3 : Wf.cell? ⟨w.heap.size + 1 + 1, 3, none⟩ = some (.string ⟨#[]⟩) := HF.out.cell 3
    have m4 : Wf.cell? ⟨w.heap.size + 1 + 1, 4, none⟩ = some (.slice none 0 0) := HF.out.cell 4
    have m5 : Wf.cell? ⟨w.heap.size + 1 + 1, 5, none⟩ = some (.slice none 0 0) := HF.out.cell 5
    exact bodyPost_ret (v := .tuple #[.agg #[.int .i64 0, .bool false, .int .i64 0, .string ⟨#[]⟩, .slice none 0 0, .slice none 0 0], .int .i64 12]) (by simp [results, Tryz.results9, go_sem, m0, m1, m2, m3, m4, m5]) rfl (.inr ⟨HNO.out, rfl, HE2.out⟩)
end Go.Proofs.YthkpeomdklcnmaaGreatDoor
