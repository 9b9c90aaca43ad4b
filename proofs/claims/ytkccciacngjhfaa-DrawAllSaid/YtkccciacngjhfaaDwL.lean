/- How often each place comes (plain); append of one number onto a row of the call's own; a row of noughts, stored to. -/
import Derived.Test.YtkccciacngjhfaaDwJ
import Derived.Laws.OwnMore
namespace Go.Proofs.Ytkccciacngjhfaa
open Go.RowKit

theorem plc_lt {n : Int} : ∀ {l : List Int}, l ≠ [] → n < l.sum → plc n l < l.length := by
  intro l
  induction l generalizing n with
  | nil => intro h; exact absurd rfl h
  | cons a l ih =>
    intro _ h
    unfold plc
    split
    · simp
    · rename_i h1
      rw [List.sum_cons] at h
      have hl : l ≠ [] := by rintro rfl; simp at h; omega
      have := ih (n := n - a) hl (by omega)
      simp only [List.length_cons]
      omega
/-- how often a place comes of the first k numbers -/
def cntN (L : List Int) (k i : Nat) : Nat := (List.range k).countP (fun j : Nat => plc (j : Int) L == i)
theorem cntN_succ (L : List Int) (k i : Nat) : cntN L (k + 1) i = cntN L k i + (if plc (k : Int) L = i then 1 else 0) := by
  unfold cntN
  rw [List.range_succ, List.countP_append]
  congr 1
  by_cases h : plc (k : Int) L = i <;> simp [h]
theorem cntN_all : ∀ (L : List Int), (∀ x ∈ L, 0 ≤ x) → ∀ i, i < L.length → (cntN L L.sum.toNat i : Int) = L.getD i 0
  | [], _, i, hi => by simp at hi
  | a :: L, h, i, hi => by
    have ha : 0 ≤ a := h a (by simp)
    have hL : ∀ x ∈ L, 0 ≤ x := fun x hx => h x (by simp [hx])
    have hs : 0 ≤ L.sum := by
      clear h hi
      induction L with
      | nil => simp
      | cons b L ih =>
        rw [List.sum_cons]
        have := hL b (by simp)
        have := ih (fun x hx => hL x (by simp [hx]))
        omega
    obtain ⟨n, rfl⟩ : ∃ n : Nat, a = n := ⟨a.toNat, by omega⟩
    have e1 : ((n : Int) :: L).sum.toNat = n + L.sum.toNat := by rw [List.sum_cons]; omega
    have hA : ∀ j ∈ List.range n, plc (j : Int) ((n : Int) :: L) = 0 := by
      intro j hj
      rw [List.mem_range] at hj
      rw [plc, if_pos (by omega)]
    have hB : ∀ j : Nat, plc ((n + j : Nat) : Int) ((n : Int) :: L) = plc (j : Int) L + 1 := by
      intro j
      rw [plc, if_neg (by omega), show ((n + j : Nat) : Int) - n = j by omega]
    unfold cntN
    rw [e1, List.range_add, List.countP_append, List.countP_map]
    cases i with
    | zero =>
      have h1 : (List.range n).countP (fun j : Nat => plc (j : Int) ((n : Int) :: L) == 0) = n := by
        rw [List.countP_eq_length.2 (fun j hj => by simp [hA j hj])]
        simp
      have h2 : (List.range L.sum.toNat).countP ((fun j : Nat => plc (j : Int) ((n : Int) :: L) == 0) ∘ (n + ·)) = 0 := by
        rw [List.countP_eq_zero]
        intro j _
        simp only [Function.comp, hB j]
        simp
      rw [h1, h2]
      simp
    | succ i =>
      have h1 : (List.range n).countP (fun j : Nat => plc (j : Int) ((n : Int) :: L) == i + 1) = 0 := by
        rw [List.countP_eq_zero]
        intro j hj
        simp [hA j hj]
      have h2 : ((fun j : Nat => plc (j : Int) ((n : Int) :: L) == i + 1) ∘ (n + ·)) = (fun j : Nat => plc (j : Int) L == i) := by
        funext j
        simp only [Function.comp, hB j]
        simp
      rw [h1, h2]
      have := cntN_all L hL i (by simpa using hi)
      unfold cntN at this
      simpa using this

/-- the row of how often -/
def cntC (L : List Int) (k : Nat) : Array Value := ((List.range L.length).map (fun i => Value.int .i64 (cntN L k i))).toArray
theorem cntC_at {L : List Int} {k i : Nat} (h : i < L.length) : (cntC L k)[i]? = some (.int .i64 (cntN L k i)) := by
  unfold cntC
  simp [h]
theorem cntC_zero (L : List Int) : cntC L 0 = ((List.replicate L.length (0 : Int)).map (Value.int .i64)).toArray := by
  unfold cntC
  congr 1
  apply List.ext_getElem?
  intro i
  by_cases h : i < L.length
  · simp [h, cntN]
  · simp [h]
theorem cntC_succ {L : List Int} {k : Nat} (h : plc (k : Int) L < L.length) : (cntC L k).setIfInBounds (plc (k : Int) L) (.int .i64 ((cntN L k (plc (k : Int) L) : Int) + 1)) = cntC L (k + 1) := by
  apply Array.ext_getElem?
  intro i
  rw [Array.getElem?_setIfInBounds]
  by_cases hi : i < L.length
  · by_cases he : plc (k : Int) L = i
    · subst he
      rw [if_pos rfl, if_pos (by unfold cntC; simpa using h), cntC_at h, cntN_succ, if_pos rfl]
      simp
    · rw [if_neg he, cntC_at hi, cntC_at hi, cntN_succ, if_neg he]
      simp
  · have h2 : (cntC L (k + 1))[i]? = none := by unfold cntC; simp; omega
    have h3 : (cntC L k)[i]? = none := by unfold cntC; simp; omega
    rw [h2, if_neg (by omega), h3]

/-- append(out, y) onto a row of numbers of the call's own: y lies in a block of its own by then -/
theorem app_one {ops : Array Oper} {rest : List Oper} {o : Oper} {a : Act} {Q : Exit → Act → World → Prop} {w : World} (hgd : o.guard = none) (s x : Operand)
    (ho : o.op = .call { callee := .builtin .append, args := #[s, x], argTypes := #[22, 22] })
    (base : Nat) (v : Value) (l : List Int) (y : Int) (hs : a.eval s = v) (hx : a.eval x = .slice (some ⟨w.heap.size, 0, none⟩) 1 1)
    (hown : w.ownsRow base 3 1 v l.length (l.map (Value.int .i64))) (hn : l.length ≤ 1000000) (hbase : base ≤ w.heap.size)
    (h : ∀ (v' : Value) (w' : World), w'.ownsRow base 3 1 v' (l ++ [y]).length ((l ++ [y]).map (Value.int .i64)) → (∀ W, Below base W w → Below base W w') → wpList Try.prog ops Q rest (a.put o.dst v') w') :
    wpList Try.prog ops Q (o :: rest) a (w.alloc (.cells #[.int .i64 y] 3)) := by
  obtain ⟨i0, hi, hz0, hz1, hz2⟩ := info_parts infoInt12
  refine wpList_append_own _ hgd s x 22 ho base 3 i0 (.int .i64 0) 1 8 Try.underlying22 hi hz0 hz1 hz2 rfl (by decide) v l.length _ hs (hown.alloc _) ⟨w.heap.size, 0, none⟩ 1 1 [.int .i64 y] hx rfl ?_ ?_ ?_ ?_ ?_ ?_
  · intro j u hu
    match j, hu with
    | 0, hu => simp at hu; subst hu; simp [Addr.add]
  · intro u hu; simp at hu; subst hu; rfl
  · unfold maxLen; omega
  · omega
  · simp; omega
  · intro v' w' h1 h2 _
    refine h v' w' (by rw [List.length_append, List.map_append]; exact h1) (fun W hW => ?_)
    exact (hW.alloc hbase _).grown h2 (by simp; omega) (fun k hk => (hown.lt k hk).1)
/-- a row of noughts, just made: its block -/
theorem made_blk (w w' : World) (n : Nat) (hown : w'.ownsRow w.heap.size 3 1 (.slice (some ⟨w.heap.size, 0, none⟩) n n) n (madeCells (Value.int .i64 0).cells (n * 1)).toList) :
    Blk w' w.heap.size 3 ((List.replicate n (0 : Int)).map (Value.int .i64)).toArray := by
  have h1 : (madeCells (Value.int .i64 0).cells (n * 1)).toList = (List.replicate n (0 : Int)).map (Value.int .i64) := by
    rw [Nat.mul_one]
    have := toList_madeCells_one (.int .i64 0) n
    rw [List.map_replicate]
    exact this
  rw [h1] at hown
  rcases hown.2 with ⟨h, _⟩ | ⟨g, cap, cur, h, _, hh, _, _, hsz, htk⟩
  · cases h
  · injection h with h h2 h3
    injection h with h
    injection h with h _
    subst h h3
    unfold Blk
    rw [hh]
    congr 2
    rw [← htk]
    rw [List.take_of_length_le (by rw [Array.length_toList, hsz]; exact Nat.le_refl _)]
end Go.Proofs.Ytkccciacngjhfaa
