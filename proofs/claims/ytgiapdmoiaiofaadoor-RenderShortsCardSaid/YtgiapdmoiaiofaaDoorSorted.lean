/- Sorted texts: contracts of slices.Sort and slices.BinarySearch at texts. -/
import Derived.Test.YtgiapdmoiaiofaaDoorCopy
import Derived.Test.YtgiapdmoiaiofaaDoorTexts
namespace Go.Proofs.YtgiapdmoiaiofaaDoor
open Go.RowKit Go.Sort

def srt (l : List ByteArray) : List ByteArray := ((l.map fun s => s.data.toList).mergeSort fun x y => decide (x ≤ y)).map fun b => ⟨b.toArray⟩
theorem map_back (l : List ByteArray) : (l.map fun s => s.data.toList).map (fun b => (⟨b.toArray⟩ : ByteArray)) = l := by
  rw [List.map_map]
  conv => rhs; rw [← List.map_id l]
  apply List.map_congr_left
  intro s _
  cases s; simp
theorem srt_perm (l : List ByteArray) : (srt l).Perm l := by
  have := (List.mergeSort_perm (l.map fun s => s.data.toList) fun x y => decide (x ≤ y)).map fun b => (⟨b.toArray⟩ : ByteArray)
  rw [map_back] at this
  exact this
theorem srt_len (l : List ByteArray) : (srt l).length = l.length := (srt_perm l).length_eq
theorem srt_pair (l : List ByteArray) : (srt l).Pairwise fun a b => sl b a = false := by
  unfold srt
  rw [List.pairwise_map]
  refine (List.pairwise_mergeSort (le := fun x y => decide (x ≤ y)) ?_ ?_ _).imp ?_
  · intro a b c h1 h2
    simp only [decide_eq_true_eq] at *
    exact List.le_trans h1 h2
  · intro a b
    simp only [Bool.or_eq_true, decide_eq_true_eq]
    exact List.le_total a b
  · intro a b h
    rw [decide_eq_true_eq] at h
    rw [Bool.eq_false_iff]
    intro k
    exact h (by have := (sl_iff _ _).1 k; simpa using this)
theorem get_pair {α : Type} {R : α → α → Prop} {l : List α} (h : l.Pairwise R) {i j : Nat} {a b : α} (hi : l[i]? = some a) (hj : l[j]? = some b) (hij : i < j) : R a b := by
  have h1 := lt_of_get hi
  have h2 := lt_of_get hj
  have := List.pairwise_iff_getElem.1 h i j h1 h2 hij
  rw [List.getElem?_eq_getElem h1] at hi
  rw [List.getElem?_eq_getElem h2] at hj
  injection hi with hi
  injection hj with hj
  rw [hi, hj] at this
  exact this
theorem srt_rising {l : List ByteArray} (h : l.Nodup) : Rising (srt l) := by
  intro i a b ha hb
  have h1 := get_pair (srt_pair l) ha hb (by omega)
  have h2 : a ≠ b := get_pair ((srt_perm l).nodup_iff.2 h) ha hb (by omega)
  rcases sl_tri a b with k | k | k
  · exact k
  · exact absurd k h2
  · rw [h1] at k; cases k
theorem Rising.mono {l : List ByteArray} (h : Rising l) {i : Nat} {a : ByteArray} (hi : l[i]? = some a) : ∀ (j : Nat) (b : ByteArray), i < j → l[j]? = some b → sl a b = true := by
  intro j
  induction j with
  | zero => intro b h0; omega
  | succ j ih =>
    intro b hij hb
    rcases Nat.lt_or_ge i j with h1 | h1
    · have hj : j < l.length := by have := lt_of_get hb; omega
      have h2 := ih _ h1 (List.getElem?_eq_getElem hj)
      exact sl_trans h2 (h j _ b (List.getElem?_eq_getElem hj) hb)
    · obtain rfl : i = j := by omega
      exact h i a b hi hb
theorem Rising.nodup {l : List ByteArray} (h : Rising l) : l.Nodup := by
  rw [List.Nodup, List.pairwise_iff_getElem]
  intro i j h1 h2 hij heq
  have := h.mono (List.getElem?_eq_getElem h1) j _ hij (List.getElem?_eq_getElem h2)
  rw [heq, sl_irrefl] at this
  cases this
theorem srt_not {l : List ByteArray} (h : ¬ l.Nodup) : ¬ Rising (srt l) := fun hr => h ((srt_perm l).nodup_iff.1 hr.nodup)

theorem enc_map (l : List ByteArray) : (l.map fun s => s.data.toList).map encStr = l.map Value.string := by
  rw [List.map_map]
  apply List.map_congr_left
  intro s _
  cases s; simp [encStr]
theorem srt_map (l : List ByteArray) : ((l.map fun s => s.data.toList).mergeSort fun x y => decide (x ≤ y)).map encStr = (srt l).map Value.string := by
  unfold srt
  rw [List.map_map]
  rfl
/-- slices.Sort of a row of the call's own -/
theorem sort_any (l : List ByteArray) (v : Value) (base : Nat) (w : World) (hl : l.length ≤ 100000) (hb : base ≤ w.heap.size) (ho : w.ownsRow base 9 1 v l.length (l.map Value.string)) :
    Calls Tryd.prog 31 #[v] w fun e w' => e = .returned (.tuple #[]) ∧ w'.ownsRow base 9 1 v l.length ((srt l).map Value.string) ∧ Below base w w' := by
  rcases ho.2 with ⟨rfl, h0⟩ | ⟨g, cap, cur, rfl, hbase, hh, h1, h2, h3, h4⟩
  · obtain rfl : l = [] := List.eq_nil_of_length_eq_zero h0
    have e : srt [] = [] := by simp [srt]
    rw [e]
    exact (Tryd.slices_Sort_string_none none 0 w).mono fun e w' ⟨he, hw⟩ => ⟨he, hw ▸ ho, hw ▸ Below.refl _ _⟩
  · have hH := holds_of_block (ss := l.map fun s => s.data.toList) hh (by rw [List.length_map, enc_map, ← h4, Nat.mul_one])
    have hc := Tryd.slices_Sort_string g 0 cap (l.map fun s => s.data.toList) w hH (Array.getElem?_eq_some_iff.1 hh).1 (by rw [List.length_map]; omega)
    rw [List.length_map] at hc
    refine hc.mono ?_
    rintro e w' ⟨rfl, n, os, rfl⟩
    refine ⟨rfl, ?_, (Below.refl _ _).grown (grownBy_sorted _) hb (fun k hk => by injection hk with hk; omega)⟩
    have := ownsRow_sorted (n := n) (os := os) (cap := cap) (base := base) (e := 9) (ss := l.map fun s => s.data.toList) (ts := (l.map fun s => s.data.toList).mergeSort fun x y => decide (x ≤ y)) (by simp) hbase hh (by simpa using h1) h2 h3
    rw [srt_map, List.length_map] at this
    exact this

/-- slices.BinarySearch of a rising row, what stands at place p looked for -/
theorem search_any (l : List ByteArray) (g o c p : Nat) (s : ByteArray) (w : World) (hl : l.length ≤ 100000) (hr : Rising l) (hp : l[p]? = some s) (hc : ∀ (i : Nat) (x : ByteArray), l[i]? = some x → w.cell? ⟨g, o + i, none⟩ = some (.string x)) :
    Calls Tryd.prog 33 #[.slice (some ⟨g, o, none⟩) l.length c, .string s] w fun e w' => e = .returned (.tuple #[.int .i64 p, .bool true]) ∧ ∃ q, w' = w.drewN q := by
  have hpl := lt_of_get hp
  have hget : ∀ (i : Nat) (x : ByteArray), l[i]? = some x → l.getD i s = x := fun i x hi => by rw [List.getD_eq_getElem?_getD, hi]; rfl
  have key : Lib.bsGo (fun t => Op.bytesLess (l.getD t s).toList s.toList) l.length 0 l.length = p := by
    refine Lib.bsGo_spec _ p (fun t ht => ?_) (fun t ht => ?_) _ _ _ (by omega) (by omega) (by omega)
    · have htl : t < l.length := by omega
      rw [hget t _ (List.getElem?_eq_getElem htl)]
      exact hr.mono (List.getElem?_eq_getElem htl) p s ht hp
    · rcases Nat.lt_or_ge t l.length with h1 | h1
      · rw [hget t _ (List.getElem?_eq_getElem h1)]
        rcases Nat.lt_or_ge p t with h2 | h2
        · exact sl_asymm (hr.mono hp t _ h2 (List.getElem?_eq_getElem h1))
        · obtain rfl : t = p := by omega
          rw [List.getElem?_eq_getElem h1] at hp
          injection hp with hp
          rw [hp]
          exact sl_irrefl s
      · rw [List.getD_eq_getElem?_getD, List.getElem?_eq_none h1]
        exact sl_irrefl s
  have := Tryd.slices_BinarySearch_string g o l.length c (fun t => l.getD t s) s w (by omega) (fun j hj => by rw [hget j _ (List.getElem?_eq_getElem hj)]; exact hc j _ (List.getElem?_eq_getElem hj))
  simp only [key] at this
  refine this.mono fun e w' ⟨he, hw⟩ => ⟨?_, hw⟩
  rw [he, hget p s hp]
  simp [hpl]
end Go.Proofs.YtgiapdmoiaiofaaDoor
