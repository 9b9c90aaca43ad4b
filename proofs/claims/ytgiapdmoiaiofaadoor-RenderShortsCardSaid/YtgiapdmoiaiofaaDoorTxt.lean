/- A value's text: its parts, its length: plain mathematics. -/
import Derived.Test.YtgiapdmoiaiofaaDoorQuo
import Derived.Test.YtgiapdmoiaiofaaDoorNice
import Derived.Test.YtgiapdmoiaiofaaDoorW2
import Derived.Test.YtgiapdmoiaiofaaDoorFine
namespace Go.Proofs.YtgiapdmoiaiofaaDoor
set_option linter.unusedVariables false

/-- what stands ahead of an item: the comma, and the key -/
def keyPart (ks : List ByteArray) (i : Nat) : List UInt8 := match ks[i]? with | some q => Q.quo q.toList ++ [58] | none => []
def comma (i : Nat) : List UInt8 := if i = 0 then [] else [44]
theorem txts_cons (ks : List ByteArray) (x : T) (r : List T) (i : Nat) : T.txts ks (x :: r) i = comma i ++ (keyPart ks i ++ (x.txt ++ T.txts ks r (i + 1))) := by rw [T.txts]; rfl
theorem txts_append (ks : List ByteArray) : ∀ (a b : List T) (i : Nat), T.txts ks (a ++ b) i = T.txts ks a i ++ T.txts ks b (i + a.length)
  | [], b, i => by simp [T.txts]
  | x :: a, b, i => by
    rw [List.cons_append, txts_cons, txts_cons, txts_append ks a b (i + 1), show i + 1 + a.length = i + (x :: a).length by simp; omega]
    simp only [List.append_assoc]
theorem txts_take {ks : List ByteArray} {l : List T} {j : Nat} {x : T} (h : l[j]? = some x) : T.txts ks (l.take (j + 1)) 0 = T.txts ks (l.take j) 0 ++ (comma j ++ (keyPart ks j ++ x.txt)) := by
  have hj : j < l.length := (List.getElem?_eq_some_iff.1 h).1
  rw [T.take_snoc h, txts_append, txts_cons, T.txts, List.append_nil, List.length_take, Nat.min_eq_left (Nat.le_of_lt hj), Nat.zero_add]
theorem comma_len (i : Nat) : (comma i).length ≤ 1 := by unfold comma; split <;> simp
theorem keyPart_len {ks : List ByteArray} (h : ∀ s ∈ ks, s.size ≤ 60) (i : Nat) : (keyPart ks i).length ≤ 363 := by
  unfold keyPart
  split
  · rename_i q hq
    have h1 := h q (List.mem_of_getElem? hq)
    have h2 := Q.quo_len q.toList
    have h3 : q.toList.length = q.size := by rw [ByteArray.toList_eq]; simp
    simp only [List.length_append, List.length_singleton]; omega
  · simp
theorem txts_len {ks : List ByteArray} (h : ∀ s ∈ ks, s.size ≤ 60) : ∀ (l : List T) (i : Nat), (∀ x ∈ l, x.txt.length + 364 ≤ 800 * x.size) → (T.txts ks l i).length ≤ 800 * T.sizes l
  | [], i, _ => by simp [T.txts]
  | x :: l, i, hl => by
    have h1 := txts_len h l (i + 1) fun y hy => hl y (List.mem_cons_of_mem _ hy)
    have h2 := hl x (List.mem_cons_self)
    have h3 := comma_len i
    have h4 := keyPart_len h i
    rw [txts_cons]
    simp only [List.length_append, T.sizes]; omega
theorem txt_len : ∀ (t : T), T.All Fit t → t.txt.length + 364 ≤ 800 * t.size := by
  refine T.ind ?_
  intro t ih hf
  have f := hf.here
  have hi : (T.txts t.keys t.items 0).length ≤ 800 * T.sizes t.items := txts_len f.keys _ _ fun x hx => ih x hx (hf.mem hx)
  have hq := Q.quo_len t.str.toList
  have hs : t.str.toList.length = t.str.size := by rw [ByteArray.toList_eq]; simp
  have hs60 := f.str
  have hn := De.itoa_len (n := t.num) ⟨f.n0, f.n1⟩
  rw [T.txt_eq, T.size_eq]
  split
  · split <;> simp <;> omega
  split
  · omega
  split
  · omega
  split
  · simp only [List.length_cons, List.length_append, List.length_nil]; omega
  split
  · simp only [List.length_cons, List.length_append, List.length_nil]; omega
  · simp; omega
end Go.Proofs.YtgiapdmoiaiofaaDoor
