/- Values as trees: plain mathematics. -/
namespace Go.Proofs.YtgiapdmoiaiofaaDoor

/-- a value: kind, truth, number, text, items, keys -/
inductive T where
  | mk (kind : Int) (tr : Bool) (num : Int) (str : ByteArray) (items : List T) (keys : List ByteArray)
namespace T
def kind : T → Int | .mk k _ _ _ _ _ => k
def tr : T → Bool | .mk _ b _ _ _ _ => b
def num : T → Int | .mk _ _ n _ _ _ => n
def str : T → ByteArray | .mk _ _ _ s _ _ => s
def items : T → List T | .mk _ _ _ _ l _ => l
def keys : T → List ByteArray | .mk _ _ _ _ _ l => l
theorem ext {a b : T} (h1 : a.kind = b.kind) (h2 : a.tr = b.tr) (h3 : a.num = b.num) (h4 : a.str = b.str) (h5 : a.items = b.items) (h6 : a.keys = b.keys) : a = b := by
  cases a; cases b; simp only [kind, tr, num, str, items, keys] at *; subst h1 h2 h3 h4 h5 h6; rfl
mutual
def size : T → Nat
  | .mk _ _ _ _ l _ => 1 + sizes l
def sizes : List T → Nat
  | [] => 0
  | x :: r => x.size + sizes r
end
theorem size_eq (t : T) : t.size = 1 + sizes t.items := by cases t; rfl
theorem size_pos (t : T) : 1 ≤ t.size := by rw [size_eq]; omega
theorem sizes_append (a b : List T) : sizes (a ++ b) = sizes a + sizes b := by
  induction a with
  | nil => simp [sizes]
  | cons x r ih => simp only [List.cons_append, sizes, ih]; omega
theorem take_snoc {α : Type} {l : List α} {k : Nat} {x : α} (h : l[k]? = some x) : l.take (k + 1) = l.take k ++ [x] := by
  rw [List.take_add_one, h]; rfl
theorem sizes_snoc {l : List T} {k : Nat} {x : T} (h : l[k]? = some x) : sizes (l.take (k + 1)) = sizes (l.take k) + x.size := by
  rw [take_snoc h, sizes_append]; simp [sizes]
theorem sizes_take (l : List T) (k : Nat) : sizes (l.take k) ≤ sizes l := by
  have := sizes_append (l.take k) (l.drop k)
  rw [List.take_append_drop] at this; omega
theorem mem_size {l : List T} {x : T} (h : x ∈ l) : x.size ≤ sizes l := by
  induction l with
  | nil => cases h
  | cons y r ih =>
    rcases List.mem_cons.1 h with rfl | h
    · simp only [sizes]; omega
    · have := ih h; simp only [sizes]; omega
theorem at_size {t x : T} {k : Nat} (h : t.items[k]? = some x) : x.size < t.size := by
  have := mem_size (List.mem_of_getElem? h); rw [size_eq t]; omega
theorem len_sizes (l : List T) : l.length ≤ sizes l := by
  induction l with
  | nil => simp [sizes]
  | cons x r ih => have := x.size_pos; simp only [sizes, List.length_cons]; omega
theorem len_size (t : T) : t.items.length < t.size := by have := len_sizes t.items; rw [size_eq]; omega
/-- induction on a value -/
theorem ind {P : T → Prop} (h : ∀ t : T, (∀ x ∈ t.items, P x) → P t) : ∀ t, P t := by
  have : ∀ n (t : T), t.size ≤ n → P t := by
    intro n
    induction n with
    | zero => intro t ht; have := t.size_pos; omega
    | succ n ih => exact fun t ht => h t fun x hx => ih x (by have := mem_size hx; rw [size_eq] at ht; omega)
  exact fun t => this _ t (Nat.le_refl _)

mutual
def depth : T → Nat
  | .mk k _ _ _ l _ => if k = 4 ∨ k = 5 then 1 + depths l else 0
def depths : List T → Nat
  | [] => 0
  | x :: r => max x.depth (depths r)
end
theorem depth_eq (t : T) : t.depth = if t.kind = 4 ∨ t.kind = 5 then 1 + depths t.items else 0 := by cases t; rfl
theorem depths_append (a b : List T) : depths (a ++ b) = max (depths a) (depths b) := by
  induction a with
  | nil => simp [depths]
  | cons x r ih => simp only [List.cons_append, depths, ih]; omega
theorem depths_snoc {l : List T} {k : Nat} {x : T} (h : l[k]? = some x) : depths (l.take (k + 1)) = max (depths (l.take k)) x.depth := by
  rw [take_snoc h, depths_append]; simp [depths]
theorem depths_take (l : List T) (k : Nat) : depths (l.take k) ≤ depths l := by
  have := depths_append (l.take k) (l.drop k)
  rw [List.take_append_drop] at this; omega
theorem depths_le_of {l : List T} {n : Nat} (h : ∀ x ∈ l, x.depth ≤ n) : depths l ≤ n := by
  induction l with
  | nil => simp [depths]
  | cons y r ih =>
    simp only [depths]
    have h1 := h y (by simp)
    have h2 := ih (fun x hx => h x (by simp [hx]))
    omega
theorem depth_le (t : T) : t.depth ≤ t.size := by
  induction t using T.ind with
  | h t ih =>
    rw [depth_eq]
    split
    · have h1 : depths t.items ≤ sizes t.items := depths_le_of fun x hx => by
        have := ih x hx; have := mem_size hx; omega
      have h2 := size_eq t
      omega
    · omega

/-- of it and all its parts -/
inductive All (P : T → Prop) : T → Prop
  | mk (t : T) (h : P t) (hs : ∀ x ∈ t.items, All P x) : All P t
theorem All.here {P : T → Prop} {t : T} (h : All P t) : P t := by cases h; assumption
theorem All.mem {P : T → Prop} {t x : T} (h : All P t) (hx : x ∈ t.items) : All P x := by cases h with | mk _ _ hs => exact hs x hx
theorem All.at_ {P : T → Prop} {t x : T} (h : All P t) {k : Nat} (hx : t.items[k]? = some x) : All P x := h.mem (List.mem_of_getElem? hx)
theorem All.imp {P Q : T → Prop} {t : T} (h : All P t) (hi : ∀ t, P t → Q t) : All Q t := by
  induction h with
  | mk t h _ ih => exact .mk t (hi t h) ih
/-- the kinds of it and all its parts are 0 to 5 -/
def Kinds : T → Prop := All fun t => 0 ≤ t.kind ∧ t.kind ≤ 5
/-- no part has more keys than the model's memory can hold -/
def Small : T → Prop := All fun t => t.keys.length ≤ 100000
end T
end Go.Proofs.YtgiapdmoiaiofaaDoor
