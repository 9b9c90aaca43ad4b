/- A value in which another one stands where a path leads to: plain mathematics. -/
import Derived.Test.YthkpeomdklcnmaaGreatDoorWay
namespace Go.Proofs.YthkpeomdklcnmaaGreatDoor
set_option linter.unusedVariables false

/-- with another item at a place -/
def T.with_ (t : T) (k : Nat) (y : T) : T := .mk t.kind t.tr t.num t.str (t.items.set k y) t.keys
theorem with_items (t : T) (k : Nat) (y : T) : (t.with_ k y).items = t.items.set k y := rfl
theorem with_at {t : T} {k : Nat} (y : T) (h : k < t.items.length) : (t.with_ k y).items[k]? = some y := by rw [with_items, List.getElem?_set]; simp [h]
theorem with_off {t : T} {k i : Nat} (y : T) (h : i ≠ k) : (t.with_ k y).items[i]? = t.items[i]? := by rw [with_items, List.getElem?_set]; simp [Ne.symm h]
theorem with_len (t : T) (k : Nat) (y : T) : (t.with_ k y).items.length = t.items.length := by rw [with_items, List.length_set]
theorem with_isAt {t : T} {q : ByteArray} {j k : Nat} {y : T} : IsAt (t.with_ k y) q j ↔ IsAt t q j := by
  unfold IsAt
  rw [with_len]
  exact Iff.rfl
theorem IsAt.same {t : T} {q r : ByteArray} {k : Nat} (h1 : IsAt t q k) (h2 : IsAt t r k) : q = r := by
  rcases h1 with ⟨_, ⟨a, b⟩ | ⟨a, b⟩⟩ <;> rcases h2 with ⟨_, ⟨c, d⟩ | ⟨c, d⟩⟩
  · rw [b, d]
  · omega
  · omega
  · rw [b] at d; injection d
/-- r is t, in which x stands where the path leads to -/
def Sets : T → List ByteArray → T → T → Prop
  | _, [], x, r => r = x
  | t, q :: p, x, r => ∃ k y z, IsAt t q k ∧ t.items[k]? = some y ∧ Sets y p x z ∧ r = t.with_ k z
theorem sets_unique : ∀ {p : List ByteArray} {t x a b : T}, t.Fine → Sets t p x a → Sets t p x b → a = b
  | [], t, x, a, b, hn, h, k => by rw [h, k]
  | q :: p, t, x, a, b, hn, ⟨i, y, z, h1, h2, h3, h4⟩, ⟨i', y', z', k1, k2, k3, k4⟩ => by
    obtain rfl := IsAt.unique hn h1 k1
    rw [h2] at k2
    injection k2 with k2
    subst k2
    rw [h4, k4, sets_unique (hn.at_ h2) h3 k3]
theorem sets_leads : ∀ {p : List ByteArray} {t x r : T}, Sets t p x r → Leads r p x
  | [], t, x, r, h => h
  | q :: p, t, x, r, ⟨k, y, z, h1, h2, h3, h4⟩ => by
    subst h4
    exact ⟨k, z, with_isAt.2 h1, with_at z h1.1, sets_leads h3⟩
/-- neither path begins with the other one -/
def Parts : List ByteArray → List ByteArray → Prop
  | [], _ => False
  | _ :: _, [] => False
  | a :: p, b :: q => a ≠ b ∨ Parts p q
theorem sets_off : ∀ {p q : List ByteArray} {t x r y : T}, t.Fine → Parts p q → Sets t p x r → Leads t q y → Leads r q y
  | [], _, _, _, _, _, _, h, _, _ => h.elim
  | _ :: _, [], _, _, _, _, _, h, _, _ => h.elim
  | a :: p, b :: q, t, x, r, y, hn, hp, ⟨k, v, z, h1, h2, h3, h4⟩, ⟨j, u, l1, l2, l3⟩ => by
    subst h4
    by_cases hjk : j = k
    · subst hjk
      rw [h2] at l2
      injection l2 with l2
      subst l2
      rcases hp with hp | hp
      · exact absurd (IsAt.same h1 l1) hp
      · exact ⟨j, z, with_isAt.2 l1, with_at z h1.1, sets_off (hn.at_ h2) hp h3 l3⟩
    · exact ⟨j, u, with_isAt.2 l1, by rw [with_off z hjk]; exact l2, l3⟩
theorem sizes_set {l : List T} {k : Nat} {y : T} (z : T) (h : l[k]? = some y) : T.sizes (l.set k z) + y.size = T.sizes l + z.size := by
  induction l generalizing k with
  | nil => simp at h
  | cons a l ih =>
    cases k with
    | zero =>
      simp only [List.getElem?_cons_zero, Option.some.injEq] at h
      subst h
      simp only [List.set_cons_zero, T.sizes]; omega
    | succ k =>
      simp only [List.getElem?_cons_succ] at h
      have := ih h
      simp only [List.set_cons_succ, T.sizes]; omega
theorem mem_with {t : T} {k : Nat} {z x : T} (h : x ∈ (t.with_ k z).items) : x ∈ t.items ∨ x = z := by
  rw [with_items] at h
  rcases List.mem_or_eq_of_mem_set h with h | h
  · exact .inl h
  · exact .inr h
theorem good_with {t : T} {k : Nat} {z : T} (h : t.Good) (hz : z.Good) : (t.with_ k z).Good := by
  have g := h.here
  refine .mk _ ⟨g.k0, g.k5, g.tr, g.num, g.str, fun h4 h5 => ?_, g.keys, fun h5 => ?_, g.txt, g.ktxt, g.kris⟩ fun x hx => ?_
  · have := g.items h4 h5
    rw [with_items, this]; rfl
  · rw [with_len]; exact g.lens h5
  · rcases mem_with hx with h1 | rfl
    · exact h.mem h1
    · exact hz
theorem sets_good : ∀ {p : List ByteArray} {t x r : T}, t.Good → x.Good → T.All Fit t → T.All Fit x → Sets t p x r → r.Good ∧ T.All Fit r ∧ r.size ≤ t.size + x.size
  | [], t, x, r, hg, hx, hf, hfx, h => by cases h; exact ⟨hx, hfx, by omega⟩
  | q :: p, t, x, r, hg, hx, hf, hfx, ⟨k, y, z, h1, h2, h3, h4⟩ => by
    subst h4
    obtain ⟨i1, i2, i3⟩ := sets_good (hg.at_ h2) hx (hf.at_ h2) hfx h3
    have f := hf.here
    refine ⟨good_with hg i1, .mk _ ⟨f.n0, f.n1, f.str, f.keys⟩ fun u hu => ?_, ?_⟩
    · rcases mem_with hu with h | rfl
      · exact hf.mem h
      · exact i2
    · have h5 := sizes_set z h2
      rw [T.size_eq, with_items]
      have := T.size_eq t
      omega
theorem sets_fine {p : List ByteArray} {t x r : T} (ht : t.Nice) (hx : x.Nice) (h : Sets t p x r) : r.Fine := by
  obtain ⟨a, b, c⟩ := sets_good ht.good hx.good ht.fit hx.fit h
  exact ⟨a, by have := ht.size; have := hx.size; omega, b⟩
theorem sets_ex : ∀ {p : List ByteArray} {t x y : T}, Leads t p y → ∃ r, Sets t p x r
  | [], t, x, y, h => ⟨x, rfl⟩
  | q :: p, t, x, y, ⟨k, v, h1, h2, h3⟩ => by
    obtain ⟨z, hz⟩ := sets_ex (x := x) h3
    exact ⟨_, k, v, z, h1, h2, hz, rfl⟩
end Go.Proofs.YthkpeomdklcnmaaGreatDoor
