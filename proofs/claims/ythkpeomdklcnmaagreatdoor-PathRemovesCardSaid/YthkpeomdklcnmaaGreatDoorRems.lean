/- A value without what a path leads to: plain mathematics. -/
import Derived.Test.YthkpeomdklcnmaaGreatDoorSets
namespace Go.Proofs.YthkpeomdklcnmaaGreatDoor
set_option linter.unusedVariables false

/-- without the item at a place -/
def T.without (t : T) (k : Nat) : T := .mk t.kind t.tr t.num t.str (t.items.eraseIdx k) (if t.kind = 5 then t.keys.eraseIdx k else t.keys)
theorem without_items (t : T) (k : Nat) : (t.without k).items = t.items.eraseIdx k := rfl
theorem without_keys (t : T) (k : Nat) : (t.without k).keys = if t.kind = 5 then t.keys.eraseIdx k else t.keys := rfl
theorem without_len {t : T} {k : Nat} (h : k < t.items.length) : (t.without k).items.length = t.items.length - 1 := by rw [without_items, List.length_eraseIdx, if_pos h]
theorem sizes_erase {l : List T} {k : Nat} {y : T} (h : l[k]? = some y) : T.sizes (l.eraseIdx k) + y.size = T.sizes l := by
  induction l generalizing k with
  | nil => simp at h
  | cons a l ih =>
    cases k with
    | zero =>
      simp only [List.getElem?_cons_zero, Option.some.injEq] at h
      subst h
      simp only [List.eraseIdx_cons_zero, T.sizes]; omega
    | succ k =>
      simp only [List.getElem?_cons_succ] at h
      have := ih h
      simp only [List.eraseIdx_cons_succ, T.sizes]; omega
theorem mem_without {t x : T} {k : Nat} (h : x ∈ (t.without k).items) : x ∈ t.items := List.mem_of_mem_eraseIdx (by rw [without_items] at h; exact h)
theorem key_without {t : T} {k : Nat} {s : ByteArray} (h : s ∈ (t.without k).keys) : s ∈ t.keys := by
  rw [without_keys] at h
  split at h
  · exact List.mem_of_mem_eraseIdx h
  · exact h
theorem rising_erase {l : List ByteArray} (h : Rising l) (k : Nat) : Rising (l.eraseIdx k) := by
  intro i a b ha hb
  rw [List.getElem?_eraseIdx] at ha hb
  split at ha <;> split at hb
  · exact get_pair h.pair ha hb (by omega)
  · exact get_pair h.pair ha hb (by omega)
  · omega
  · exact get_pair h.pair ha hb (by omega)
theorem good_without {t : T} {k : Nat} (h : t.Good) (hk : k < t.items.length) : (t.without k).Good := by
  have g := h.here
  refine .mk _ ⟨g.k0, g.k5, g.tr, g.num, g.str, fun h4 h5 => ?_, fun h5 => ?_, fun h5 => ?_, g.txt, fun s hs => g.ktxt s (key_without hs), ?_⟩ fun x hx => h.mem (mem_without hx)
  · have := g.items h4 h5
    rw [this] at hk; simp at hk
  · rw [without_keys, if_neg (show ¬ t.kind = 5 from h5)]; exact g.keys h5
  · rw [without_keys, if_pos (show t.kind = 5 from h5), without_len hk, List.length_eraseIdx, g.lens (show t.kind = 5 from h5), if_pos hk]
  · rw [without_keys]
    split
    · exact rising_erase g.kris k
    · exact g.kris
theorem fit_without {t : T} {k : Nat} (h : T.All Fit t) : T.All Fit (t.without k) := by
  have f := h.here
  exact .mk _ ⟨f.n0, f.n1, f.str, fun s hs => f.keys s (key_without hs)⟩ fun x hx => h.mem (mem_without hx)
theorem size_without {t y : T} {k : Nat} (h : t.items[k]? = some y) : (t.without k).size + y.size = t.size := by
  have := sizes_erase h
  have h1 := T.size_eq (t.without k)
  have h2 := T.size_eq t
  rw [without_items] at h1
  omega
theorem sets_size : ∀ {p : List ByteArray} {t y x r : T}, t.Fine → Leads t p y → Sets t p x r → r.size + y.size = t.size + x.size
  | [], t, y, x, r, hn, hl, h => by cases h; cases (show t = y from hl); omega
  | q :: p, t, y, x, r, hn, hl, ⟨k, v, z, h1, h2, h3, h4⟩ => by
    subst h4
    have := sets_size (hn.at_ h2) ((leads_cons hn h1 h2).1 hl) h3
    have h5 := sizes_set z h2
    rw [T.size_eq, with_items]
    have := T.size_eq t
    omega
/-- what Remove gives is a good value, no larger -/
theorem rems_fine {p : List ByteArray} {t h r y : T} {k : Nat} (ht : t.Fine) (hl : Leads t p h) (hy : h.items[k]? = some y) (hs : Sets t p (h.without k) r) : r.Fine := by
  have hh := leads_fine ht hl
  obtain ⟨a, b, _⟩ := sets_good ht.good (good_without hh.good (lt_of_get hy)) ht.fit (fit_without hh.fit) hs
  have h1 := sets_size ht hl hs
  have h2 := size_without hy
  have h3 := y.size_pos
  exact ⟨a, by have := ht.size; omega, b⟩
theorem leads_snoc : ∀ {p : List ByteArray} {t y : T} {q : ByteArray}, Leads t (p ++ [q]) y ↔ ∃ h k, Leads t p h ∧ IsAt h q k ∧ h.items[k]? = some y
  | [], t, y, q => by
    constructor
    · rintro ⟨k, z, h1, h2, h3⟩
      cases (show z = y from h3)
      exact ⟨t, k, rfl, h1, h2⟩
    · rintro ⟨h, k, h0, h1, h2⟩
      cases (show t = h from h0)
      exact ⟨k, y, h1, h2, rfl⟩
  | a :: p, t, y, q => by
    constructor
    · rintro ⟨i, z, h1, h2, h3⟩
      obtain ⟨h, k, k1, k2, k3⟩ := leads_snoc.1 h3
      exact ⟨h, k, ⟨i, z, h1, h2, k1⟩, k2, k3⟩
    · rintro ⟨h, k, ⟨i, z, h1, h2, h3⟩, k2, k3⟩
      exact ⟨i, z, h1, h2, leads_snoc.2 ⟨h, k, h3, k2, k3⟩⟩
theorem snoc_of {p : List ByteArray} (h : p ≠ []) : ∃ pre q, p = pre ++ [q] := ⟨p.dropLast, p.getLast h, (List.dropLast_concat_getLast h).symm⟩
end Go.Proofs.YthkpeomdklcnmaaGreatDoor
