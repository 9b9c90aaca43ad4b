/- The reference's Same, of two that aren't. -/
import Derived.Test.YtgiapdmoiaiofaaDoorSameYes
import Derived.Test.YtgiapdmoiaiofaaDoorItem
namespace Go.Proofs.YtgiapdmoiaiofaaDoor
open Go.RowKit
/-- the same but for keys and items -/
def Head (t u : T) : Prop := u.kind = t.kind ∧ u.tr = t.tr ∧ u.num = t.num ∧ u.str = t.str ∧ u.items.length = t.items.length ∧ u.keys.length = t.keys.length
theorem same_of {t u : T} (h : Head t u) (hk : ∀ (j : Nat), j < t.keys.length → t.keys[j]? = u.keys[j]?) (hi : ∀ (j : Nat), j < t.items.length → t.items[j]? = u.items[j]?) : t = u := by
  obtain ⟨a, b, c, d, e, f⟩ := h
  have h1 : t.keys = u.keys := by
    apply List.ext_getElem?
    intro j
    rcases Nat.lt_or_ge j t.keys.length with h | h
    · exact hk j h
    · rw [List.getElem?_eq_none h, List.getElem?_eq_none (by omega)]
  have h2 : t.items = u.items := by
    apply List.ext_getElem?
    intro j
    rcases Nat.lt_or_ge j t.items.length with h | h
    · exact hi j h
    · rw [List.getElem?_eq_none h, List.getElem?_eq_none (by omega)]
  cases t; cases u
  simp only [T.kind, T.tr, T.num, T.str, T.items, T.keys] at *
  subst a b c d h1 h2
  rfl
theorem agg_head {t u : T} (h : Head t u) (B : Option Addr) (d : Nat) (B' : Option Addr) (d' : Nat) : u.agg B d B' d' = t.agg B d B' d' := by
  obtain ⟨a, b, c, e, f, g⟩ := h
  unfold T.agg
  rw [a, b, c, e, f, g]
end Go.Proofs.YtgiapdmoiaiofaaDoor
