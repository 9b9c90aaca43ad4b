/- Good values, and the program's Good of them. -/
import Derived.Test.YtgiapdmoiaiofaaDoorColl
import Derived.Test.YtgiapdmoiaiofaaDoorTexts
namespace Go.Proofs.YtgiapdmoiaiofaaDoor
open Go.RowKit

/-- the document's value, but for its items -/
structure GoodAt (t : T) : Prop where
  k0 : 0 ≤ t.kind
  k5 : t.kind ≤ 5
  tr : t.kind ≠ 1 → t.tr = false
  num : t.kind ≠ 2 → t.num = 0
  str : t.kind ≠ 3 → t.str = ⟨#[]⟩
  items : t.kind ≠ 4 → t.kind ≠ 5 → t.items = []
  keys : t.kind ≠ 5 → t.keys = []
  lens : t.kind = 5 → t.keys.length = t.items.length
  txt : okText t.str
  ktxt : AllText t.keys
  kris : Rising t.keys
def T.Good : T → Prop := T.All GoodAt
theorem T.Good.kinds {t : T} (h : t.Good) : t.Kinds := h.imp fun _ g => ⟨g.k0, g.k5⟩
theorem GoodAt.klen {t : T} (h : GoodAt t) : t.keys.length ≤ t.items.length := by
  by_cases h5 : t.kind = 5
  · exact Nat.le_of_eq (h.lens h5)
  · rw [h.keys h5]; exact Nat.zero_le _
theorem T.Good.small {t : T} (h : t.Good) (hs : t.size ≤ 100000) : t.Small := by
  unfold T.Good at h
  induction h with
  | mk t h hm ih =>
    refine .mk t ?_ fun x hx => ih x hx ?_
    · have := h.klen; have := t.len_size; omega
    · have := T.mem_size hx; rw [T.size_eq] at hs; omega

end Go.Proofs.YtgiapdmoiaiofaaDoor
