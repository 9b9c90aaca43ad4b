/- As Nice, but of up to eighty parts: plain mathematics. -/
import Derived.Test.YtgiapdmoiaiofaaDoorNice
namespace Go.Proofs.YtgiapdmoiaiofaaDoor
structure T.Fine (t : T) : Prop where
  good : t.Good
  size : t.size ≤ 80
  fit : T.All Fit t
theorem T.Nice.fine {t : T} (h : t.Nice) : t.Fine := ⟨h.good, by have := h.size; omega, h.fit⟩
theorem T.Fine.small {t : T} (h : t.Fine) : t.Small := h.good.small (by have := h.size; omega)
theorem T.Fine.le {t : T} (h : t.Fine) : t.size ≤ 100000 := by have := h.size; omega
theorem T.Fine.mem {t x : T} (h : t.Fine) (hx : x ∈ t.items) : x.Fine :=
  ⟨h.good.mem hx, by have := T.mem_size hx; have := h.size; rw [T.size_eq] at this; omega, h.fit.mem hx⟩
theorem T.Fine.at_ {t x : T} (h : t.Fine) {k : Nat} (hx : t.items[k]? = some x) : x.Fine := h.mem (List.mem_of_getElem? hx)
theorem T.Fine.items80 {t : T} (h : t.Fine) : t.items.length ≤ 80 := by have h1 := T.len_size t; have := h.size; omega
theorem T.Fine.keys_le {t : T} (h : t.Fine) : t.keys.length ≤ 80 := by
  have h1 := h.items80
  by_cases h5 : t.kind = 5
  · rw [h.good.here.lens h5]; exact h1
  · rw [h.good.here.keys h5]; simp
end Go.Proofs.YtgiapdmoiaiofaaDoor
