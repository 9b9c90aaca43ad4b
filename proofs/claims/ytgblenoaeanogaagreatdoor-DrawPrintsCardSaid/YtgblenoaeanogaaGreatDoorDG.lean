/- Arguments of layer 12's laws, opened: rows of numbers, rows of such rows, a source's numbers. -/
import Derived.Test.YtgblenoaeanogaaGreatDoorDA
import Derived.Deep.Slices
import Derived.Deep.Fields
import Derived.ChangeSame
import Derived.ChangeSlices
import Derived.WideShapes
import Derived.ChangeShapes
set_option linter.unusedVariables false
set_option maxRecDepth 100000
set_option maxHeartbeats 8000000
open Go.Lib (hid)
namespace Go.Proofs.YtgblenoaeanogaaGreatDoor
open Go.RowKit Go.ChangeShapes Go.WideShapes Go.Deep
set_option linter.constructorNameAsVariable false
section
variable {H : Type} {enc : TypeId × Value → H} {w : World} {spare : Nat → Bool} {held : Bool}
theorem row_open {P : Program} {t e : TypeId} {k : IntKind} {fuel : Nat} {a : Option Addr} {n c : Nat} {x : DataW H × List MemPlace} (ht : P.underlying t = some (.slice e)) (he : P.underlying e = some (.int k)) (hc : P.cellsOf e = 1)
 (h : DataW.trod enc P w 0 spare held fuel t [.slice a n c] = some x) :
 ∃ l : List Int, n = l.length ∧ n ≤ c ∧ n ≤ maxLen ∧ (a = none → c = 0 ∧ l = []) ∧ (∀ y ∈ l, (Lit.int k y).wf = true) ∧
  (l ≠ [] → ∃ b o, a = some ⟨b, o, none⟩ ∧ b < w.heap.size ∧ ∀ i, i < l.length → w.cell? ⟨b, o + i, none⟩ = some (.int k (l.getD i 0))) := by
 rcases open_ints ht he hc h with ⟨hcs, _⟩ | ⟨ad, l, c', zs, hcs, _, hl, hm, hz, _, hcell, hwz⟩
 ·
  simp at hcs
  obtain ⟨rfl, rfl, rfl⟩ := hcs
  exact ⟨[], rfl, Nat.le_refl _, Nat.zero_le _, fun _ => ⟨rfl, rfl⟩, (fun y hy => nomatch hy), fun h => absurd rfl h⟩
 ·
  simp at hcs
  obtain ⟨rfl, rfl, rfl⟩ := hcs
  have hzl : n ≤ zs.length := by rw [hz]; split <;> omega
  have hlen : (zs.take n).length = n := by rw [List.length_take]; omega
  refine ⟨zs.take n, hlen.symm, hl, by omega, (fun h => nomatch h), fun y hy => hwz y (List.mem_of_mem_take hy), fun hne => ?_⟩
  have hpos : 0 < n := by
   rcases Nat.eq_zero_or_pos n with h | h
   · subst h; simp at hne
   · exact h
  obtain ⟨b, off, spot⟩ := ad
  have hc0 := hcell 0 (by omega)
  have hspot : spot = none := by simpa [Addr.add] using World.cell?_spot hc0
  subst hspot
  have hadd : ∀ i, (⟨b, off, none⟩ : Addr).add i = ⟨b, off + i, none⟩ := by intro i; unfold Addr.add; split <;> simp_all
  refine ⟨b, off, rfl, ?_, fun i hi => ?_⟩
  ·
   rw [hadd] at hc0
   exact World.block_lt_of_cell? (w := w) (a := ⟨b, off + 0, none⟩) hc0
  ·
   rw [hlen] at hi
   have := hcell i (by omega)
   rw [hadd] at this
   rw [this]
   congr 2
   rw [List.getD_eq_getElem?_getD, List.getD_eq_getElem?_getD, List.getElem?_take, if_pos (by omega)]
theorem in64_wf {z : Int} (h : (Lit.int .i64 z).wf = true) : -9223372036854775808 ≤ z ∧ z ≤ 9223372036854775807 := by
 have q2 : IntKind.i64.min = -9223372036854775808 := rfl
 have q3 : IntKind.i64.max = 9223372036854775807 := rfl
 simp only [Lit.wf, decide_eq_true_eq, Bool.and_eq_true] at h
 omega
end
end Go.Proofs.YtgblenoaeanogaaGreatDoor
