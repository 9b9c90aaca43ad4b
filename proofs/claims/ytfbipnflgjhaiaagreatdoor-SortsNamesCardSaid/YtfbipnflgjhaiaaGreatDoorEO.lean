/- Prefix: contract of the program's function. How deep a tree is: contract of the program's Depth. -/
import Derived.Test.YtfbipnflgjhaiaaGreatDoorEN
set_option linter.unusedVariables false
set_option maxRecDepth 100000
set_option maxHeartbeats 8000000
open Go.Lib (hid)
namespace Go.Proofs.YtfbipnflgjhaiaaGreatDoor
open Go.RowKit
open Tk Ex
open Go.RowKit
open Tk Ex
theorem args_len (e : E) : e.args.length < e.size := by
 rw [E.size_eq]
 have : ∀ l : List E, l.length ≤ E.sizes l := by
  intro l
  induction l with
  | nil => simp
  | cons x r ih => have := x.size_pos; simp only [List.length_cons, E.sizes]; omega
 have := this e.args
 omega
theorem take_deps {l : List E} {k : Nat} {x : E} (h : l[k]? = some x) : E.depths (l.take (k + 1)) = max (E.depths (l.take k)) x.depth := by
 rw [List.take_add_one, h]
 show E.depths (l.take k ++ [x]) = _
 rw [E.depths_append]
 show max _ (max x.depth 0) = _
 omega
theorem deps_take (l : List E) (k : Nat) : E.depths (l.take k) ≤ E.depths l := by
 have h := E.depths_append (l.take k) (l.drop k)
 rw [List.take_append_drop] at h
 omega
theorem Nine.cells {w : World} {b o : Nat} {e : E} {h : Hd} (k : Nine w b o e h) : w.cell? ⟨b, o, none⟩ = some (.string e.op) ∧ w.cell? ⟨b, o + 1, none⟩ = some (.string e.name) ∧ w.cell? ⟨b, o + 2, none⟩ = some (.int .i64 e.lit.kind) ∧ w.cell? ⟨b, o + 3, none⟩ = some (.bool e.lit.tr) ∧ w.cell? ⟨b, o + 4, none⟩ = some (.int .i64 e.lit.num) ∧ w.cell? ⟨b, o + 5, none⟩ = some (.string e.lit.str) ∧ w.cell? ⟨b, o + 6, none⟩ = some (.slice h.L e.lit.items.length h.l) ∧ w.cell? ⟨b, o + 7, none⟩ = some (.slice h.L' e.lit.keys.length h.l') ∧ w.cell? ⟨b, o + 8, none⟩ = some (.slice h.A e.args.length h.c) := by
 obtain ⟨a0, a1, ⟨s0, s1, s2, s3, s4, s5⟩, a3⟩ := k
 exact ⟨a0, a1, s0, s1, s2, s3, s4, s5, a3⟩
end Go.Proofs.YtfbipnflgjhaiaaGreatDoor
