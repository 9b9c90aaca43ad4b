/- Contracts of the program's integer calls of layer 2: Add, Sub, Neg, Mul, Div, Mod, and the fixed fact 'awake'. -/
import Derived.Test.YtnenipgpncomeaaDoorRows
import Derived.Test.YtnenipgpncomeaaDoorPlainInt
import Derived.WalkKit
import Derived.Lib.Hide
namespace Go.Proofs.YtnenipgpncomeaaDoor.W2
open Go.RowKit

theorem ret_num {k m : IntKind} {a b c d : Int} (h : a = b) (g : c = d) : Ending.returned (.tuple #[.int k a, .int m c]) = .returned (.tuple #[.int k b, .int m d]) := by rw [h, g]
theorem ret_bool {a b : Bool} (h : a = b) : Ending.returned (.bool a) = .returned (.bool b) := by rw [h]
theorem ret_int {k : IntKind} {a b : Int} (h : a = b) : Ending.returned (.int k a) = .returned (.int k b) := by rw [h]

theorem in_of (a : Int) (h : (Lit.int .i64 a).wf = true) : In64 a := by
  simp [Lit.wf, IntKind.min, IntKind.max, IntKind.signed, IntKind.bits] at h
  exact h

end Go.Proofs.YtnenipgpncomeaaDoor.W2
