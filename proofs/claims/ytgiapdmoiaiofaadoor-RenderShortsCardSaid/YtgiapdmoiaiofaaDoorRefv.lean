/- Ref: the program's value as the document's. -/
import Derived.Test.YtgiapdmoiaiofaaDoorReal
import Derived.Test.YtgiapdmoiaiofaaDoorObject
namespace Go.Proofs.YtgiapdmoiaiofaaDoor
open Go.RowKit

/-- how a call ends that gives the value t, in new memory but for what lies below B0 -/
def GivesR (B0 : Nat) (t : T) (w : World) (e : Ending) (w' : World) : Prop := ∃ B d B' d', e = .returned (t.agg B d B' d') ∧ TV w' (fun b => b < B0 ∨ w.heap.size ≤ b ∧ b < w'.heap.size) t B d B' d' ∧ Below w.heap.size w w'
end Go.Proofs.YtgiapdmoiaiofaaDoor
