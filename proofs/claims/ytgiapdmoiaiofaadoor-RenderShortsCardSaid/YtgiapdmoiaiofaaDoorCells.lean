/- Contracts whose arguments' cells are written out, as a walk has them. -/
import Derived.Test.YtgiapdmoiaiofaaDoorOpen
import Derived.Test.YtgiapdmoiaiofaaDoorReal
import Derived.Test.YtgiapdmoiaiofaaDoorRefv
import Derived.Test.YtgiapdmoiaiofaaDoorSizes
import Derived.Test.YtgiapdmoiaiofaaDoorSameYes
import Derived.Test.YtgiapdmoiaiofaaDoorSameNo
import Derived.Test.YtgiapdmoiaiofaaDoorItem
import Derived.Test.YtgiapdmoiaiofaaDoorCopy
namespace Go.Proofs.YtgiapdmoiaiofaaDoor
open Go.RowKit

set_option maxRecDepth 100000
theorem real_cells (t : T) (A : Option Addr) (c : Nat) (A' : Option Addr) (c' : Nat) (w : World) (ht : t.size ≤ 100000) (hs : t.Small) (hv : TV w (· < w.heap.size) t A c A' c') :
    Calls Tryd.prog 13 #[.agg #[.int .i64 t.kind, .bool t.tr, .int .i64 t.num, .string t.str, .slice A t.items.length c, .slice A' t.keys.length c']] w (GivesT t w) := real_any t A c A' c' w ht hs hv
theorem copy_cells (t : T) (A : Option Addr) (c : Nat) (A' : Option Addr) (c' : Nat) (w : World) (ht : t.size ≤ 100000) (hs : t.Small) (hv : TV w (· < w.heap.size) t A c A' c') :
    Calls Tryd.prog 34 #[.agg #[.int .i64 t.kind, .bool t.tr, .int .i64 t.num, .string t.str, .slice A t.items.length c, .slice A' t.keys.length c']] w (GivesOwn t w) := copy_any t A c A' c' w ht hs hv
/-- how a call ends that gives the zero value -/
def GivesZ (w : World) (e : Ending) (w' : World) : Prop := ∃ (B : Option Addr) (d : Nat) (B' : Option Addr) (d' : Nat), e = .returned (.agg #[.int .i64 0, .bool false, .int .i64 0, .string ⟨#[]⟩, .slice B 0 d, .slice B' 0 d']) ∧ TV w' (· < w'.heap.size) T.zero B d B' d' ∧ Below w.heap.size w w'
theorem zero_small : T.zero.Small := T.leaf_all (Nat.zero_le _) rfl
def GivesItem (x : T) (w : World) (e : Ending) (w' : World) : Prop := ∃ (B : Option Addr) (d : Nat) (B' : Option Addr) (d' : Nat), e = .returned (.tuple #[.agg #[.int .i64 x.kind, .bool x.tr, .int .i64 x.num, .string x.str, .slice B x.items.length d, .slice B' x.keys.length d'], .bool true]) ∧ TV w' (· < w'.heap.size) x B d B' d' ∧ Below w.heap.size w w'
end Go.Proofs.YtgiapdmoiaiofaaDoor
