/- The reference's Quote: contract. A text's text: contract. The reference's text of a value: contract. A value's text, its width, and the reference's text: contracts. -/
import Derived.Test.YtaeimlfehlbiiaaGreatDoorOA
import Derived.Test.YtaeimlfehlbiiaaGreatDoorMJ
import Derived.Lib.RuneBytes
import Derived.Outline
import Derived.Test.YtaeimlfehlbiiaaGreatDoorOB
import Derived.Test.YtaeimlfehlbiiaaGreatDoorNA
namespace Go.Proofs.YtaeimlfehlbiiaaGreatDoor
open Go.RowKit
set_option linter.unusedVariables false
def Row8 (B : Nat) (l : List UInt8) (v : Value) (w : World) : Prop := w.ownsRow B 5 1 v l.length (Lib.byteCells l) ∧ B ≤ w.heap.size
theorem Row8.on {B : Nat} {l : List UInt8} {v : Value} {w w' : World} (h : Row8 B l v w) (hb : Below w.heap.size w w') : Row8 B l v w' := ⟨own_keptS h.1 hb, Nat.le_trans h.2 hb.size⟩
end Go.Proofs.YtaeimlfehlbiiaaGreatDoor
namespace Go.Proofs.YtaeimlfehlbiiaaGreatDoor
open Go.RowKit
set_option linter.unusedVariables false
end Go.Proofs.YtaeimlfehlbiiaaGreatDoor
namespace Go.Proofs.YtaeimlfehlbiiaaGreatDoor
open Go.RowKit
set_option linter.unusedVariables false
end Go.Proofs.YtaeimlfehlbiiaaGreatDoor
namespace Go.Proofs.YtaeimlfehlbiiaaGreatDoor
open Go.RowKit
open Pl
set_option linter.unusedVariables false
theorem mkB_data (L : List UInt8) : (mkB L).data.toList = L := by unfold mkB; simp
end Go.Proofs.YtaeimlfehlbiiaaGreatDoor
