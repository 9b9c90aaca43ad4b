/- A value's text is no longer than what it was read of: plain mathematics (the tokens). A value's text is no longer than what it was read of: plain mathematics. What is read is a value: plain mathematics. -/
import Derived.Test.YtaeimlfehlbiiaaGreatDoorMN
import Derived.Test.YtaeimlfehlbiiaaGreatDoorMA
namespace Go.Proofs.YtaeimlfehlbiiaaGreatDoor.Rd
open Tk Pl
set_option linter.unusedVariables false
end Go.Proofs.YtaeimlfehlbiiaaGreatDoor.Rd
namespace Go.Proofs.YtaeimlfehlbiiaaGreatDoor.Rd
open Tk Pl
set_option linter.unusedVariables false
end Go.Proofs.YtaeimlfehlbiiaaGreatDoor.Rd
namespace Go.Proofs.YtaeimlfehlbiiaaGreatDoor.Rd
open Tk Pl
set_option linter.unusedVariables false
def G (v : T) : Prop := v.Good ∧ T.All (fun t => In64 t.num) v
theorem rising_nil : Rising [] := fun i a b h => by simp at h
end Go.Proofs.YtaeimlfehlbiiaaGreatDoor.Rd
