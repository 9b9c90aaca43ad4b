/- The trees of two small texts: plain mathematics. -/
import Derived.Test.YtfbipnflgjhaiaaGreatDoorEA
import Derived.KernelRfl
set_option linter.unusedVariables false
set_option maxRecDepth 100000
set_option maxHeartbeats 8000000
open Go.Lib (hid)
namespace Go.Proofs.YtfbipnflgjhaiaaGreatDoor.Ex
open Tk
def numE (n : Int) : E := litE (Rd.numT n)
def awk9 : E := .mk plusB nix Rd.nulT [.mk getB ⟨#[97]⟩ Rd.nulT [.mk thisB nix Rd.nulT []], numE 1]
theorem parse_awk9 : parse ⟨#[116, 104, 105, 115, 46, 97, 32, 43, 32, 49]⟩ = .ok awk9 0 := by kernel_rfl
end Go.Proofs.YtfbipnflgjhaiaaGreatDoor.Ex
