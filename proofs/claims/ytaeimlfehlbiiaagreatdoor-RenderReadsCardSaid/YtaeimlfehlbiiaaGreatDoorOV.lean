/- The reference's Same, of two that aren't. Contracts whose arguments' cells are written out, as a walk has them. -/
import Derived.Test.YtaeimlfehlbiiaaGreatDoorNJ
import Derived.Test.YtaeimlfehlbiiaaGreatDoorNI
import Derived.Test.YtaeimlfehlbiiaaGreatDoorMY
import Derived.Test.YtaeimlfehlbiiaaGreatDoorMJ
import Derived.Test.YtaeimlfehlbiiaaGreatDoorMG
namespace Go.Proofs.YtaeimlfehlbiiaaGreatDoor
open Go.RowKit
end Go.Proofs.YtaeimlfehlbiiaaGreatDoor
namespace Go.Proofs.YtaeimlfehlbiiaaGreatDoor
open Go.RowKit
set_option maxRecDepth 100000
end Go.Proofs.YtaeimlfehlbiiaaGreatDoor
