/- List: contract. -/
import Derived.Test.YtffagnejedgjbaaAwake
namespace Go.Proofs.Ytffagnejedgjbaa
open Go.RowKit

def T.ofList (l : List T) : T := .mk 4 false 0 ⟨#[]⟩ l []
end Go.Proofs.Ytffagnejedgjbaa
