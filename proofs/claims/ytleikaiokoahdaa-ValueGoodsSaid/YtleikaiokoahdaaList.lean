/- List: contract. -/
import Derived.Test.YtleikaiokoahdaaAwake
namespace Go.Proofs.Ytleikaiokoahdaa
open Go.RowKit

def T.ofList (l : List T) : T := .mk 4 false 0 ⟨#[]⟩ l []
end Go.Proofs.Ytleikaiokoahdaa
