/- The reference's Same, of the same value. -/
import Derived.Test.YtgiapdmoiaiofaaDoorColl
import Derived.Test.YtgiapdmoiaiofaaDoorTexts
namespace Go.Proofs.YtgiapdmoiaiofaaDoor
open Go.RowKit

end Go.Proofs.YtgiapdmoiaiofaaDoor
