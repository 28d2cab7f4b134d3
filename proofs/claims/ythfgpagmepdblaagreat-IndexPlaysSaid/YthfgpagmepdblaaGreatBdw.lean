/- Contracts of the Builder's methods that write. -/
import Derived.Test.YthfgpagmepdblaaGreatBld
namespace Go.Proofs.YthfgpagmepdblaaGreat
open Go.ChangeShapes Go.WideShapes Go.ChangeAt Go.RowKit
set_option linter.unusedVariables false
set_option maxRecDepth 100000

end Go.Proofs.YthfgpagmepdblaaGreat
