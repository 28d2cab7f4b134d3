/- Contracts of the Builder's methods that write. -/
import Derived.Test.YthfgpagmepdblaaBld
namespace Go.Proofs.Ythfgpagmepdblaa
open Go.ChangeShapes Go.WideShapes Go.ChangeAt Go.RowKit
set_option linter.unusedVariables false
set_option maxRecDepth 100000

end Go.Proofs.Ythfgpagmepdblaa
