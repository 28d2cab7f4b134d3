/- Contracts of the Builder's methods that write. -/
import Derived.Test.YtpkipdiecnokhaaBld
namespace Go.Proofs.Ytpkipdiecnokhaa
open Go.ChangeShapes Go.WideShapes Go.ChangeAt Go.RowKit
set_option linter.unusedVariables false
set_option maxRecDepth 100000

end Go.Proofs.Ytpkipdiecnokhaa
