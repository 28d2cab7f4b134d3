/- Contracts of the Builder's methods that write. -/
import Derived.Test.YtncdjfgoigaflaaBld
namespace Go.Proofs.Ytncdjfgoigaflaa
open Go.ChangeShapes Go.WideShapes Go.ChangeAt Go.RowKit
set_option linter.unusedVariables false
set_option maxRecDepth 100000

end Go.Proofs.Ytncdjfgoigaflaa
