/- The reference's Pack of exponents that are too great. -/
import Derived.Test.YtheaeclojljecaaRdRef
namespace Go.Proofs.Ytheaeclojljecaa
open Go.RowKit
set_option linter.unusedVariables false
set_option linter.unusedSimpArgs false

end Go.Proofs.Ytheaeclojljecaa
