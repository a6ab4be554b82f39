/- Contracts of the reference's wide numbers: sums of like signs. (Written by gen4.py.) -/
import Derived.Test.YtheaeclojljecaaRows
import Derived.Test.YtheaeclojljecaaRFmt
import Derived.Test.YtheaeclojljecaaWorld
import Derived.Test.YtheaeclojljecaaWide
import Derived.Test.YtheaeclojljecaaLimbs
import Derived.Lib.Hide
import Derived.Handy
import Derived.Deep.QuietTactic
import Derived.BigQuiet
namespace Go.Proofs.Ytheaeclojljecaa
open Go.RowKit
set_option linter.unusedVariables false
set_option linter.unusedSimpArgs false

end Go.Proofs.Ytheaeclojljecaa
