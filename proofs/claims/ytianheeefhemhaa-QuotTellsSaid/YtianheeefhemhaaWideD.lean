/- Contracts of the reference's wide numbers: sums of like signs. (Written by gen4.py.) -/
import Derived.Test.YtianheeefhemhaaRows
import Derived.Test.YtianheeefhemhaaRFmt
import Derived.Test.YtianheeefhemhaaWorld
import Derived.Test.YtianheeefhemhaaWide
import Derived.Test.YtianheeefhemhaaLimbs
import Derived.Lib.Hide
import Derived.Handy
import Derived.Deep.QuietTactic
import Derived.BigQuiet
namespace Go.Proofs.Ytianheeefhemhaa
open Go.RowKit
set_option linter.unusedVariables false
set_option linter.unusedSimpArgs false

end Go.Proofs.Ytianheeefhemhaa
