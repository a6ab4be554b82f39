/- Contracts of the reference's wide numbers: differences, the greater one ahead. (Written by gen4.py.) -/
import Derived.Test.YtbmcohikblldjaaRows
import Derived.Test.YtbmcohikblldjaaRFmt
import Derived.Test.YtbmcohikblldjaaWorld
import Derived.Test.YtbmcohikblldjaaWideE
import Derived.Test.YtbmcohikblldjaaLimbs
import Derived.Lib.Hide
import Derived.Handy
import Derived.Deep.QuietTactic
import Derived.BigQuiet
namespace Go.Proofs.Ytbmcohikblldjaa
open Go.RowKit
set_option linter.unusedVariables false
set_option linter.unusedSimpArgs false

end Go.Proofs.Ytbmcohikblldjaa
