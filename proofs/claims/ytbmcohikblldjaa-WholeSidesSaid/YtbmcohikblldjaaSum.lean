/- Contracts of package sum: the sum of two finite ones. (Written by gen5.py.) -/
import Derived.Test.YtbmcohikblldjaaRows
import Derived.Test.YtbmcohikblldjaaFmt
import Derived.Test.YtbmcohikblldjaaRd
import Derived.Test.YtbmcohikblldjaaAddMath
namespace Go.Proofs.Ytbmcohikblldjaa
open Go.RowKit
set_option linter.unusedVariables false
set_option linter.unusedSimpArgs false

theorem exc_agg (f mode : Int) (n : Bool) (V : Nat) : PackE f mode n V = .returned (.tuple #[.int .u32 (rdV f mode n V), .agg #[.bool false, .bool false, .bool (rdO f mode n V), .bool (rdU f V), .bool (rdX f mode n V)]]) := rfl

end Go.Proofs.Ytbmcohikblldjaa
