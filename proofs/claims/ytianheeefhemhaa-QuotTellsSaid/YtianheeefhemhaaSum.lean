/- Contracts of package sum: the sum of two finite ones. (Written by gen5.py.) -/
import Derived.Test.YtianheeefhemhaaRows
import Derived.Test.YtianheeefhemhaaFmt
import Derived.Test.YtianheeefhemhaaRd
import Derived.Test.YtianheeefhemhaaAddMath
namespace Go.Proofs.Ytianheeefhemhaa
open Go.RowKit
set_option linter.unusedVariables false
set_option linter.unusedSimpArgs false

theorem exc_agg (f mode : Int) (n : Bool) (V : Nat) : PackE f mode n V = .returned (.tuple #[.int .u32 (rdV f mode n V), .agg #[.bool false, .bool false, .bool (rdO f mode n V), .bool (rdU f V), .bool (rdX f mode n V)]]) := rfl

end Go.Proofs.Ytianheeefhemhaa
