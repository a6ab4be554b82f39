/- The contract of the reference's Fma, by what the first number is. (Written by gen11.py.) -/
import Derived.Test.YtmipefapjehkaaaGreatRMul
namespace Go.Proofs.YtmipefapjehkaaaGreat
open Go.RowKit
set_option linter.unusedVariables false
set_option linter.unusedSimpArgs false

end Go.Proofs.YtmipefapjehkaaaGreat
