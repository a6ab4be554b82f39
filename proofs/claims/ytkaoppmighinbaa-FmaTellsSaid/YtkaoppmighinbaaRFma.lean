/- The contract of the reference's Fma. (Written by gen11.py.) -/
import Derived.Test.YtkaoppmighinbaaRFmaZ
import Derived.Test.YtkaoppmighinbaaRFmaI
import Derived.Test.YtkaoppmighinbaaRFmaO
namespace Go.Proofs.Ytkaoppmighinbaa
open Go.RowKit

theorem rfma_any (f mode a b c : Int) (w : World) (a0 : 0 ≤ a) (a1 : a ≤ 4294967295) (b0 : 0 ≤ b) (b1 : b ≤ 4294967295) (c0 : 0 ≤ c) (c1 : c ≤ 4294967295) :
    Calls Try.prog 16 #[.int .i64 f, .int .i64 mode, .int .u32 a, .int .u32 b, .int .u32 c] w fun e w' => e = fmaE f mode a b c ∧ Grown w w' := by
  rcases nou_inf f a with h | h | h
  · exact rfma_Z f mode a b c w a0 a1 b0 b1 c0 c1 h
  · exact rfma_I f mode a b c w a0 a1 b0 b1 c0 c1 h
  · exact rfma_O f mode a b c w a0 a1 b0 b1 c0 c1 h
end Go.Proofs.Ytkaoppmighinbaa
