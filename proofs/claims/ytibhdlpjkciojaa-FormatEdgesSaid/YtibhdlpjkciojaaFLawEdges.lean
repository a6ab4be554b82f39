/- The walk of FormatEdges. -/
import Derived.Test.YtibhdlpjkciojaaFEdgesA
import Derived.Test.YtibhdlpjkciojaaFEdgesB
import Derived.Test.YtibhdlpjkciojaaFEdgesC
namespace Go.Proofs.Ytibhdlpjkciojaa
open Go.RowKit

theorem fedges_walk (a0 : Int) (a1 : Bool) (a2 : Int) (w0 : (Lit.int .u8 a0).wf = true) (w1 : (Lit.int .u32 a2).wf = true) (w : World) :
    Calls Try.prog 5 #[.int .u8 a0, .bool a1, .int .u32 a2] w fun e w' => e = .returned (.bool true) ∧ Grown w w' := by
  obtain ⟨b0, b1⟩ := bounds_u8 w0
  obtain ⟨b2, b3⟩ := bounds_u32 w1
  rcases (show a0 % 3 = 0 ∨ a0 % 3 = 1 ∨ a0 % 3 = 2 by omega) with hk | hk | hk
  · exact fedges_0 a0 a1 a2 b0 b1 b2 b3 hk w
  · exact fedges_1 a0 a1 a2 b0 b1 b2 b3 hk w
  · exact fedges_2 a0 a1 a2 b0 b1 b2 b3 hk w
end Go.Proofs.Ytibhdlpjkciojaa
