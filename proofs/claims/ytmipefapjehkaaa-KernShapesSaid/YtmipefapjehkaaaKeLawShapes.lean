/- The walk of KernShapes. (Written by gen55.py.) -/
import Derived.Test.YtmipefapjehkaaaFrame
import Derived.Test.YtmipefapjehkaaaKeShpTT
import Derived.Test.YtmipefapjehkaaaKeShpTF
import Derived.Test.YtmipefapjehkaaaKeShpFT
import Derived.Test.YtmipefapjehkaaaKeShpFF
namespace Go.Proofs.Ytmipefapjehkaaa
open Go Go.RowKit
set_option linter.unusedVariables false

theorem kshapes_walk (w : World) (a : Int) (wa : (Lit.int .u8 a).wf = true) (b : Int) (wb : (Lit.int .u8 b).wf = true) (c : Int) (wc : (Lit.int .u8 c).wf = true) (d : Int) (wd : (Lit.int .u8 d).wf = true) :
    Calls Try.prog 7 #[.int .u8 a, .int .u8 b, .int .u8 c, .int .u8 d] w fun e w' => e = .returned (.bool true) ∧ Grown w w' := by
  obtain ⟨a0, a1⟩ := bounds_u8 wa
  obtain ⟨b0, b1⟩ := bounds_u8 wb
  obtain ⟨c0, c1⟩ := bounds_u8 wc
  obtain ⟨d0, d1⟩ := bounds_u8 wd
  obtain ⟨x, hx⟩ : ∃ x : Nat, a % 4 = (x : Int) := ⟨(a % 4).toNat, by omega⟩
  obtain ⟨y, hy⟩ : ∃ y : Nat, b % 4 = (y : Int) := ⟨(b % 4).toNat, by omega⟩
  obtain ⟨z, hz⟩ : ∃ z : Nat, c % 4 = (z : Int) := ⟨(c % 4).toNat, by omega⟩
  obtain ⟨u, hu⟩ : ∃ u : Nat, d % 4 = (u : Int) := ⟨(d % 4).toNat, by omega⟩
  cases v4 : ((z : Int) == 1)
  · cases v5 : ((x : Int) == (z : Int))
    · exact kshapes_FF w a b c d a0 a1 b0 b1 c0 c1 d0 d1 x y z u hx hy hz hu v4 v5
    · exact kshapes_FT w a b c d a0 a1 b0 b1 c0 c1 d0 d1 x y z u hx hy hz hu v4 v5
  · cases v5 : ((x : Int) == (z : Int))
    · exact kshapes_TF w a b c d a0 a1 b0 b1 c0 c1 d0 d1 x y z u hx hy hz hu v4 v5
    · exact kshapes_TT w a b c d a0 a1 b0 b1 c0 c1 d0 d1 x y z u hx hy hz hu v4 v5
end Go.Proofs.Ytmipefapjehkaaa
