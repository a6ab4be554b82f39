/- The reference's FromInt of one. -/
import Derived.Test.YtianheeefhemhaaRows
import Derived.Test.YtianheeefhemhaaPLaw
import Derived.Test.YtianheeefhemhaaRRdT
import Derived.Test.YtianheeefhemhaaWorld
namespace Go.Proofs.Ytianheeefhemhaa
open Go.RowKit
set_option linter.unusedVariables false
set_option linter.unusedSimpArgs false

set_option maxHeartbeats 1000000 in
theorem rone_any (f mode : Int) (w : World) :
    Calls Try.prog 15 #[.int .i64 f, .int .i64 mode, .int .i64 1] w fun e w' => e = .returned (.tuple #[.int .u32 (oneI f), .agg #[.bool false, .bool false, .bool false, .bool false, .bool false]]) ∧ Grown w w' := by
  have HE := Lib.hid (exc_new w 29)
  have HG := Lib.hid (Grown.alloc (Grown.refl w) #[.bool false, .bool false, .bool false, .bool false, .bool false] 29)
  have HP := Lib.hid (one_pack f mode)
  have h1 : IntKind.u64.wrap 1 = 1 := by decide
  go_enter Try.func15, Try.ntmps15
  go_wp2_with (go_at_call 36; refine (rpack_any _ _ _ _ _ _ _ (by omega) (by omega) (by omega) (by omega)).mono ?_; rintro e W1 ⟨he, hW1⟩; rw [HP.out] at he; unfold excE at he; subst he; have HW1 := Lib.hid hW1; clear hW1; obtain ⟨xb, x0, x1, x2, x3, x4, z0, z1, z2, z3, z4⟩ := HE.out.grown HW1.out)
  (try simp only [Exit.inBlock, Exit.then])
  refine bodyPost_ret (v := .tuple #[.int .u32 (oneI f), .agg #[.bool false, .bool false, .bool false, .bool false, .bool false]]) ?_ rfl ⟨rfl, ?_⟩
  · rw [results_tmp_cell rfl]
    go_simp
  · have HGW := Lib.hid (grown_trans HG.out HW1.out)
    repeat (first | with_reducible exact HGW.out | with_reducible refine Grown.setCell ?_ (by simp <;> omega) _ | with_reducible refine Grown.alloc ?_ _ _ | with_reducible refine grown_more ?_ _)
end Go.Proofs.Ytianheeefhemhaa
