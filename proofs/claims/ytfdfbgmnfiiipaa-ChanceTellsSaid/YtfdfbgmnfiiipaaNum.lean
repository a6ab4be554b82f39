/- The contract of the draws' numbers: some bits of the format, with memory made. -/
import Derived.Test.YtfdfbgmnfiiipaaRFmt
import Derived.Test.YtfdfbgmnfiiipaaWorld
import Derived.BigRegion
import Derived.Lib.SmallJoins
import Derived.Lib.Hide
import Derived.Handy
namespace Go.Proofs.Ytfdfbgmnfiiipaa
open Go.RowKit
set_option linter.unusedVariables false
set_option linter.unusedSimpArgs false

set_option maxHeartbeats 4000000 in
theorem num_any (f k : Int) (w : World) (h0 : 0 ≤ k) (h1 : k ≤ 4294967295) :
    Calls Try.prog 8 #[.int .i64 f, .int .u32 k] w fun e w' => (∃ x : Int, e = .returned (.int .u32 x) ∧ 0 ≤ x ∧ x ≤ 4294967295) ∧ Grown w w' := by
  have k0 : 0 ≤ k % 15 := by omega
  have k1 : k % 15 < 15 := by omega
  rcases fmt_cases f with ⟨rfl, hf⟩ | ⟨rfl, hf⟩ | ⟨⟨c0, c1⟩, hf⟩ <;> obtain ⟨e1, e2, e3, e4, e5, e6, e7, e8, e9⟩ := hf
  all_goals
    go_enter Try.func8, Try.ntmps8
    go_wp2_with (go_at_call 19; refine (rwidths_any _ _).mono ?_; rintro e w' ⟨rfl, rfl⟩)
    have z1 : IntKind.u32.wrap 3072 = 3072 := by decide
    have z2 : IntKind.u32.wrap 9216 = 9216 := by decide
    have z3 : IntKind.u32.wrap 384 = 384 := by decide
    have z4 : IntKind.u32.wrap 1152 = 1152 := by decide
    have z5 : IntKind.u32.wrap 25165824 = 25165824 := by decide
    have z6 : IntKind.u32.wrap 75497472 = 75497472 := by decide
    go_region
    generalize hW : (w.alloc _).drew = W
    have hG : Grown w W := hW ▸ (Grown.alloc (Grown.refl w) _ _).drew
    obtain ⟨X, hX, x0, x1⟩ := word_new hW (k % 15).toNat (by show _ < 15; omega) (by
      intro v hv
      simp only [List.mem_cons, List.not_mem_nil, or_false] at hv
      rcases hv with rfl | rfl | rfl | rfl | rfl | rfl | rfl | rfl | rfl | rfl | rfl | rfl | rfl | rfl | rfl <;> exact is_word _ rfl (by first | omega | decide | (rw [IntKind.wrap_u32]; omega)) (by first | omega | decide | (rw [IntKind.wrap_u32]; omega)))
    clear hW
    go_wp2
    go_quiet ((go_at_call 15; exact quiet_same (rmask_any _ _)))
    go_wp2_with (go_at_call 14; refine (rzero_any _ _ _).mono ?_; rintro e w' ⟨rfl, rfl⟩)
    all_goals
      go_ret
      exact ⟨is_word_bits _ _ _, grown_more hG _⟩
end Go.Proofs.Ytfdfbgmnfiiipaa
