/- Contracts of the differences: package sum's, the reference's. -/
import Derived.Test.YtheaeclojljecaaAdd
import Derived.Test.YtheaeclojljecaaRAdd
namespace Go.Proofs.Ytheaeclojljecaa
open Go.RowKit
set_option linter.unusedVariables false
set_option linter.unusedSimpArgs false

theorem add_shape (f mode a b : Int) : ∃ (v : Int) (b1 b2 b3 b4 b5 : Bool), addE f mode a b = .returned (.tuple #[.int .u32 v, .agg #[.bool b1, .bool b2, .bool b3, .bool b4, .bool b5]]) := by
  unfold addE
  (repeat' split)
  · exact ⟨_, _, _, _, _, _, rfl⟩
  · exact ⟨_, _, _, _, _, _, rfl⟩
  · exact ⟨_, _, _, _, _, _, rfl⟩
  · exact ⟨_, _, _, _, _, _, rfl⟩
  · exact fin_shape _ _ _ _ _ _

/-- Sub of any bits. -/
def subE (f mode a b : Int) : Ending := addE f mode a (xorI f b)

set_option maxHeartbeats 1000000 in
theorem ssub_any (f mode a b : Int) (w : World) (a0 : 0 ≤ a) (a1 : a ≤ 4294967295) (b0 : 0 ≤ b) (b1 : b ≤ 4294967295) :
    Calls Try.prog 67 #[.int .i64 f, .int .i64 mode, .int .u32 a, .int .u32 b] w fun e w' => e = subE f mode a b ∧ Grown w w' := by
  obtain ⟨x1, x2, x3, x4, x5⟩ := xor_parts f b b0 b1
  have HE := Lib.hid (exc_new w 57)
  have HG := Lib.hid (Grown.alloc (Grown.refl w) #[.bool false, .bool false, .bool false, .bool false, .bool false] 57)
  have HW := Lib.hid (fun w1 => sadd_any f mode a (xorI f b) w1 a0 a1 x4 x5)
  clear x1 x2 x3 x4 x5
  obtain ⟨v, g1, g2, g3, g4, g5, hR⟩ := add_shape f mode a (xorI f b)
  have HR := Lib.hid hR
  clear hR
  have hx : bits .xor .u32 b (zerI f true) = xorI f b := rfl
  go_enter Try.func67, Try.ntmps67
  go_wp2_with (first
    | (go_at_call 38; refine (zero_any _ _ _).mono ?_; rintro e w' ⟨rfl, rfl⟩)
    | (go_at_call 69; refine (HW.out _).mono ?_; rintro e W7 ⟨he, hW7⟩; rw [HR.out] at he; subst he; have HW7 := Lib.hid hW7; clear hW7; obtain ⟨xb, x0, x1, x2, x3, x4, z0, z1, z2, z3, z4⟩ := HE.out.grown HW7.out))
  (try simp only [Exit.inBlock, Exit.then])
  refine bodyPost_ret (v := .tuple #[.int .u32 v, .agg #[.bool g1, .bool g2, .bool g3, .bool g4, .bool g5]]) ?_ rfl ⟨HR.out.symm, ?_⟩
  · rw [results_tmp_cell rfl]
    go_simp
  · repeat refine Grown.setCell ?_ (by simp <;> omega) _
    exact grown_trans HG.out HW7.out

theorem one_cell (W : World) (a : Value) (u : TypeId) : (W.alloc (.cells #[a] u)).cell? ⟨W.heap.size, 0, none⟩ = some a := by go_simp

end Go.Proofs.Ytheaeclojljecaa
