/- Contracts of the differences: package sum's, the reference's. -/
import Derived.Test.YtkaoppmighinbaaAdd
import Derived.Test.YtkaoppmighinbaaRAdd
namespace Go.Proofs.Ytkaoppmighinbaa
open Go.RowKit
set_option linter.unusedVariables false
set_option linter.unusedSimpArgs false

theorem add_shape (f mode a b : Int) : ∃ (v : Int) (b1 b2 b3 b4 b5 : Bool), addE f mode a b = .returned (.tuple #[.int .u32 v, .agg #[.bool b1, .bool b2, .bool b3, .bool b4, .bool b5]]) := by
  unfold addE
  (repeat' split)
  · exact ⟨_, _, _, _, _, _, rfl⟩
  · exact ⟨_, _, _, _, _, _, rfl⟩
  · exact ⟨_, _, _, _, _, _, rfl⟩
  · exact ⟨_, _, _, _, _, _, rfl⟩
  · exact fin_shape _ _ _ _ _ _
/-- Sub of any bits. -/
def subE (f mode a b : Int) : Ending := addE f mode a (xorI f b)

theorem one_cell (W : World) (a : Value) (u : TypeId) : (W.alloc (.cells #[a] u)).cell? ⟨W.heap.size, 0, none⟩ = some a := by go_simp

set_option maxHeartbeats 1000000 in
theorem rminus_any (f v : Int) (w : World) (h0 : 0 ≤ v) (h1 : v ≤ 4294967295) :
    Calls Try.prog 14 #[.int .i64 f, .int .u32 v] w fun e w' => e = .returned (.int .u32 (minI f v)) ∧ Grown w w' := by
  have HC := Lib.hid (one_cell w (.int .u32 v) 22)
  have HG := Lib.hid (Grown.alloc (Grown.refl w) #[.int .u32 v] 22)
  obtain ⟨NN, hNN⟩ : ∃ NN, nanB f v = NN := ⟨_, rfl⟩
  have HNN := Lib.hid hNN
  have HM := Lib.hid (show minI f v = if NN = true then bits .and .u32 v (msk f) else bits .and .u32 (bits .xor .u32 v (zerI f true)) (msk f) by unfold minI; rw [hNN]; rfl)
  clear hNN
  cases NN
  case true =>
    have HQ := Lib.hid (HM.out.trans (if_pos rfl))
    clear HM
    go_enter Try.func14, Try.ntmps14
    go_wp2_with fail
    generalize (w.alloc _) = W4 at HG HC ⊢
    have y0 := HC.out
    refine (nans1_any f v _ _ h0 h1 y0).mono ?_
    rintro e w' ⟨he, m, rfl⟩
    rw [HNN.out] at he
    subst he
    clear y0
    go_wp2_with (first
      | (go_at_call 23; refine (rmask_any _ _).mono ?_; rintro e w' ⟨rfl, rfl⟩))
    go_ret
    exact ⟨ret_int HQ.out.symm, grown_more HG.out _⟩
  case false =>
    have HQ := Lib.hid (HM.out.trans (if_neg (by decide)))
    clear HM
    go_enter Try.func14, Try.ntmps14
    go_wp2_with fail
    generalize (w.alloc _) = W4 at HG HC ⊢
    have y0 := HC.out
    refine (nans1_any f v _ _ h0 h1 y0).mono ?_
    rintro e w' ⟨he, m, rfl⟩
    rw [HNN.out] at he
    subst he
    clear y0
    go_wp2_with (first
      | (go_at_call 38; refine (rsign_any _ _ _).mono ?_; rintro e w' ⟨rfl, rfl⟩)
      | (go_at_call 23; refine (rmask_any _ _).mono ?_; rintro e w' ⟨rfl, rfl⟩))
    go_ret
    exact ⟨ret_int HQ.out.symm, grown_more HG.out _⟩

end Go.Proofs.Ytkaoppmighinbaa
