/- Contracts of the differences: package sum's, the reference's. -/
import Derived.Test.YtheaeclojljecaaGreatAdd
import Derived.Test.YtheaeclojljecaaGreatRAdd
namespace Go.Proofs.YtheaeclojljecaaGreat
open Go.RowKit
set_option linter.unusedVariables false
set_option linter.unusedSimpArgs false

theorem add_shape (f mode a b : Int) : ∃ (v : Int) (b1 b2 b3 b4 b5 : Bool), addE f mode a b = .returned (.tuple #[.int .u32 v, .agg #[.bool b1, .bool b2, .bool b3, .bool b4, .bool b5]]) := by
  unfold addE
  (repeat' split)
  · exact ⟨_, _, _, _, _, _, rfl⟩
  · exact ⟨_, _, _, _, _, _, rfl⟩
  · exact ⟨_, _, _, _, _, _, rfl⟩
  · exact ⟨_, _, _, _, _, _, rfl⟩
  · exact fin_shape _ _ _ _ _ _

def subE (f mode a b : Int) : Ending := addE f mode a (xorI f b)

set_option maxHeartbeats 1000000 in
theorem ssub_any (f mode a b : Int) (w : World) (a0 : 0 ≤ a) (a1 : a ≤ 4294967295) (b0 : 0 ≤ b) (b1 : b ≤ 4294967295) :
    Calls Tryz.prog 106 #[.int .i64 f, .int .i64 mode, .int .u32 a, .int .u32 b] w fun e w' => e = subE f mode a b ∧ Grown w w' := by
  obtain ⟨x1, x2, x3, x4, x5⟩ := xor_parts f b b0 b1
  have HE := Lib.hid (exc_new w 41)
  have HG := Lib.hid (Grown.alloc (Grown.refl w) #[.bool false, .bool false, .bool false, .bool false, .bool false] 41)
  have HW := Lib.hid (fun w1 => sadd_any f mode a (xorI f b) w1 a0 a1 x4 x5)
  clear x1 x2 x3 x4 x5
  obtain ⟨v, g1, g2, g3, g4, g5, hR⟩ := add_shape f mode a (xorI f b)
  have HR := Lib.hid hR
  clear hR
  have hx : bits .xor .u32 b (zerI f true) = xorI f b := rfl
  go_enter Tryz.func106, Tryz.ntmps106
  go_wp2_with (first
    | (go_at_call 60; refine (zero_any _ _ _).mono ?_; rintro e w' ⟨rfl, rfl⟩)
    | (go_at_call 108; refine (HW.out _).mono ?_; rintro e W7 ⟨he, hW7⟩; rw [HR.out] at he; subst he; have HW7 := Lib.hid hW7; clear hW7; obtain ⟨xb, x0, x1, x2, x3, x4, z0, z1, z2, z3, z4⟩ := HE.out.grown HW7.out))
  (try simp only [Exit.inBlock, Exit.then])
  refine bodyPost_ret (v := .tuple #[.int .u32 v, .agg #[.bool g1, .bool g2, .bool g3, .bool g4, .bool g5]]) ?_ rfl ⟨HR.out.symm, ?_⟩
  · rw [results_tmp_cell rfl]
    go_simp
  · repeat refine Grown.setCell ?_ (by simp <;> omega) _
    exact grown_trans HG.out HW7.out

theorem one_cell (W : World) (a : Value) (u : TypeId) : (W.alloc (.cells #[a] u)).cell? ⟨W.heap.size, 0, none⟩ = some a := by go_simp

set_option maxHeartbeats 1000000 in
theorem rminus_any (f v : Int) (w : World) (h0 : 0 ≤ v) (h1 : v ≤ 4294967295) :
    Calls Tryz.prog 25 #[.int .i64 f, .int .u32 v] w fun e w' => e = .returned (.int .u32 (minI f v)) ∧ Grown w w' := by
  have HC := Lib.hid (one_cell w (.int .u32 v) 22)
  have HG := Lib.hid (Grown.alloc (Grown.refl w) #[.int .u32 v] 22)
  obtain ⟨NN, hNN⟩ : ∃ NN, nanB f v = NN := ⟨_, rfl⟩
  have HNN := Lib.hid hNN
  have HM := Lib.hid (show minI f v = if NN = true then bits .and .u32 v (msk f) else bits .and .u32 (bits .xor .u32 v (zerI f true)) (msk f) by unfold minI; rw [hNN]; rfl)
  clear hNN
  cases NN
  case true =>
    have HQ := Lib.hid (HM.out.trans (if_pos rfl))
    clear HM
    go_enter Tryz.func25, Tryz.ntmps25
    go_wp2_with fail
    generalize (w.alloc _) = W4 at HG HC ⊢
    have y0 := HC.out
    refine (nans1_any f v _ _ h0 h1 y0).mono ?_
    rintro e w' ⟨he, m, rfl⟩
    rw [HNN.out] at he
    subst he
    clear y0
    go_wp2_with (first
      | (go_at_call 28; refine (rmask_any _ _).mono ?_; rintro e w' ⟨rfl, rfl⟩))
    go_ret
    exact ⟨ret_int HQ.out.symm, grown_more HG.out _⟩
  case false =>
    have HQ := Lib.hid (HM.out.trans (if_neg (by decide)))
    clear HM
    go_enter Tryz.func25, Tryz.ntmps25
    go_wp2_with fail
    generalize (w.alloc _) = W4 at HG HC ⊢
    have y0 := HC.out
    refine (nans1_any f v _ _ h0 h1 y0).mono ?_
    rintro e w' ⟨he, m, rfl⟩
    rw [HNN.out] at he
    subst he
    clear y0
    go_wp2_with (first
      | (go_at_call 54; refine (rsign_any _ _ _).mono ?_; rintro e w' ⟨rfl, rfl⟩)
      | (go_at_call 28; refine (rmask_any _ _).mono ?_; rintro e w' ⟨rfl, rfl⟩))
    go_ret
    exact ⟨ret_int HQ.out.symm, grown_more HG.out _⟩

set_option maxHeartbeats 1000000 in
theorem rsub_any (f mode a b : Int) (w : World) (a0 : 0 ≤ a) (a1 : a ≤ 4294967295) (b0 : 0 ≤ b) (b1 : b ≤ 4294967295) :
    Calls Tryz.prog 80 #[.int .i64 f, .int .i64 mode, .int .u32 a, .int .u32 b] w fun e w' => e = subE f mode a b ∧ Grown w w' := by
  obtain ⟨x4, x5⟩ := min_bd f b b0 b1
  have HS := Lib.hid (sub_alike f mode a b b0 b1)
  have HE := Lib.hid (exc_new w 41)
  have HG := Lib.hid (Grown.alloc (Grown.refl w) #[.bool false, .bool false, .bool false, .bool false, .bool false] 41)
  have HW := Lib.hid (fun w1 => radd_any f mode a (minI f b) w1 a0 a1 x4 x5)
  clear x4 x5
  obtain ⟨v, g1, g2, g3, g4, g5, hR⟩ := add_shape f mode a (minI f b)
  have HR := Lib.hid hR
  clear hR
  go_enter Tryz.func80, Tryz.ntmps80
  go_wp2_with (first
    | (go_at_call 25; refine (rminus_any _ _ _ b0 b1).mono ?_; rintro e W6 ⟨rfl, hW6⟩; have HW6 := Lib.hid hW6; clear hW6)
    | (go_at_call 81; refine (HW.out _).mono ?_; rintro e W7 ⟨he, hW7⟩; rw [HR.out] at he; subst he; have HW7 := Lib.hid (grown_trans HW6.out hW7); clear hW7; obtain ⟨xb, x0, x1, x2, x3, x4, z0, z1, z2, z3, z4⟩ := HE.out.grown HW7.out))
  (try simp only [Exit.inBlock, Exit.then])
  refine bodyPost_ret (v := .tuple #[.int .u32 v, .agg #[.bool g1, .bool g2, .bool g3, .bool g4, .bool g5]]) ?_ rfl ⟨HR.out.symm.trans HS.out, ?_⟩
  · rw [results_tmp_cell rfl]
    go_simp
  · repeat refine Grown.setCell ?_ (by simp <;> omega) _
    exact grown_trans HG.out HW7.out
end Go.Proofs.YtheaeclojljecaaGreat
