/- The walk of WholeBack. -/
import Derived.Test.YtbmcohikblldjaaWKnown
import Derived.Test.YtbmcohikblldjaaWhoLaw
namespace Go.Proofs.Ytbmcohikblldjaa
open Go.RowKit
set_option linter.unusedVariables false
set_option linter.unusedSimpArgs false

/-- What is moved out fits the format. -/
theorem moved_fits (f v : Int) (h0 : -2147483648 ≤ v) (h1 : v ≤ 2147483647) : -(2 ^ (fn f - 1) : Nat) ≤ v / 2 ^ (32 - fn f) ∧ v / 2 ^ (32 - fn f) ≤ (2 ^ (fn f - 1) : Nat) := by
  rcases fmt_cases f with ⟨rfl, hf⟩ | ⟨rfl, hf⟩ | ⟨⟨c0, c1⟩, hf⟩ <;> obtain ⟨e1, e2, e3, e4, e5, e6, e7, e8, e9⟩ := hf <;> rw [e2]
  · rw [show (2 : Int) ^ (32 - 10) = 4194304 by decide, show (2 : Nat) ^ (10 - 1) = 512 by decide]; omega
  · rw [show (2 : Int) ^ (32 - 7) = 33554432 by decide, show (2 : Nat) ^ (7 - 1) = 64 by decide]; omega
  · rw [show (2 : Int) ^ (32 - 23) = 512 by decide, show (2 : Nat) ^ (23 - 1) = 4194304 by decide]; omega

set_option maxRecDepth 100000 in
set_option maxHeartbeats 8000000 in
theorem wback_walk (a0 a1 a2 a3 : Int) (w0 : (Lit.int .u8 a0).wf = true) (w1 : (Lit.int .u8 a1).wf = true) (w2 : (Lit.int .i32 a2).wf = true) (w3 : (Lit.int .u8 a3).wf = true) (w : World) :
    Calls Try.prog 4 #[.int .u8 a0, .int .u8 a1, .int .i32 a2, .int .u8 a3] w fun e w' => e = .returned (.bool true) ∧ Grown w w' := by
  obtain ⟨b0, b1⟩ := bounds_u8 w0
  obtain ⟨b2, b3⟩ := bounds_u8 w1
  obtain ⟨b4, b5⟩ := bounds_i32 w2
  obtain ⟨b6, b7⟩ := bounds_u8 w3
  clear w0 w1 w2 w3
  have HG := Lib.hid (Grown.refl w)
  obtain ⟨F, hF⟩ : ∃ F, a0 % 3 = F := ⟨_, rfl⟩
  have HF := Lib.hid hF
  clear hF
  obtain ⟨M, hM⟩ : ∃ M, a1 % 5 = M := ⟨_, rfl⟩
  obtain ⟨n, hn⟩ : ∃ n, a3 % 4 = n := ⟨_, rfl⟩
  have n0 : 0 ≤ n := by omega
  have n1 : n ≤ 3 := by omega
  obtain ⟨f0, f1⟩ := moved_fits F a2 (by omega) (by omega)
  obtain ⟨i, hi⟩ : ∃ i, a2 / 2 ^ (32 - fn F) = i := ⟨_, rfl⟩
  rw [hi] at f0 f1
  obtain ⟨a, d, x0, x1, y0, y1, k1, k2, k3, k4, k5⟩ := back_all F M i n f0 f1 n0 n1
  have hfn := fn_bd F
  have hp22 : (2 : Nat) ^ (fn F - 1) ≤ 2 ^ 22 := Nat.pow_le_pow_right (by decide) (by omega)
  have e22 : (2 : Nat) ^ 22 = 4194304 := by decide
  have i0 : -4194304 ≤ i := by omega
  have i1 : i ≤ 4194304 := by omega
  clear f0 f1 hp22 e22
  obtain ⟨N, hN⟩ : ∃ N : Nat, fn F = N := ⟨_, rfl⟩
  rw [hN] at hi hfn
  have K1 := Lib.hid k1
  have K2 := Lib.hid k2
  have K3 := Lib.hid k3
  have K4 := Lib.hid k4
  have K5 := Lib.hid k5
  clear k1 k2 k3 k4 k5
  go_enter Try.func4, Try.ntmps4
  go_wp2_with (first
    | (go_at_call 7; refine (known8_any _).mono ?_; rintro e W1 ⟨rfl, hW1⟩; replace HG := Lib.hid (grown_trans HG.out hW1); clear hW1)
    | (go_at_call 8; refine (form8_any _ _ b0 b1).mono ?_; rintro e W2 ⟨he, hW2⟩; rw [HF.out] at he; subst he; replace HG := Lib.hid (grown_trans HG.out hW2); clear hW2)
    | (go_at_call 19; refine (rwidths_any _ _).mono ?_; rintro e w' ⟨rfl, rfl⟩))
  -- the calls
  go_wp2_with fail
  refine (wfromint_any F M i _ (by omega) (by omega)).mono ?_
  rintro e V1 ⟨he, hW⟩
  rw [K1.out] at he
  (try unfold inxE at he)
  subst he
  replace HG := Lib.hid (show Grown w V1 from grown_trans (by repeat (first | with_reducible exact HG.out | with_reducible refine Grown.setCell ?_ (by simp <;> omega) _ | with_reducible refine Grown.alloc ?_ _ _ | with_reducible refine grown_more ?_ _)) hW)
  clear hW
  go_wp2_with fail
  refine (wtoint_any F M a _ x0 x1).mono ?_
  rintro e V2 ⟨he, hW⟩
  rw [K5.out] at he
  (try unfold inxE at he)
  subst he
  have HY := Lib.hid (show Grown V1 V2 from grown_trans (by repeat (first | with_reducible exact Grown.refl _ | with_reducible refine Grown.setCell ?_ (by simp <;> omega) _ | with_reducible refine Grown.alloc ?_ _ _ | with_reducible refine grown_more ?_ _)) hW)
  have HB1 := Lib.hid (grown_new5 hW)
  clear HY
  replace HG := Lib.hid (show Grown w V2 from grown_trans (by repeat (first | with_reducible exact HG.out | with_reducible refine Grown.setCell ?_ (by simp <;> omega) _ | with_reducible refine Grown.alloc ?_ _ _ | with_reducible refine grown_more ?_ _)) hW)
  clear hW
  go_wp2_with fail
  refine (wround_any F M a _ x0 x1).mono ?_
  rintro e V3 ⟨he, hW⟩
  rw [K2.out] at he
  (try unfold inxE at he)
  subst he
  have HY := Lib.hid (show Grown V2 V3 from grown_trans (by repeat (first | with_reducible exact Grown.refl _ | with_reducible refine Grown.setCell ?_ (by simp <;> omega) _ | with_reducible refine Grown.alloc ?_ _ _ | with_reducible refine grown_more ?_ _)) hW)
  replace HB1 := Lib.hid (HB1.out.grown HY.out)
  have HB2 := Lib.hid (grown_new5 hW)
  clear HY
  replace HG := Lib.hid (show Grown w V3 from grown_trans (by repeat (first | with_reducible exact HG.out | with_reducible refine Grown.setCell ?_ (by simp <;> omega) _ | with_reducible refine Grown.alloc ?_ _ _ | with_reducible refine grown_more ?_ _)) hW)
  clear hW
  go_wp2_with fail
  refine (wscale_any F M a n _ x0 x1 (by omega) (by omega)).mono ?_
  rintro e V4 ⟨he, hW⟩
  rw [K3.out] at he
  (try unfold inxE at he)
  subst he
  have HY := Lib.hid (show Grown V3 V4 from grown_trans (by repeat (first | with_reducible exact Grown.refl _ | with_reducible refine Grown.setCell ?_ (by simp <;> omega) _ | with_reducible refine Grown.alloc ?_ _ _ | with_reducible refine grown_more ?_ _)) hW)
  replace HB1 := Lib.hid (HB1.out.grown HY.out)
  replace HB2 := Lib.hid (HB2.out.grown HY.out)
  have HB3 := Lib.hid (grown_new5 hW)
  clear HY
  replace HG := Lib.hid (show Grown w V4 from grown_trans (by repeat (first | with_reducible exact HG.out | with_reducible refine Grown.setCell ?_ (by simp <;> omega) _ | with_reducible refine Grown.alloc ?_ _ _ | with_reducible refine grown_more ?_ _)) hW)
  clear hW
  go_wp2_with fail
  refine (wscale_any F M d (-n) _ y0 y1 (by omega) (by omega)).mono ?_
  rintro e V5 ⟨he, hW⟩
  rw [K4.out] at he
  (try unfold inxE at he)
  subst he
  have HY := Lib.hid (show Grown V4 V5 from grown_trans (by repeat (first | with_reducible exact Grown.refl _ | with_reducible refine Grown.setCell ?_ (by simp <;> omega) _ | with_reducible refine Grown.alloc ?_ _ _ | with_reducible refine grown_more ?_ _)) hW)
  replace HB1 := Lib.hid (HB1.out.grown HY.out)
  replace HB2 := Lib.hid (HB2.out.grown HY.out)
  replace HB3 := Lib.hid (HB3.out.grown HY.out)
  have HB4 := Lib.hid (grown_new5 hW)
  clear HY
  replace HG := Lib.hid (show Grown w V5 from grown_trans (by repeat (first | with_reducible exact HG.out | with_reducible refine Grown.setCell ?_ (by simp <;> omega) _ | with_reducible refine Grown.alloc ?_ _ _ | with_reducible refine grown_more ?_ _)) hW)
  clear hW
  obtain ⟨z10, z11, z12, z13, z14, z15⟩ := HB1.out
  obtain ⟨z20, z21, z22, z23, z24, z25⟩ := HB2.out
  obtain ⟨z30, z31, z32, z33, z34, z35⟩ := HB3.out
  obtain ⟨z40, z41, z42, z43, z44, z45⟩ := HB4.out
  go_wp2
  go_ret
  exact ⟨rfl, by repeat (first | with_reducible exact HG.out | with_reducible refine Grown.setCell ?_ (by simp <;> omega) _ | with_reducible refine Grown.alloc ?_ _ _ | with_reducible refine grown_more ?_ _)⟩
end Go.Proofs.Ytbmcohikblldjaa
