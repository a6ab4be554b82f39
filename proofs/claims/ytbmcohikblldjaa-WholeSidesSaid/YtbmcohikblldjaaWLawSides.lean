/- The walk of WholeSides. (Written by gen24.py.) -/
import Derived.Test.YtbmcohikblldjaaWKnown
import Derived.Test.YtbmcohikblldjaaRWhoB
import Derived.Test.YtbmcohikblldjaaWhoSides
namespace Go.Proofs.Ytbmcohikblldjaa
open Go.RowKit
set_option linter.unusedVariables false
set_option linter.unusedSimpArgs false

set_option maxRecDepth 100000 in
set_option maxHeartbeats 8000000 in
theorem wsides_walk (a0 a1 : Int) (w0 : (Lit.int .u32 a0).wf = true) (w1 : (Lit.int .u8 a1).wf = true) (w : World) :
    Calls Try.prog 6 #[.int .u32 a0, .int .u8 a1] w fun e w' => e = .returned (.bool true) ∧ Grown w w' := by
  obtain ⟨b2, b3⟩ := bounds_u32 w0
  obtain ⟨b0, b1⟩ := bounds_u8 w1
  clear w0 w1
  have HG := Lib.hid (Grown.refl w)
  have HF := HG
  obtain ⟨n, hn⟩ : ∃ n, a1 % 12 = n := ⟨_, rfl⟩
  have n0 : 0 ≤ n := by omega
  have n1 : n ≤ 11 := by omega
  obtain ⟨x0, x1⟩ := mil_bd 2 a0 b2
  obtain ⟨y, y0, y1, k0, yf, ye⟩ := sides_scaled a0 n b2 n0 n1
  obtain ⟨X, hX⟩ : ∃ X, milI 2 a0 = X := ⟨_, rfl⟩
  rw [hX] at k0 x0 x1
  have HX := Lib.hid hX
  have K0 := Lib.hid k0
  have k1 := to_small 2 3 y yf ye
  have k2 := to_small 2 2 y yf ye
  have k3 := to_small 2 1 y yf ye
  have k4 := to_small 2 0 y yf ye
  have k5 := to_small 2 4 y yf ye
  obtain ⟨g1, g2⟩ := sides_five 2 y ye
  have bd3 : -16777216 ≤ whV 2 3 y ∧ whV 2 3 y ≤ 16777216 := by
    have := whn_small 2 3 y ye
    unfold whV; split <;> omega
  obtain ⟨bd3, bd2⟩ := bd3
  obtain ⟨D, hD⟩ : ∃ D, whV 2 3 y = D := ⟨_, rfl⟩
  obtain ⟨U, hU⟩ : ∃ U, whV 2 2 y = U := ⟨_, rfl⟩
  obtain ⟨Z, hZ⟩ : ∃ Z, whV 2 1 y = Z := ⟨_, rfl⟩
  obtain ⟨N, hN⟩ : ∃ N, whV 2 0 y = N := ⟨_, rfl⟩
  obtain ⟨H, hH⟩ : ∃ H, whV 2 4 y = H := ⟨_, rfl⟩
  obtain ⟨I, hI⟩ : ∃ I, whX 2 y = I := ⟨_, rfl⟩
  obtain ⟨s, hs⟩ : ∃ s, fS 2 y = s := ⟨_, rfl⟩
  have hsy : s = (y / 2147483648 == 1) := by
    rw [← hs]; unfold fS
    rw [show sgb 2 = 2147483648 from rfl, Bool.eq_iff_iff, beq_iff_eq, beq_iff_eq]; omega
  obtain ⟨T, hT⟩ : ∃ T, (y / 2147483648 == 1) = T := ⟨_, rfl⟩
  rw [hT] at hsy
  subst hsy
  rw [hI, hD, hU, hZ, hN, hH] at g1 g2
  rw [hs] at g2
  rw [hD] at k1 bd3 bd2
  rw [hU] at k2
  rw [hZ] at k3
  rw [hN] at k4
  rw [hH] at k5
  rw [hI] at k1 k2 k3 k4 k5
  have K1 := Lib.hid k1
  have K2 := Lib.hid k2
  have K3 := Lib.hid k3
  have K4 := Lib.hid k4
  have K5 := Lib.hid k5
  clear k0 k1 k2 k3 k4 k5 hD hU hZ hN hH hI hs hX
  cases I
  case false =>
    obtain ⟨rfl, rfl, rfl, rfl⟩ := g1 rfl
    clear g1 g2
    go_enter Try.func6, Try.ntmps6
    go_wp2_with (first
      | (go_at_call 7; refine (known8_any _).mono ?_; rintro e W1 ⟨rfl, hW1⟩; replace HG := Lib.hid (grown_trans HG.out hW1); clear hW1)
      | (go_at_call 8; refine (form8_any _ _ b0 b1).mono ?_; rintro e W2 ⟨he, hW2⟩; rw [HF.out] at he; subst he; replace HG := Lib.hid (grown_trans HG.out hW2); clear hW2)
      | (go_at_call 12; refine (mild_is _ _ _ (by omega) (by omega)).mono ?_; rintro e w' ⟨he, dm, rfl⟩; rw [HX.out] at he; subst he))
    go_wp2_with fail
    refine (rscale_any 2 0 X n _ x0 x1 (by omega) (by omega)).mono ?_
    rintro e V1 ⟨he, hW⟩
    rw [K0.out] at he
    (try unfold inxE at he)
    subst he
    replace HG := Lib.hid (show Grown w V1 from grown_trans (by repeat (first | with_reducible exact HG.out | with_reducible refine Grown.setCell ?_ (by simp <;> omega) _ | with_reducible refine Grown.alloc ?_ _ _ | with_reducible refine grown_more ?_ _)) hW)
    clear hW
    go_wp2_with fail
    refine (wtoint_any 2 3 y _ y0 y1).mono ?_
    rintro e V2 ⟨he, hW⟩
    rw [K1.out] at he
    (try unfold inxE at he)
    subst he
    have HY := Lib.hid (show Grown V1 V2 from grown_trans (by repeat (first | with_reducible exact Grown.refl _ | with_reducible refine Grown.setCell ?_ (by simp <;> omega) _ | with_reducible refine Grown.alloc ?_ _ _ | with_reducible refine grown_more ?_ _)) hW)
    have HB1 := Lib.hid (grown_new5 hW)
    clear HY
    replace HG := Lib.hid (show Grown w V2 from grown_trans (by repeat (first | with_reducible exact HG.out | with_reducible refine Grown.setCell ?_ (by simp <;> omega) _ | with_reducible refine Grown.alloc ?_ _ _ | with_reducible refine grown_more ?_ _)) hW)
    clear hW
    go_wp2_with fail
    refine (wtoint_any 2 2 y _ y0 y1).mono ?_
    rintro e V3 ⟨he, hW⟩
    rw [K2.out] at he
    (try unfold inxE at he)
    subst he
    have HY := Lib.hid (show Grown V2 V3 from grown_trans (by repeat (first | with_reducible exact Grown.refl _ | with_reducible refine Grown.setCell ?_ (by simp <;> omega) _ | with_reducible refine Grown.alloc ?_ _ _ | with_reducible refine grown_more ?_ _)) hW)
    replace HB1 := Lib.hid (HB1.out.grown HY.out)
    have HB2 := Lib.hid (grown_new5 hW)
    clear HY
    replace HG := Lib.hid (show Grown w V3 from grown_trans (by repeat (first | with_reducible exact HG.out | with_reducible refine Grown.setCell ?_ (by simp <;> omega) _ | with_reducible refine Grown.alloc ?_ _ _ | with_reducible refine grown_more ?_ _)) hW)
    clear hW
    go_wp2_with fail
    refine (wtoint_any 2 1 y _ y0 y1).mono ?_
    rintro e V4 ⟨he, hW⟩
    rw [K3.out] at he
    (try unfold inxE at he)
    subst he
    have HY := Lib.hid (show Grown V3 V4 from grown_trans (by repeat (first | with_reducible exact Grown.refl _ | with_reducible refine Grown.setCell ?_ (by simp <;> omega) _ | with_reducible refine Grown.alloc ?_ _ _ | with_reducible refine grown_more ?_ _)) hW)
    replace HB1 := Lib.hid (HB1.out.grown HY.out)
    replace HB2 := Lib.hid (HB2.out.grown HY.out)
    have HB3 := Lib.hid (grown_new5 hW)
    clear HY
    replace HG := Lib.hid (show Grown w V4 from grown_trans (by repeat (first | with_reducible exact HG.out | with_reducible refine Grown.setCell ?_ (by simp <;> omega) _ | with_reducible refine Grown.alloc ?_ _ _ | with_reducible refine grown_more ?_ _)) hW)
    clear hW
    go_wp2_with fail
    refine (wtoint_any 2 0 y _ y0 y1).mono ?_
    rintro e V5 ⟨he, hW⟩
    rw [K4.out] at he
    (try unfold inxE at he)
    subst he
    have HY := Lib.hid (show Grown V4 V5 from grown_trans (by repeat (first | with_reducible exact Grown.refl _ | with_reducible refine Grown.setCell ?_ (by simp <;> omega) _ | with_reducible refine Grown.alloc ?_ _ _ | with_reducible refine grown_more ?_ _)) hW)
    replace HB1 := Lib.hid (HB1.out.grown HY.out)
    replace HB2 := Lib.hid (HB2.out.grown HY.out)
    replace HB3 := Lib.hid (HB3.out.grown HY.out)
    have HB4 := Lib.hid (grown_new5 hW)
    clear HY
    replace HG := Lib.hid (show Grown w V5 from grown_trans (by repeat (first | with_reducible exact HG.out | with_reducible refine Grown.setCell ?_ (by simp <;> omega) _ | with_reducible refine Grown.alloc ?_ _ _ | with_reducible refine grown_more ?_ _)) hW)
    clear hW
    go_wp2_with fail
    refine (wtoint_any 2 4 y _ y0 y1).mono ?_
    rintro e V6 ⟨he, hW⟩
    rw [K5.out] at he
    (try unfold inxE at he)
    subst he
    have HY := Lib.hid (show Grown V5 V6 from grown_trans (by repeat (first | with_reducible exact Grown.refl _ | with_reducible refine Grown.setCell ?_ (by simp <;> omega) _ | with_reducible refine Grown.alloc ?_ _ _ | with_reducible refine grown_more ?_ _)) hW)
    replace HB1 := Lib.hid (HB1.out.grown HY.out)
    replace HB2 := Lib.hid (HB2.out.grown HY.out)
    replace HB3 := Lib.hid (HB3.out.grown HY.out)
    replace HB4 := Lib.hid (HB4.out.grown HY.out)
    have HB5 := Lib.hid (grown_new5 hW)
    clear HY
    replace HG := Lib.hid (show Grown w V6 from grown_trans (by repeat (first | with_reducible exact HG.out | with_reducible refine Grown.setCell ?_ (by simp <;> omega) _ | with_reducible refine Grown.alloc ?_ _ _ | with_reducible refine grown_more ?_ _)) hW)
    clear hW
    obtain ⟨z10, z11, z12, z13, z14, z15⟩ := HB1.out
    obtain ⟨z20, z21, z22, z23, z24, z25⟩ := HB2.out
    obtain ⟨z30, z31, z32, z33, z34, z35⟩ := HB3.out
    obtain ⟨z40, z41, z42, z43, z44, z45⟩ := HB4.out
    obtain ⟨z50, z51, z52, z53, z54, z55⟩ := HB5.out
    go_wp2
    go_ret
    exact ⟨rfl, by repeat (first | with_reducible exact HG.out | with_reducible refine Grown.setCell ?_ (by simp <;> omega) _ | with_reducible refine Grown.alloc ?_ _ _ | with_reducible refine grown_more ?_ _)⟩
  case true =>
    obtain ⟨rfl, hz, hn2, hh⟩ := g2 rfl
    have hw : IntKind.i32.wrap (D + 1) = D + 1 := by rw [IntKind.wrap_i32]; omega
    clear g1 g2
    have hD1 : (D == D + 1) = false := by simp only [beq_eq_false_iff_ne, ne_eq]; omega
    have hpar : N.tmod 2 = 0 ↔ N % 2 = 0 := by
      have := Int.mul_tdiv_add_tmod N 2
      constructor
      · omega
      · intro g; obtain ⟨k, hk⟩ : ∃ k, N = 2 * k := ⟨N / 2, by omega⟩
        rw [hk, Int.mul_tmod_right]
    obtain ⟨Q, hQ⟩ : ∃ Q, N.tmod 2 = Q := ⟨_, rfl⟩
    rw [hQ] at hpar
    have hN4 : ((N == D) = true) ∨ ((N == D) = false ∧ (N == D + 1) = true) := by simp only [beq_iff_eq, beq_eq_false_iff_ne, ne_eq]; omega
    have hH4 : ((H == N) = true) ∨ ((H == N) = false ∧ (Q == 0) = true ∧ ((H == D) = true ∨ ((H == D) = false ∧ (H == D + 1) = true))) := by simp only [beq_iff_eq, beq_eq_false_iff_ne, ne_eq]; omega
    clear hn2 hh hpar
    cases s
    all_goals
      simp only [Bool.false_eq_true, if_false, if_true] at hz
      subst hz
      rcases hN4 with e1 | ⟨e1, e2⟩
      all_goals
        rcases hH4 with e3 | ⟨e3, e4, e5 | ⟨e5, e6⟩⟩
        all_goals
          go_enter Try.func6, Try.ntmps6
          go_wp2_with (first
            | (go_at_call 7; refine (known8_any _).mono ?_; rintro e W1 ⟨rfl, hW1⟩; replace HG := Lib.hid (grown_trans HG.out hW1); clear hW1)
            | (go_at_call 8; refine (form8_any _ _ b0 b1).mono ?_; rintro e W2 ⟨he, hW2⟩; rw [HF.out] at he; subst he; replace HG := Lib.hid (grown_trans HG.out hW2); clear hW2)
            | (go_at_call 12; refine (mild_is _ _ _ (by omega) (by omega)).mono ?_; rintro e w' ⟨he, dm, rfl⟩; rw [HX.out] at he; subst he))
          go_wp2_with fail
          refine (rscale_any 2 0 X n _ x0 x1 (by omega) (by omega)).mono ?_
          rintro e V1 ⟨he, hW⟩
          rw [K0.out] at he
          (try unfold inxE at he)
          subst he
          replace HG := Lib.hid (show Grown w V1 from grown_trans (by repeat (first | with_reducible exact HG.out | with_reducible refine Grown.setCell ?_ (by simp <;> omega) _ | with_reducible refine Grown.alloc ?_ _ _ | with_reducible refine grown_more ?_ _)) hW)
          clear hW
          go_wp2_with fail
          refine (wtoint_any 2 3 y _ y0 y1).mono ?_
          rintro e V2 ⟨he, hW⟩
          rw [K1.out] at he
          (try unfold inxE at he)
          subst he
          have HY := Lib.hid (show Grown V1 V2 from grown_trans (by repeat (first | with_reducible exact Grown.refl _ | with_reducible refine Grown.setCell ?_ (by simp <;> omega) _ | with_reducible refine Grown.alloc ?_ _ _ | with_reducible refine grown_more ?_ _)) hW)
          have HB1 := Lib.hid (grown_new5 hW)
          clear HY
          replace HG := Lib.hid (show Grown w V2 from grown_trans (by repeat (first | with_reducible exact HG.out | with_reducible refine Grown.setCell ?_ (by simp <;> omega) _ | with_reducible refine Grown.alloc ?_ _ _ | with_reducible refine grown_more ?_ _)) hW)
          clear hW
          go_wp2_with fail
          refine (wtoint_any 2 2 y _ y0 y1).mono ?_
          rintro e V3 ⟨he, hW⟩
          rw [K2.out] at he
          (try unfold inxE at he)
          subst he
          have HY := Lib.hid (show Grown V2 V3 from grown_trans (by repeat (first | with_reducible exact Grown.refl _ | with_reducible refine Grown.setCell ?_ (by simp <;> omega) _ | with_reducible refine Grown.alloc ?_ _ _ | with_reducible refine grown_more ?_ _)) hW)
          replace HB1 := Lib.hid (HB1.out.grown HY.out)
          have HB2 := Lib.hid (grown_new5 hW)
          clear HY
          replace HG := Lib.hid (show Grown w V3 from grown_trans (by repeat (first | with_reducible exact HG.out | with_reducible refine Grown.setCell ?_ (by simp <;> omega) _ | with_reducible refine Grown.alloc ?_ _ _ | with_reducible refine grown_more ?_ _)) hW)
          clear hW
          go_wp2_with fail
          refine (wtoint_any 2 1 y _ y0 y1).mono ?_
          rintro e V4 ⟨he, hW⟩
          rw [K3.out] at he
          (try unfold inxE at he)
          subst he
          have HY := Lib.hid (show Grown V3 V4 from grown_trans (by repeat (first | with_reducible exact Grown.refl _ | with_reducible refine Grown.setCell ?_ (by simp <;> omega) _ | with_reducible refine Grown.alloc ?_ _ _ | with_reducible refine grown_more ?_ _)) hW)
          replace HB1 := Lib.hid (HB1.out.grown HY.out)
          replace HB2 := Lib.hid (HB2.out.grown HY.out)
          have HB3 := Lib.hid (grown_new5 hW)
          clear HY
          replace HG := Lib.hid (show Grown w V4 from grown_trans (by repeat (first | with_reducible exact HG.out | with_reducible refine Grown.setCell ?_ (by simp <;> omega) _ | with_reducible refine Grown.alloc ?_ _ _ | with_reducible refine grown_more ?_ _)) hW)
          clear hW
          go_wp2_with fail
          refine (wtoint_any 2 0 y _ y0 y1).mono ?_
          rintro e V5 ⟨he, hW⟩
          rw [K4.out] at he
          (try unfold inxE at he)
          subst he
          have HY := Lib.hid (show Grown V4 V5 from grown_trans (by repeat (first | with_reducible exact Grown.refl _ | with_reducible refine Grown.setCell ?_ (by simp <;> omega) _ | with_reducible refine Grown.alloc ?_ _ _ | with_reducible refine grown_more ?_ _)) hW)
          replace HB1 := Lib.hid (HB1.out.grown HY.out)
          replace HB2 := Lib.hid (HB2.out.grown HY.out)
          replace HB3 := Lib.hid (HB3.out.grown HY.out)
          have HB4 := Lib.hid (grown_new5 hW)
          clear HY
          replace HG := Lib.hid (show Grown w V5 from grown_trans (by repeat (first | with_reducible exact HG.out | with_reducible refine Grown.setCell ?_ (by simp <;> omega) _ | with_reducible refine Grown.alloc ?_ _ _ | with_reducible refine grown_more ?_ _)) hW)
          clear hW
          go_wp2_with fail
          refine (wtoint_any 2 4 y _ y0 y1).mono ?_
          rintro e V6 ⟨he, hW⟩
          rw [K5.out] at he
          (try unfold inxE at he)
          subst he
          have HY := Lib.hid (show Grown V5 V6 from grown_trans (by repeat (first | with_reducible exact Grown.refl _ | with_reducible refine Grown.setCell ?_ (by simp <;> omega) _ | with_reducible refine Grown.alloc ?_ _ _ | with_reducible refine grown_more ?_ _)) hW)
          replace HB1 := Lib.hid (HB1.out.grown HY.out)
          replace HB2 := Lib.hid (HB2.out.grown HY.out)
          replace HB3 := Lib.hid (HB3.out.grown HY.out)
          replace HB4 := Lib.hid (HB4.out.grown HY.out)
          have HB5 := Lib.hid (grown_new5 hW)
          clear HY
          replace HG := Lib.hid (show Grown w V6 from grown_trans (by repeat (first | with_reducible exact HG.out | with_reducible refine Grown.setCell ?_ (by simp <;> omega) _ | with_reducible refine Grown.alloc ?_ _ _ | with_reducible refine grown_more ?_ _)) hW)
          clear hW
          obtain ⟨z10, z11, z12, z13, z14, z15⟩ := HB1.out
          obtain ⟨z20, z21, z22, z23, z24, z25⟩ := HB2.out
          obtain ⟨z30, z31, z32, z33, z34, z35⟩ := HB3.out
          obtain ⟨z40, z41, z42, z43, z44, z45⟩ := HB4.out
          obtain ⟨z50, z51, z52, z53, z54, z55⟩ := HB5.out
          go_wp2
          go_ret
          exact ⟨rfl, by repeat (first | with_reducible exact HG.out | with_reducible refine Grown.setCell ?_ (by simp <;> omega) _ | with_reducible refine Grown.alloc ?_ _ _ | with_reducible refine grown_more ?_ _)⟩
end Go.Proofs.Ytbmcohikblldjaa
