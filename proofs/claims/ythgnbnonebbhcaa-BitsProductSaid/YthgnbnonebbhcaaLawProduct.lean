/- The walk of BitsProduct. -/
import Derived.Test.YthgnbnonebbhcaaLawTurn
namespace Go.Proofs.Ythgnbnonebbhcaa
open Go.RowKit
set_option linter.unusedVariables false

set_option maxHeartbeats 1000000 in
theorem product_walk (a0 : Int) (a1 : Int) (w0 : (Lit.int .u64 a0).wf = true) (w1 : (Lit.int .u64 a1).wf = true) (w : World) :
    Calls Try.prog 8 #[.int .u64 a0, .int .u64 a1] w fun e w' => e = .returned (.bool true) ∧ Grown w w' := by
  obtain ⟨b0, b1⟩ := bounds_u64 w0
  obtain ⟨b2, b3⟩ := bounds_u64 w1
  clear w0 w1
  have p0 := prod_bd a0 a1 b0 b1 b2 b3
  have p1 := prod_bd a0 (a1 / 2) b0 b1 (by omega) (by omega)
  have ha := and_one a1 b2 b3
  obtain ⟨t1, t2⟩ := prod_twice a0 a1 b0 b1 b2 b3
  have hd := prod_double a0 a1
  have hb := Int.mul_nonneg b0 b2
  have hl : a0 * a1 ≤ 18446744073709551615 * 18446744073709551615 := Int.mul_le_mul b1 b3 b2 (by omega)
  have hX := Int.mul_nonneg b0 (show 0 ≤ a1 / 2 by omega)
  have c1 := prodH_comm a0 a1
  have c2 := prodL_comm a0 a1
  by_cases odd : a1 % 2 = 1
  · have o : (a1 % 2 == 1) = true := by rw [odd]; rfl
    rw [odd, Int.mul_one] at hd
    have e2 : IntKind.u64.wrap (IntKind.u64.wrap (prodL a0 (a1 / 2) * 2) + a0) = prodL a0 a1 := by
      rw [t2, IntKind.wrap_u64]; unfold prodL; rw [hd]
      generalize a0 * (a1 / 2) = X at *
      omega
    by_cases carry : prodL a0 a1 < IntKind.u64.wrap (prodL a0 (a1 / 2) * 2)
    · obtain ⟨V, hV⟩ : ∃ V, V = (2 * (a0 * (a1 / 2))) / 18446744073709551616 := ⟨_, rfl⟩
      rw [← hV] at t1
      have e3 : IntKind.u64.wrap (V + 1) = prodH a0 a1 := by
        rw [t2] at carry
        unfold prodL at carry; unfold prodH at p0 ⊢
        rw [hV, IntKind.wrap_u64]; rw [hd] at *
        generalize a0 * (a1 / 2) = X at *
        omega
      clear hd hb hl hX t2 odd hV
      go_enter Try.func8, Try.ntmps8
      go_wp2_with (first
        | (go_at_call 9; refine (known_any _).mono ?_; rintro e w' ⟨rfl, m, rfl⟩)
        | (go_at_call 20; refine (product_any _ _ _ (by omega) (by omega) (by omega) (by omega)).mono ?_; rintro e w' ⟨rfl, rfl⟩))
      go_ret
      exact ⟨rfl, grown_drewN _ _⟩
    · have e1 : bits .or .u64 (IntKind.u64.wrap (prodH a0 (a1 / 2) * 2)) (prodL a0 (a1 / 2) / 9223372036854775808) = prodH a0 a1 := by
        rw [t1]
        rw [t2] at carry
        unfold prodL at carry; unfold prodH
        rw [hd] at *
        generalize a0 * (a1 / 2) = X at *
        omega
      clear hd hb hl hX t1 t2 odd
      go_enter Try.func8, Try.ntmps8
      go_wp2_with (first
        | (go_at_call 9; refine (known_any _).mono ?_; rintro e w' ⟨rfl, m, rfl⟩)
        | (go_at_call 20; refine (product_any _ _ _ (by omega) (by omega) (by omega) (by omega)).mono ?_; rintro e w' ⟨rfl, rfl⟩))
      go_ret
      exact ⟨rfl, grown_drewN _ _⟩
  · have o : (a1 % 2 == 1) = false := by rw [beq_eq_false_iff_ne]; exact odd
    rw [show a1 % 2 = 0 by omega, Int.mul_zero, Int.add_zero] at hd
    have e1 : bits .or .u64 (IntKind.u64.wrap (prodH a0 (a1 / 2) * 2)) (prodL a0 (a1 / 2) / 9223372036854775808) = prodH a0 a1 := by
      rw [t1]; unfold prodH; rw [hd]
    have e2 : IntKind.u64.wrap (prodL a0 (a1 / 2) * 2) = prodL a0 a1 := by
      rw [t2]; unfold prodL; rw [hd]
    clear hd hb hl hX t1 t2 odd
    go_enter Try.func8, Try.ntmps8
    go_wp2_with (first
      | (go_at_call 9; refine (known_any _).mono ?_; rintro e w' ⟨rfl, m, rfl⟩)
      | (go_at_call 20; refine (product_any _ _ _ (by omega) (by omega) (by omega) (by omega)).mono ?_; rintro e w' ⟨rfl, rfl⟩))
    go_ret
    exact ⟨rfl, grown_drewN _ _⟩
end Go.Proofs.Ythgnbnonebbhcaa
