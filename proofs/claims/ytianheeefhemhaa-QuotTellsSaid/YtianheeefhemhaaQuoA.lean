/- Contracts of package quot: a number's parts, a number raised. -/
import Derived.Test.YtianheeefhemhaaRows
import Derived.Test.YtianheeefhemhaaFmt
import Derived.Test.YtianheeefhemhaaBits
import Derived.Test.YtianheeefhemhaaWorld
import Derived.Test.YtianheeefhemhaaPOne
import Derived.Test.YtianheeefhemhaaFuMath
import Derived.KernelRfl
import Derived.StillTailTactics
namespace Go.Proofs.Ytianheeefhemhaa
open Go.RowKit
set_option linter.unusedVariables false
set_option linter.unusedSimpArgs false

set_option maxHeartbeats 400000 in
theorem qunpack_any (f v : Int) (w : World) (h0 : 0 ≤ v) (h1 : v ≤ 4294967295) :
    Calls Try.prog 25 #[.int .i64 f, .int .u32 v] w fun e w' => e = .returned (.agg #[.bool (fS f v), .int .i64 (unE f v), .int .u64 (unM f v)]) ∧ Grown w w' := by
  go_enter Try.func25, Try.ntmps25
  go_wp2_with (go_at_call 43; refine (unpack_any _ _ _ h0 h1).mono ?_; rintro e w' ⟨rfl, m, rfl⟩)
  (try simp only [Exit.inBlock, Exit.then])
  refine bodyPost_ret (v := .agg #[.bool (fS f v), .int .i64 (unE f v), .int .u64 (unM f v)]) ?_ rfl ⟨rfl, ?_⟩
  · rw [results_one rfl]
    go_simp
  · repeat refine Grown.setCell ?_ (by simp <;> omega) _
    exact grown_more (Grown.alloc (Grown.refl _) _ _) _

/-- How far a number is raised: to 64 bits, or one fewer, so that its exponent is even. -/
theorem raise_up (e M : Int) (m0 : 0 < M) (m1 : M < 16777216) : ∃ (L R : Int) (i : Nat), lenI M = L ∧ cutI (IntKind.u64.wrap (e - (64 - L))) 1 = R ∧ 1 ≤ L ∧ L ≤ 24 ∧ (R = 0 ∨ R = 1) ∧ (i : Int) = 64 - L - R
    ∧ (e - (i : Int)) % 2 = 0 ∧ 4611686018427387904 ≤ M * 2 ^ i ∧ M * 2 ^ i ≤ 18446744073709551615 := by
  have hl := len_log M m0
  have h24 := len_bd M 24 (by omega) (by omega)
  obtain ⟨k, rfl⟩ := Int.eq_ofNat_of_zero_le (Int.le_of_lt m0)
  rw [Int.toNat_natCast] at hl
  have hk : k ≠ 0 := by omega
  have a := Nat.log2_self_le hk
  have b := Nat.lt_log2_self (n := k)
  generalize k.log2 = l at *
  obtain ⟨L, hL⟩ : ∃ L, lenI (k : Int) = L := ⟨_, rfl⟩
  rw [hL] at hl h24
  obtain ⟨R, hR⟩ : ∃ R, cutI (IntKind.u64.wrap (e - (64 - L))) 1 = R := ⟨_, rfl⟩
  have hR2 : R = (e - (64 - L)) % 2 := by
    rw [← hR, IntKind.wrap_u64]
    unfold cutI
    simp only [show (1 : Int).toNat = 1 from rfl, Int.pow_one]
    omega
  refine ⟨L, R, (64 - L - R).toNat, hL, hR, by omega, by omega, by omega, by omega, by omega, ?_, ?_⟩
  · have e1 : (2 : Int) ^ l ≤ k := by rw [pow2_cast]; exact_mod_cast a
    have hi : 62 ≤ l + (64 - L - R).toNat := by omega
    have h1 : (2 : Int) ^ l * 2 ^ (64 - L - R).toNat ≤ k * 2 ^ (64 - L - R).toNat := Int.mul_le_mul_of_nonneg_right e1 (Int.le_of_lt (pow2_pos _))
    rw [← Int.pow_add] at h1
    have h2 : (2 : Int) ^ 62 ≤ 2 ^ (l + (64 - L - R).toNat) := pow2_le hi
    have e62 : (2 : Int) ^ 62 = 4611686018427387904 := by decide
    omega
  · have e1 : (k : Int) ≤ 2 ^ (l + 1) - 1 := by rw [pow2_cast]; omega
    have hi : l + 1 + (64 - L - R).toNat ≤ 64 := by omega
    have h1 : (k : Int) * 2 ^ (64 - L - R).toNat ≤ (2 ^ (l + 1) - 1) * 2 ^ (64 - L - R).toNat := Int.mul_le_mul_of_nonneg_right e1 (Int.le_of_lt (pow2_pos _))
    rw [Int.sub_mul, ← Int.pow_add] at h1
    have h2 : (2 : Int) ^ (l + 1 + (64 - L - R).toNat) ≤ 2 ^ 64 := pow2_le hi
    have e64 : (2 : Int) ^ 64 = 18446744073709551616 := by decide
    have := pow2_pos (64 - L - R).toNat
    omega

set_option maxHeartbeats 1000000 in
theorem qraise_is (n : Bool) (e M L R T : Int) (i : Nat) (w : World) (e0 : -400 ≤ e) (e1 : e ≤ 400) (m0 : 0 < M) (m1 : M ≤ 18446744073709551615) (hL : Hid (lenI M = L)) (hR : Hid (cutI (IntKind.u64.wrap (e - (64 - L))) 1 = R)) (l0 : 1 ≤ L) (l1 : L ≤ 24)
    (hr : R = 0 ∨ R = 1) (hi : (i : Int) = 64 - L - R) (hT : Hid (IntKind.u64.wrap (M * 2 ^ i) = T)) :
    Calls Try.prog 29 #[.agg #[.bool n, .int .i64 e, .int .u64 M]] w fun e' w' => e' = .returned (.agg #[.bool n, .int .i64 (e - (i : Int)), .int .u64 T]) ∧ Grown w w' := by
  have hw0 := (u64w_bd (e - (64 - L))).1
  have hw1 := (u64w_bd (e - (64 - L))).2
  obtain ⟨Z, hZ⟩ : ∃ Z, IntKind.u64.wrap (e - (64 - L)) = Z := ⟨_, rfl⟩
  rw [hZ] at hw0 hw1
  have HR := hR
  rw [hZ] at HR
  have hT2 := hT.out
  rcases hr with rfl | rfl
  · rw [show i = (64 - L).toNat by omega] at hT2
    have hgoal : (i : Int) = 64 - L := by omega
    rw [hgoal]
    go_enter Try.func29, Try.ntmps29
    go_wp2_with (first
      | (go_at_call 46; refine (len_any _ _ (by omega) (by omega)).mono ?_; rintro e w' ⟨he, rfl⟩; rw [hL.out] at he; subst he)
      | (go_at_call 47; refine (cut_any _ _ _ (by omega) (by omega)).mono ?_; rintro e w' ⟨he, rfl⟩; rw [HR.out] at he; subst he))
    refine wp_region_still_tail 11 (by kernel_rfl) (by kernel_rfl) ?_
    simp only [List.take_succ_cons, List.take_zero, List.drop_succ_cons, List.drop_zero]
    change wpStill _ _ (World.drew _) (fun a' => wpList _ _ _ _ a' (World.drew _)) _ _
    repeat (first | still_step)
    try refine wpStill_nil ?_
    go_wp2
    (try simp only [Exit.inBlock, Exit.then])
    refine bodyPost_ret (v := .agg #[.bool n, .int .i64 (e - (64 - L)), .int .u64 T]) ?_ rfl ⟨rfl, ?_⟩
    · rw [results_one rfl]
      go_simp
    · exact (Grown.alloc (Grown.alloc (Grown.refl w) _ _) _ _).drew
  · rw [show i = (64 - L).toNat - 1 by omega] at hT2
    have hgoal : (i : Int) = 64 - L - 1 := by omega
    rw [hgoal]
    go_enter Try.func29, Try.ntmps29
    go_wp2_with (first
      | (go_at_call 46; refine (len_any _ _ (by omega) (by omega)).mono ?_; rintro e w' ⟨he, rfl⟩; rw [hL.out] at he; subst he)
      | (go_at_call 47; refine (cut_any _ _ _ (by omega) (by omega)).mono ?_; rintro e w' ⟨he, rfl⟩; rw [HR.out] at he; subst he))
    refine wp_region_still_tail 11 (by kernel_rfl) (by kernel_rfl) ?_
    simp only [List.take_succ_cons, List.take_zero, List.drop_succ_cons, List.drop_zero]
    change wpStill _ _ (World.drew _) (fun a' => wpList _ _ _ _ a' (World.drew _)) _ _
    repeat (first | still_step)
    try refine wpStill_nil ?_
    go_wp2
    (try simp only [Exit.inBlock, Exit.then])
    refine bodyPost_ret (v := .agg #[.bool n, .int .i64 (e - (64 - L - 1)), .int .u64 T]) ?_ rfl ⟨rfl, ?_⟩
    · rw [results_one rfl]
      go_simp
    · exact (Grown.alloc (Grown.alloc (Grown.refl w) _ _) _ _).drew

theorem qraise_any (n : Bool) (e M : Int) (e0 : -400 ≤ e) (e1 : e ≤ 400) (m0 : 0 < M) (m1 : M < 16777216) :
    ∃ i : Nat, 39 ≤ i ∧ i ≤ 63 ∧ (e - (i : Int)) % 2 = 0 ∧ 4611686018427387904 ≤ M * 2 ^ i ∧ M * 2 ^ i ≤ 18446744073709551615 ∧
      ∀ w, Calls Try.prog 29 #[.agg #[.bool n, .int .i64 e, .int .u64 M]] w fun e' w' => e' = .returned (.agg #[.bool n, .int .i64 (e - (i : Int)), .int .u64 (M * 2 ^ i)]) ∧ Grown w w' := by
  obtain ⟨L, R, i, hL, hR, l0, l1, hr, hi, h2, h3, h4⟩ := raise_up e M m0 m1
  exact ⟨i, by omega, by omega, h2, h3, h4, fun w => qraise_is n e M L R _ i w e0 e1 m0 (by omega) hL hR l0 l1 hr hi (u64w _ (by omega) h4)⟩
end Go.Proofs.Ytianheeefhemhaa
