/- The contracts of the reference's FromInt, ToInt, Round, Scale. -/
import Derived.Test.YtbmcohikblldjaaWhoMath
import Derived.Test.YtbmcohikblldjaaRRdT
import Derived.Test.YtbmcohikblldjaaWorld
import Derived.KernelRfl
import Derived.StillTailTactics
import Derived.Handy
namespace Go.Proofs.Ytbmcohikblldjaa
open Go.RowKit
set_option linter.unusedVariables false
set_option linter.unusedSimpArgs false

theorem w_one_new (W : World) (a : Value) (u : TypeId) : (W.alloc (.cells #[a] u)).cell? ⟨W.heap.size, 0, none⟩ = some a := by go_simp

theorem ret_bub {p q p' q' : Bool} {a b : Int} (h : p = p') (g : a = b) (i : q = q') : Ending.returned (.tuple #[.bool p, .int .u64 a, .bool q]) = .returned (.tuple #[.bool p', .int .u64 b, .bool q']) := by rw [h, g, i]

theorem pack_agg (f mode : Int) (n : Bool) (V : Nat) : PackE f mode n V = .returned (.tuple #[.int .u32 (rdV f mode n V), .agg #[.bool false, .bool false, .bool (rdO f mode n V), .bool (rdU f V), .bool (rdX f mode n V)]]) := rfl

set_option maxRecDepth 100000 in
set_option maxHeartbeats 2000000 in
theorem runits_any (f mode a : Int) (w : World) (a0 : 0 ≤ a) (a1 : a ≤ 4294967295) :
    Calls Try.prog 30 #[.int .i64 f, .int .i64 mode, .int .u32 a] w fun e w' => e = .returned (.tuple #[.bool (fS f a), .int .u64 (unU f mode a), .bool (whX f a)]) ∧ ∃ m, w' = w.drewN m := by
  obtain ⟨e0, e1⟩ := unE_bd f a
  obtain ⟨m0, m1⟩ := unM_bd f a
  obtain ⟨u0, u1, -⟩ := unu_is f mode a
  by_cases c : 0 ≤ unE f a
  · have hx : whX f a = false := by unfold whX; simp; omega
    have hu : unU f mode a = if 39 < unE f a ∧ 0 < unM f a then 4611686018427387904 else unM f a * 2 ^ (unE f a).toNat := by
      unfold unU; rw [whn_up f mode a c]
    obtain ⟨x, hX⟩ : ∃ x, unE f a = x := ⟨_, rfl⟩
    obtain ⟨p, hP⟩ : ∃ p, unM f a = p := ⟨_, rfl⟩
    obtain ⟨s, hs⟩ : ∃ s, fS f a = s := ⟨_, rfl⟩
    have HU := Lib.hid (show Ending.returned (.tuple #[.bool (fS f a), .int .i64 (unE f a), .int .u64 (unM f a)]) = .returned (.tuple #[.bool s, .int .i64 x, .int .u64 p]) by rw [hs, hX, hP])
    rw [hX, hP] at hu
    rw [hX] at e0 e1 c
    rw [hP] at m0 m1
    have HX := Lib.hid hx
    have HUU := Lib.hid hu
    have HS := Lib.hid hs
    clear hx hs hX hP
    by_cases c1 : 39 < x ∧ 0 < p
    · rw [if_pos c1] at hu
      have c1a := c1.1
      have c1b := c1.2
      have HV := Lib.hid hu
      clear hu c1
      go_enter Try.func30, Try.ntmps30
      go_wp2_with (go_at_call 33; refine (runpack_any _ _ _ a0 a1).mono ?_; rintro e w' ⟨he, dm, rfl⟩; rw [HU.out] at he; subst he)
      go_ret3
      exact ⟨ret_bub HS.out.symm HV.out.symm HX.out.symm, _, rfl⟩
    · rw [if_neg c1] at hu
      have hcase : 39 < x ∧ p = 0 ∨ x ≤ 39 := by omega
      clear c1
      have HV := Lib.hid hu
      rcases hcase with ⟨c2, rfl⟩ | c2
      · clear hu
        go_enter Try.func30, Try.ntmps30
        go_wp2_with (go_at_call 33; refine (runpack_any _ _ _ a0 a1).mono ?_; rintro e w' ⟨he, dm, rfl⟩; rw [HU.out] at he; subst he)
        go_quiet (fail)
        go_wp2
        go_ret3
        exact ⟨ret_bub HS.out.symm (by rw [HV.out]; simp) HX.out.symm, by first | exact ⟨_, rfl⟩ | exact ⟨_, World.drewN_drewN _ _ _⟩⟩
      · have hw : IntKind.u64.wrap (p * 2 ^ x.toNat) = p * 2 ^ x.toNat := u64w _ (by omega) (by omega)
        clear hu
        go_enter Try.func30, Try.ntmps30
        go_wp2_with (go_at_call 33; refine (runpack_any _ _ _ a0 a1).mono ?_; rintro e w' ⟨he, dm, rfl⟩; rw [HU.out] at he; subst he)
        go_quiet (fail)
        go_wp2
        go_ret3
        exact ⟨ret_bub HS.out.symm (by rw [HV.out]) HX.out.symm, by first | exact ⟨_, rfl⟩ | exact ⟨_, World.drewN_drewN _ _ _⟩⟩
  · obtain ⟨s', hs'⟩ : ∃ k : Nat, k = (-unE f a).toNat := ⟨_, rfl⟩
    obtain ⟨M, hM⟩ : ∃ M : Nat, M = (unM f a).toNat := ⟨_, rfl⟩
    have hMi : unM f a = (M : Int) := by omega
    have hsi : -unE f a = (s' : Int) := by omega
    have hMb : (M : Int) < 16777216 := by omega
    obtain ⟨k1, k2, k3⟩ := dv_whole M s' (by omega) (by omega) (by omega)
    have hQl := Nat.div_le_self M (2 ^ s')
    have hcb := cat_bd s' M
    have hu : unU f mode a = ((M / 2 ^ s' : Nat) : Int) + ((growB mode (fS f a) (M / 2 ^ s') (catU s' M)).toNat : Int) := by
      unfold unU; rw [if_neg (by omega)]
      unfold whN; rw [if_neg c, ← hs', ← hM]; omega
    have hx : whX f a = (dvH M s' || dvR M s') := by
      unfold whX; rw [← hs', ← hM, k2, k3, show decide (unE f a < 0) = true by simp; omega, Bool.true_and, Bool.eq_iff_iff, Bool.or_eq_true, decide_eq_true_eq, decide_eq_true_eq, bne_iff_ne]
      omega
    have hg := up_grow mode (fS f a) (M / 2 ^ s') (catU s' M) (dvH M s') (dvR M s') hcb k2 k3
    obtain ⟨Q, hQ⟩ : ∃ Q, M / 2 ^ s' = Q := ⟨_, rfl⟩
    rw [hQ] at hQl k1 hu hg
    have hand := and_one (dvK (M : Int) s') (by omega) (by omega)
    have hkb : 0 ≤ dvK (M : Int) s' ∧ dvK (M : Int) s' ≤ 16777216 := by omega
    rw [← k1] at hg
    rw [← k1, ← hg] at hu
    obtain ⟨x, hX⟩ : ∃ x, unE f a = x := ⟨_, rfl⟩
    obtain ⟨s, hs⟩ : ∃ s, fS f a = s := ⟨_, rfl⟩
    have HU := Lib.hid (show Ending.returned (.tuple #[.bool (fS f a), .int .i64 (unE f a), .int .u64 (unM f a)]) = .returned (.tuple #[.bool s, .int .i64 x, .int .u64 (M : Int)]) by rw [hs, hX, hMi])
    rw [hs] at hu
    obtain ⟨K, hK⟩ : ∃ K, dvK (M : Int) s' = K := ⟨_, rfl⟩
    obtain ⟨H, hH⟩ : ∃ H, dvH (M : Int) s' = H := ⟨_, rfl⟩
    obtain ⟨R, hR⟩ : ∃ R, dvR (M : Int) s' = R := ⟨_, rfl⟩
    have HD := Lib.hid (show Ending.returned (.tuple #[.int .u64 (dvK (M : Int) s'), .bool (dvH (M : Int) s'), .bool (dvR (M : Int) s')]) = .returned (.tuple #[.int .u64 K, .bool H, .bool R]) by rw [hK, hH, hR])
    rw [hK] at hand hkb
    rw [hK, hH, hR] at hu
    rw [hH, hR] at hx
    obtain ⟨O, hO⟩ : ∃ O, (K % 2 == 1) = O := ⟨_, rfl⟩
    rw [hO] at hu
    obtain ⟨B, hB⟩ : ∃ B, bits .and .u64 K 1 = B := ⟨_, rfl⟩
    rw [← hand, hB] at hO
    obtain ⟨G, hG⟩ : ∃ G, upB mode s O H R = G := ⟨_, rfl⟩
    rw [hG] at hu
    rw [hX] at e0 e1 c hsi
    obtain ⟨P, hP⟩ : ∃ P : Int, (M : Int) = P := ⟨_, rfl⟩
    obtain ⟨j, hj⟩ : ∃ j : Int, (s' : Int) = j := ⟨_, rfl⟩
    rw [hP] at HU hMb
    rw [hP, hj] at HD
    rw [hj] at hsi
    have hP0 : 0 ≤ P := by omega
    have HX := Lib.hid hx
    have HV := Lib.hid hu
    have HS := Lib.hid hs
    have HGr := Lib.hid hG
    have hw1 : IntKind.u64.wrap (K + 1) = K + 1 := u64w _ (by omega) (by omega)
    clear hand hx hu hs hG k1 k2 k3 hg hK hH hR hX hM hMi hs' hQ hQl hP hj
    cases G
    all_goals
     cases H
     all_goals
      go_enter Try.func30, Try.ntmps30
      go_wp2_with (first
        | (go_at_call 33; refine (runpack_any _ _ _ a0 a1).mono ?_; rintro e w' ⟨he, dm, rfl⟩; rw [HU.out] at he; subst he)
        | (go_at_call 50; refine (rdivide_any _ _ _ (by omega) (by omega) (by omega) (by omega)).mono ?_; rintro e w' ⟨he, rfl⟩; rw [HD.out] at he; subst he)
        | (go_at_call 51; refine (rup_any _ _ _ _ _ _).mono ?_; rintro e w' ⟨he, rfl⟩; rw [HGr.out] at he; subst he))
      go_ret3
      exact ⟨ret_bub HS.out.symm (by rw [HV.out]; simp) (by rw [HX.out]; simp), _, rfl⟩
end Go.Proofs.Ytbmcohikblldjaa
