/- The contract of the landed package chance: Narrow. -/
import Derived.Test.YtfdfbgmnfiiipaaChaPack
import Derived.Test.YtfdfbgmnfiiipaaCon
import Derived.Test.YtfdfbgmnfiiipaaBits
namespace Go.Proofs.Ytfdfbgmnfiiipaa
open Go.RowKit
set_option linter.unusedVariables false
set_option linter.unusedSimpArgs false

set_option maxHeartbeats 1000000 in
theorem hunit_any (f x sig : Int) (w : World) (x0 : -149 ≤ x) (x1 : x ≤ 255) (s0 : 0 ≤ sig) (s1 : sig < 16777216) :
    Calls Try.prog 23 #[.int .i64 f, .int .i64 x, .int .u64 sig] w fun e w' => e = .returned (.int .i64 (if x + lenI sig - 1 - fn f < lst f then lst f else x + lenI sig - 1 - fn f)) ∧ ∃ m, w' = w.drewN m := by
  have hz : zerI f false = 0 := rfl
  have hu := un_zero f
  have hfn : fn f ≤ 23 := by have := fn_bd f; omega
  have hl0 := len_nonneg sig
  have hl1 := len_le64 sig (by omega) (by omega)
  have hl := lst_bd f
  go_enter Try.func23, Try.ntmps23
  go_wp2_with (first
    | (go_at_call 44; refine (widths_any _ _).mono ?_; rintro e w' ⟨rfl, rfl⟩)
    | (go_at_call 45; refine (zero_any _ _ _).mono ?_; rintro e w' ⟨rfl, rfl⟩)
    | (go_at_call 22; refine (unpack_any _ _ _ (by omega) (by omega)).mono ?_; rintro e w' ⟨rfl, m, rfl⟩)
    | (go_at_call 46; refine (len_any _ _ (by omega) (by omega)).mono ?_; rintro e w' ⟨rfl, rfl⟩))
  all_goals
    go_ret
    exact ⟨rfl, _, rfl⟩

set_option maxHeartbeats 1000000 in
theorem hsplit_any (sig n : Int) (w : World) (s0 : 0 ≤ sig) (s1 : sig < 16777216) (n0 : 0 ≤ n) (n1 : n ≤ 1000) :
    Calls Try.prog 24 #[.int .u64 sig, .int .i64 n] w fun e w' => e = .returned (.tuple #[.int .u64 (shV (sig * 4294967296) n / 4294967296), .int .u32 (shV (sig * 4294967296) n % 4294967296)]) ∧ ∃ m, w' = w.drewN m := by
  obtain ⟨b0, b1⟩ := shV_bd (sig * 4294967296) n (by omega) (by omega)
  have e1 : IntKind.u64.wrap (sig * 4294967296) = sig * 4294967296 := by rw [IntKind.wrap_u64]; omega
  have e2 : IntKind.u32.wrap (shV (sig * 4294967296) n) = shV (sig * 4294967296) n % 4294967296 := by rw [IntKind.wrap_u32]
  go_enter Try.func24, Try.ntmps24
  go_wp2_with (go_at_call 47; refine (shift_any _ _ _ (by omega) (by omega) (by omega) (by omega)).mono ?_; rintro e w' ⟨rfl, m, rfl⟩)
  go_ret2
  exact ⟨rfl, _, rfl⟩

/-- Units and parts, as they are split. -/
theorem split_parts (M k : Nat) : shV ((M : Int) * 4294967296) k / 4294967296 = ((M / 2 ^ k : Nat) : Int) ∧ shV ((M : Int) * 4294967296) k % 4294967296 = ((M % 2 ^ k * 2 ^ 32 / 2 ^ k : Nat) : Int) := by
  have h : shV ((M : Int) * 4294967296) k = ((M * 2 ^ 32 / 2 ^ k : Nat) : Int) := by
    unfold shV
    rw [if_neg (by omega), Int.toNat_natCast, pow2_cast, Int.natCast_ediv]
    rfl
  have hp := p2 k
  have e := Nat.div_add_mod M (2 ^ k)
  have hr := Nat.mod_lt M hp
  have hx : M * 2 ^ 32 / 2 ^ k = M / 2 ^ k * 2 ^ 32 + M % 2 ^ k * 2 ^ 32 / 2 ^ k := by
    have : M * 2 ^ 32 = 2 ^ k * (M / 2 ^ k * 2 ^ 32) + M % 2 ^ k * 2 ^ 32 := by
      rw [← Nat.mul_assoc, ← Nat.add_mul, e]
    rw [this, Nat.mul_add_div hp]
  have hlt : M % 2 ^ k * 2 ^ 32 / 2 ^ k < 2 ^ 32 := by
    refine (Nat.div_lt_iff_lt_mul hp).2 ?_
    rw [Nat.mul_comm (2 ^ 32)]
    exact Nat.mul_lt_mul_of_pos_right hr (by decide)
  rw [h, hx]
  generalize M % 2 ^ k * 2 ^ 32 / 2 ^ k = B at hlt ⊢
  generalize M / 2 ^ k = A
  omega

set_option maxHeartbeats 2000000 in
theorem hnarrow_any (f a v : Int) (w : World) (a0 : 0 ≤ a) (a1 : a ≤ 4294967295) (v0 : 0 ≤ v) (v1 : v ≤ 4294967295) :
    Calls Try.prog 10 #[.int .i64 f, .int .u32 a, .int .u32 v] w fun e w' => e = .returned (.int .u32 (chaI f a v)) ∧ Grown w w' := by
  cases hf : finI 2 a
  · have HF := Lib.hid (show Ending.returned (.bool (finI 2 a)) = .returned (.bool false) by rw [hf])
    have HV := Lib.hid (show conV 2 f 0 a = chaI f a v by unfold chaI; rw [if_pos hf])
    clear hf
    go_enter Try.func10, Try.ntmps10
    go_wp2_with (first
      | (go_at_call 20; refine (finite_any _ _ _ (by omega) (by omega)).mono ?_; rintro e w' ⟨he, m, rfl⟩; rw [HF.out] at he; subst he)
      | (go_at_call 21; refine (cnarrow_any _ _ _ (by omega) (by omega)).mono ?_; rintro e W1 ⟨he, hW⟩; rw [HV.out] at he; subst he; have HG := Lib.hid hW; clear hW))
    go_ret
    exact ⟨rfl, by repeat (first | with_reducible exact grown_trans (by repeat (first | with_reducible exact Grown.refl _ | with_reducible refine Grown.drew ?_ | with_reducible refine grown_more ?_ _)) HG.out | with_reducible refine Grown.alloc ?_ _ _ | with_reducible refine Grown.setCell ?_ (by simp <;> omega) _ | with_reducible refine grown_more ?_ _ | with_reducible refine Grown.drew ?_)⟩
  · obtain ⟨k, hk0, hk1, hk2⟩ := cha_unit f a hf
    obtain ⟨q1, q2⟩ := par_is f a k hk1
    obtain ⟨m0, m1⟩ := unM_bd 2 a
    obtain ⟨e0, e1⟩ := unE_bd 2 a
    have hlu := lu_is f
    have hl := lst_bd f
    obtain ⟨M, hM⟩ : ∃ M : Nat, unM 2 a = M := ⟨(unM 2 a).toNat, by omega⟩
    obtain ⟨p1, p2'⟩ := split_parts M k
    rw [hM, Int.toNat_natCast] at q1 q2
    rw [← q1] at p1
    rw [← q2] at p2'
    have hkb : (keptN f (numN 2 a) : Int) ≤ M := by rw [q1]; exact_mod_cast Nat.div_le_self M (2 ^ k)
    have hpb : 0 ≤ (parN f (numN 2 a) : Int) ∧ (parN f (numN 2 a) : Int) < 4294967296 := by rw [← p2']; omega
    have hcp := cha_pack f v (fS 2 a) (numN 2 a)
    have hres : chaI f a v = rdV f 0 (fS 2 a) ((keptN f (numN 2 a) + (decide (v < (parN f (numN 2 a) : Int))).toNat) * 2 ^ (luN f + dN f (numN 2 a))) := by
      unfold chaI; rw [if_neg (by rw [hf]; decide), hcp]
    have hex : (unE 2 a + k + 10100).toNat = luN f + dN f (numN 2 a) := by omega
    rw [← hex] at hres
    obtain ⟨x, hx⟩ : ∃ x, unE 2 a = x := ⟨_, rfl⟩
    obtain ⟨s, hs⟩ : ∃ s, fS 2 a = s := ⟨_, rfl⟩
    obtain ⟨K, hK⟩ : ∃ K : Nat, keptN f (numN 2 a) = K := ⟨_, rfl⟩
    obtain ⟨P, hP⟩ : ∃ P : Int, (parN f (numN 2 a) : Int) = P := ⟨_, rfl⟩
    obtain ⟨m, hm⟩ : ∃ m : Int, (M : Int) = m := ⟨_, rfl⟩
    obtain ⟨C, hC⟩ : ∃ C : Int, (K : Int) = C := ⟨_, rfl⟩
    obtain ⟨j, hj⟩ : ∃ j : Int, (k : Int) = j := ⟨_, rfl⟩
    obtain ⟨R, hR⟩ : ∃ R : Int, chaI f a v = R := ⟨_, rfl⟩
    have HF := Lib.hid (show Ending.returned (.bool (finI 2 a)) = .returned (.bool true) by rw [hf])
    have HU := Lib.hid (show Ending.returned (.tuple #[.bool (fS 2 a), .int .i64 (unE 2 a), .int .u64 (unM 2 a)]) = .returned (.tuple #[.bool s, .int .i64 x, .int .u64 m]) by rw [hs, hx, hM, hm])
    rw [hx, hM, hm, hj] at hk2
    have HX := Lib.hid (show Ending.returned (.int .i64 (if x + lenI m - 1 - fn f < lst f then lst f else x + lenI m - 1 - fn f)) = .returned (.int .i64 (x + j)) by rw [hk2])
    rw [hm, hj, hK, hC] at p1
    rw [hm, hj, hP] at p2'
    have HS := Lib.hid (show Ending.returned (.tuple #[.int .u64 (shV (m * 4294967296) j / 4294967296), .int .u32 (shV (m * 4294967296) j % 4294967296)]) = .returned (.tuple #[.int .u64 C, .int .u32 P]) by rw [p1, p2'])
    rw [hR, hs, hK, hP, hx, hj] at hres
    have HP := Lib.hid (show ∀ c : Int, c = C + (decide (v < P)).toNat → rdV f 0 s (valN (clampE (x + j)) c false) = R by
      intro c hc
      rw [hres]
      have e1 : clampE (x + j) = x + j := by unfold clampE; rw [if_neg (by omega), if_neg (by omega)]
      have e2 : c.toNat = K + (decide (v < P)).toNat := by omega
      unfold valN
      rw [e1, e2]; simp)
    rw [hM, hm] at m0 m1
    rw [hK, hC, hm] at hkb
    rw [hP] at hpb
    rw [hx] at e0 e1
    have j0 : 0 ≤ j ∧ j ≤ 404 := by omega
    have c0 : 0 ≤ C := by omega
    obtain ⟨j0, j1⟩ := j0
    obtain ⟨r0, r1⟩ := hpb
    rw [hR]
    obtain ⟨u, hu⟩ : ∃ u, x + j = u := ⟨_, rfl⟩
    have hd : u - x = j := by omega
    have u0 : -149 ≤ u ∧ u ≤ 700 := by omega
    obtain ⟨u0, u1⟩ := u0
    rw [hu] at HX HP
    clear hu
    clear hf hk1 hk2 q1 q2 p1 p2' hcp hres hex hx hs hK hP hM hm hC hj hR hlu hl
    by_cases c : v < P
    · have HQ := Lib.hid (HP.out (C + 1) (by rw [decide_eq_true c]; rfl))
      have eq1 : IntKind.u64.wrap (C + 1) = C + 1 := by rw [IntKind.wrap_u64]; omega
      clear HP
      go_enter Try.func10, Try.ntmps10
      go_wp2_with (first
        | (go_at_call 20; refine (finite_any _ _ _ (by omega) (by omega)).mono ?_; rintro e w' ⟨he, m, rfl⟩; rw [HF.out] at he; subst he)
        | (go_at_call 22; refine (unpack_any _ _ _ (by omega) (by omega)).mono ?_; rintro e w' ⟨he, m, rfl⟩; rw [HU.out] at he; subst he)
        | (go_at_call 23; refine (hunit_any _ _ _ _ (by omega) (by omega) (by omega) (by omega)).mono ?_; rintro e w' ⟨he, m, rfl⟩; rw [HX.out] at he; subst he)
        | (go_at_call 24; refine (hsplit_any _ _ _ (by omega) (by omega) (by omega) (by omega)).mono ?_; rintro e w' ⟨he, m, rfl⟩; rw [HS.out] at he; subst he)
        | (go_at_call 25; refine (pack_any _ _ _ _ _ _ _ (by omega) (by omega) (by omega) (by omega)).mono ?_; rintro e W1 ⟨he, hW⟩; rw [← packE_is, HQ.out] at he; subst he; have HG := Lib.hid hW; clear hW))
      go_ret
      exact ⟨rfl, by repeat (first | with_reducible exact grown_trans (by repeat (first | with_reducible exact Grown.refl _ | with_reducible refine Grown.drew ?_ | with_reducible refine grown_more ?_ _)) HG.out | with_reducible refine Grown.alloc ?_ _ _ | with_reducible refine Grown.setCell ?_ (by simp <;> omega) _ | with_reducible refine grown_more ?_ _ | with_reducible refine Grown.drew ?_)⟩
    · have HQ := Lib.hid (HP.out C (by rw [decide_eq_false c]; simp))
      clear HP
      go_enter Try.func10, Try.ntmps10
      go_wp2_with (first
        | (go_at_call 20; refine (finite_any _ _ _ (by omega) (by omega)).mono ?_; rintro e w' ⟨he, m, rfl⟩; rw [HF.out] at he; subst he)
        | (go_at_call 22; refine (unpack_any _ _ _ (by omega) (by omega)).mono ?_; rintro e w' ⟨he, m, rfl⟩; rw [HU.out] at he; subst he)
        | (go_at_call 23; refine (hunit_any _ _ _ _ (by omega) (by omega) (by omega) (by omega)).mono ?_; rintro e w' ⟨he, m, rfl⟩; rw [HX.out] at he; subst he)
        | (go_at_call 24; refine (hsplit_any _ _ _ (by omega) (by omega) (by omega) (by omega)).mono ?_; rintro e w' ⟨he, m, rfl⟩; rw [HS.out] at he; subst he)
        | (go_at_call 25; refine (pack_any _ _ _ _ _ _ _ (by omega) (by omega) (by omega) (by omega)).mono ?_; rintro e W1 ⟨he, hW⟩; rw [← packE_is, HQ.out] at he; subst he; have HG := Lib.hid hW; clear hW))
      go_ret
      exact ⟨rfl, by repeat (first | with_reducible exact grown_trans (by repeat (first | with_reducible exact Grown.refl _ | with_reducible refine Grown.drew ?_ | with_reducible refine grown_more ?_ _)) HG.out | with_reducible refine Grown.alloc ?_ _ _ | with_reducible refine Grown.setCell ?_ (by simp <;> omega) _ | with_reducible refine grown_more ?_ _ | with_reducible refine Grown.drew ?_)⟩
end Go.Proofs.Ytfdfbgmnfiiipaa
