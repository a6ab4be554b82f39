/- The contract of the reference's Chance. -/
import Derived.Test.YtfdfbgmnfiiipaaChaMath
import Derived.Test.YtfdfbgmnfiiipaaRCon
import Derived.Test.YtfdfbgmnfiiipaaRefs
import Derived.Laws.Shifts
namespace Go.Proofs.Ytfdfbgmnfiiipaa
open Go.RowKit
set_option linter.unusedVariables false
set_option linter.unusedSimpArgs false

/-- A number of the format; beyond its greatest; between two of its numbers. -/
theorem cha_ways (f a : Int) : (conX 2 f 1 a = false) ∨ (conX 2 f 1 a = true ∧ finI 2 a = true ∧ conO 2 f 1 a = true ∧ greN f < baseN f (numN 2 a)) ∨ (conX 2 f 1 a = true ∧ finI 2 a = true ∧ conO 2 f 1 a = false ∧ baseN f (numN 2 a) ≤ greN f ∧ catN f (numN 2 a) ≠ 0) := by
  by_cases c : conX 2 f 1 a = false
  · exact .inl c
  · have hx : conX 2 f 1 a = true := by simpa using c
    right
    have hf : finI 2 a = true := by
      rcases three_kinds 2 a with ⟨n, i, _⟩ | ⟨n, i, _⟩ | ⟨_, _, h, _⟩
      · unfold conX at hx; rw [n] at hx; simp at hx
      · unfold conX at hx; rw [n, i] at hx; simp at hx
      · exact h
    have hi := (con_of_fin 2 f 1 a hf).2
    rw [hx] at hi
    obtain ⟨n, i⟩ := fin_kind 2 a hf
    have ho : conO 2 f 1 a = decide (greN f < baseN f (numN 2 a)) := by
      unfold conO rdO
      rw [n, i, plc_base]
      simp [growB]
    have hi2 : greN f < baseN f (numN 2 a) ∨ catN f (numN 2 a) ≠ 0 := by
      have := hi.symm
      unfold inexB at this
      rw [Bool.or_eq_true, decide_eq_true_eq, bne_iff_ne] at this
      exact this
    by_cases c2 : greN f < baseN f (numN 2 a)
    · exact .inl ⟨hx, hf, by rw [ho]; exact decide_eq_true c2, c2⟩
    · exact .inr ⟨hx, hf, by rw [ho]; exact decide_eq_false c2, by omega, by omega⟩

set_option maxHeartbeats 400000 in
theorem rsgn_cha (f : Int) (w : World) :
    Calls Try.prog 31 #[.int .i64 f] w fun e w' => e = .returned (.int .u32 (zerI f true)) ∧ w = w' := by
  go_enter Try.func31, Try.ntmps31
  go_wp2_with (go_at_call 14; refine (rzero_any _ _ _).mono ?_; rintro e w' ⟨rfl, rfl⟩)
  go_ret
  exact ⟨rfl, rfl⟩

set_option maxRecDepth 100000 in
set_option maxHeartbeats 4000000 in
theorem rchance_narrow (f a v : Int) (wd : World) (a0 : 0 ≤ a) (a1 : a ≤ 4294967295) (h : nanB 2 a = true ∨ conX 2 f 1 a = false) :
    Calls Try.prog 11 #[.int .i64 f, .int .u32 a, .int .u32 v] wd fun e w' => e = .returned (.int .u32 (conV 2 f 0 a)) ∧ Grown wd w' := by
  have h3 := cls_three 2 a
  obtain ⟨C, hC⟩ : ∃ C, clsI 2 a = C := ⟨_, rfl⟩
  rw [hC] at h3
  have HC := Lib.hid hC
  obtain ⟨X, hX⟩ : ∃ X, conX 2 f 1 a = X := ⟨_, rfl⟩
  have HR := Lib.hid (show conE 2 f 1 a = .returned (.tuple #[.int .u32 (conV 2 f 1 a), .agg #[.bool (sigB 2 a), .bool false, .bool (conO 2 f 1 a), .bool (conU 2 f a), .bool X]]) by unfold conE; rw [hX])
  generalize sigB 2 a = g1 at HR
  generalize conO 2 f 1 a = g2 at HR
  generalize conU 2 f a = g3 at HR
  generalize conV 2 f 1 a = L at HR
  clear hC
  have hway : C = 4 ∨ C = 5 ∨ ((C == 4) = false ∧ (C == 5) = false ∧ X = false) := by
    rcases h3 with ⟨e, _, _⟩ | ⟨e, _, _⟩ | ⟨c4, c5, n, _⟩
    · exact .inl e
    · exact .inr (.inl e)
    · refine .inr (.inr ⟨c4, c5, ?_⟩)
      rcases h with h | h
      · rw [n] at h; exact absurd h (by decide)
      · rw [← hX]; exact h
  clear h3 h hX
  rcases hway with rfl | rfl | ⟨c4, c5, rfl⟩
  all_goals
      go_enter Try.func11, Try.ntmps11
      go_wp2_with fail
      refine (rto_any 2 f 1 a _ a0 a1).mono ?_
      rintro e W1 ⟨he, hW⟩
      rw [HR.out] at he
      subst he
      have HG := Lib.hid hW
      clear hW
      go_wp2_with (first
        | (go_at_call 16; refine (rclass_any _ _ _ (by omega) (by omega)).mono ?_; rintro e w' ⟨he, dm, rfl⟩; rw [HC.out] at he; subst he)
        | (go_at_call 26; refine (rnarrow_any _ _ _ (by omega) (by omega)).mono ?_; rintro e W3 ⟨he, hW⟩; subst he; replace HG := Lib.hid (show Grown wd W3 from grown_trans (by repeat (first | with_reducible exact HG.out | with_reducible refine Grown.setCell ?_ (by simp <;> omega) _ | with_reducible refine Grown.alloc ?_ _ _ | with_reducible refine grown_more ?_ _ | with_reducible refine Grown.drew ?_)) hW); clear hW)
        | (go_at_call 27; refine (runpack_any _ _ _ (by omega) (by omega)).mono ?_; rintro e w' ⟨he, dm, rfl⟩; (first | rw [HUa.out] at he | rw [HUl.out] at he); subst he)
        | (go_at_call 19; refine (rwidths_any _ _).mono ?_; rintro e w' ⟨rfl, rfl⟩)
        | (go_at_call 28; refine (rlen_any _ _ (by omega) (by omega)).mono ?_; rintro e w' ⟨rfl, rfl⟩)
        | (go_at_call 29; refine (rinf_any _ _ _).mono ?_; rintro e w' ⟨rfl, dm, rfl⟩)
        | (go_at_call 30; refine (rshift_any _ _ _ (by omega) (by omega) (by omega) (by omega)).mono ?_; rintro e w' ⟨rfl, rfl⟩)
        | (go_at_call 31; refine (rsgn_cha _ _).mono ?_; rintro e w' ⟨rfl, rfl⟩))
      go_ret
      exact ⟨rfl, by repeat (first | with_reducible exact HG.out | with_reducible refine Grown.setCell ?_ (by simp <;> omega) _ | with_reducible refine Grown.alloc ?_ _ _ | with_reducible refine grown_more ?_ _ | with_reducible refine Grown.drew ?_)⟩

set_option maxRecDepth 100000 in
set_option maxHeartbeats 4000000 in
theorem rchance_over (f a v : Int) (wd : World) (a0 : 0 ≤ a) (a1 : a ≤ 4294967295) (h : conX 2 f 1 a = true) (hf : finI 2 a = true) (ho : conO 2 f 1 a = true) (hb : greN f < baseN f (numN 2 a)) :
    Calls Try.prog 11 #[.int .i64 f, .int .u32 a, .int .u32 v] wd fun e w' => e = .returned (.int .u32 (infI f (fS 2 a))) ∧ Grown wd w' := by
  have h3 := cls_three 2 a
  obtain ⟨n1, n2⟩ := fin_kind 2 a hf
  obtain ⟨_, t1, t2⟩ := cha_over f a 0 hf hb
  obtain ⟨m0, m1⟩ := unM_bd 2 a
  obtain ⟨e0, e1⟩ := unE_bd 2 a
  have hl0 := len_nonneg (unM 2 a)
  have hl1 := len_le64 (unM 2 a) m0 (by omega)
  have hlst := lst_bd f
  have hfn : (7 : Int) ≤ fn f ∧ (fn f : Int) ≤ 23 := by have := fn_bd f; omega
  have htop : 0 < topx f ∧ topx f ≤ 255 := by unfold topx; split <;> decide
  have hlb := con_bd 2 f 1 a
  have hmt := msk_top f
  have hlo : conV 2 f 1 a = zerI f (fS 2 a) + zeroN f (numN 2 a) := by
    rw [(con_of_fin 2 f 1 a hf).1]
    unfold rdV
    rw [mag_zero f 1 (fS 2 a) (numN 2 a) rfl rfl]
  rw [← hlo] at t2
  obtain ⟨C, hC⟩ : ∃ C, clsI 2 a = C := ⟨_, rfl⟩
  rw [hC] at h3
  have HC := Lib.hid hC
  obtain ⟨L, hL⟩ : ∃ L, conV 2 f 1 a = L := ⟨_, rfl⟩
  rw [hL] at t2 hlb
  obtain ⟨l0, l1⟩ := hlb
  replace l1 : L ≤ 4294967295 := Int.le_trans l1 hmt
  obtain ⟨s, hs⟩ : ∃ s, fS 2 a = s := ⟨_, rfl⟩
  obtain ⟨x, hx⟩ : ∃ x, unE 2 a = x := ⟨_, rfl⟩
  obtain ⟨p, hp⟩ : ∃ p, unM 2 a = p := ⟨_, rfl⟩
  obtain ⟨y, hy⟩ : ∃ y, lst f + topx f - 2 = y := ⟨_, rfl⟩
  have y0 : -300 ≤ y ∧ y ≤ 300 := by omega
  obtain ⟨y0, y1⟩ := y0
  rw [hp] at m0 m1 hl0 hl1 t1
  rw [hx] at e0 e1 t1
  rw [hy] at t1 t2
  have HUa := Lib.hid (show Ending.returned (.tuple #[.bool (fS 2 a), .int .i64 (unE 2 a), .int .u64 (unM 2 a)]) = .returned (.tuple #[.bool s, .int .i64 x, .int .u64 p]) by rw [hs, hx, hp])
  obtain ⟨g4, hg4⟩ : ∃ g, fS f L = g := ⟨_, rfl⟩
  obtain ⟨g5, hg5⟩ : ∃ g, unM f L = g := ⟨_, rfl⟩
  have HUl := Lib.hid (show Ending.returned (.tuple #[.bool (fS f L), .int .i64 (unE f L), .int .u64 (unM f L)]) = .returned (.tuple #[.bool g4, .int .i64 y, .int .u64 g5]) by rw [t2, hg4, hg5])
  have HR := Lib.hid (show conE 2 f 1 a = .returned (.tuple #[.int .u32 L, .agg #[.bool (sigB 2 a), .bool false, .bool true, .bool (conU 2 f a), .bool true]]) by unfold conE; rw [h, ho, hL])
  generalize sigB 2 a = g1 at HR
  generalize conU 2 f a = g3 at HR
  clear hg4 hg5
  rw [hs]
  have hcc : (C == 4) = false ∧ (C == 5) = false := by
    rcases h3 with ⟨e, n, _⟩ | ⟨e, n, _⟩ | ⟨c4, c5, _, _⟩
    · rw [n1] at n; exact absurd n (by decide)
    · rw [n1] at n; exact absurd n (by decide)
    · exact ⟨c4, c5⟩
  obtain ⟨c4, c5⟩ := hcc
  obtain ⟨Q, hQ⟩ : ∃ Q, lenI p = Q := ⟨_, rfl⟩
  rw [hQ] at hl0 hl1 t1
  have HQ := Lib.hid hQ
  clear h3 h ho hb hf n1 n2 hC hL hs hx hp t2 hlo hlst htop hmt hQ hy
  obtain ⟨M, hM⟩ : ∃ M : Int, (fn f : Int) = M := ⟨_, rfl⟩
  rw [hM] at t1 hfn
  obtain ⟨hfn0, hfn1⟩ := hfn
  have HM := Lib.hid hM
  clear hM
  go_enter Try.func11, Try.ntmps11
  go_wp2_with fail
  refine (rto_any 2 f 1 a _ a0 a1).mono ?_
  rintro e W1 ⟨he, hW⟩
  rw [HR.out] at he
  subst he
  have HG := Lib.hid hW
  clear hW
  go_wp2_with (first
        | (go_at_call 16; refine (rclass_any _ _ _ (by omega) (by omega)).mono ?_; rintro e w' ⟨he, dm, rfl⟩; rw [HC.out] at he; subst he)
        | (go_at_call 26; refine (rnarrow_any _ _ _ (by omega) (by omega)).mono ?_; rintro e W3 ⟨he, hW⟩; subst he; replace HG := Lib.hid (show Grown wd W3 from grown_trans (by repeat (first | with_reducible exact HG.out | with_reducible refine Grown.setCell ?_ (by simp <;> omega) _ | with_reducible refine Grown.alloc ?_ _ _ | with_reducible refine grown_more ?_ _ | with_reducible refine Grown.drew ?_)) hW); clear hW)
        | (go_at_call 27; refine (runpack_any _ _ _ (by omega) (by omega)).mono ?_; rintro e w' ⟨he, dm, rfl⟩; (first | rw [HUa.out] at he | rw [HUl.out] at he); subst he)
        | (go_at_call 19; refine (rwidths_any _ _).mono ?_; rintro e w' ⟨he, rfl⟩; rw [HM.out] at he; subst he)
        | (go_at_call 28; refine (rlen_any _ _ (by omega) (by omega)).mono ?_; rintro e w' ⟨he, rfl⟩; rw [HQ.out] at he; subst he)
        | (go_at_call 29; refine (rinf_any _ _ _).mono ?_; rintro e w' ⟨rfl, dm, rfl⟩)
        | (go_at_call 30; refine (rshift_any _ _ _ (by omega) (by omega) (by omega) (by omega)).mono ?_; rintro e w' ⟨rfl, rfl⟩)
        | (go_at_call 31; refine (rsgn_cha _ _).mono ?_; rintro e w' ⟨rfl, rfl⟩))
  go_ret
  exact ⟨rfl, by repeat (first | with_reducible exact HG.out | with_reducible refine Grown.setCell ?_ (by simp <;> omega) _ | with_reducible refine Grown.alloc ?_ _ _ | with_reducible refine grown_more ?_ _ | with_reducible refine Grown.drew ?_)⟩

/-- What is left above the lower neighbour, as the reference reckons it. -/
theorem rest_is (p : Int) (k : Nat) (p0 : 0 ≤ p) (p1 : p < 16777216) (hk : k ≤ 404) (l r : Int) (hl : l = (p.toNat / 2 ^ k : Nat)) (hr : r = (p.toNat % 2 ^ k : Nat)) :
    ((l == 0) = true ∧ 0 ≤ l ∧ l ≤ 0 ∧ l * 2 ^ k = 0 ∧ r = p) ∨ ((l == 0) = false ∧ 0 < l ∧ l ≤ p ∧ k ≤ 40 ∧ l * 2 ^ k ≤ p ∧ 0 ≤ l * 2 ^ k ∧ p - l * 2 ^ k = r) := by
  have e := Nat.div_add_mod p.toNat (2 ^ k)
  by_cases c : p.toNat / 2 ^ k = 0
  · left
    rw [c] at hl e
    have hl0 : l = 0 := by omega
    exact ⟨by rw [hl0]; rfl, by omega, by omega, by rw [hl0, Int.zero_mul], by rw [hr]; omega⟩
  · right
    have hk2 : k ≤ 40 := by
      by_cases g : k ≤ 40
      · exact g
      · exfalso
        apply c
        apply Nat.div_eq_of_lt
        have : 2 ^ 24 ≤ 2 ^ k := Nat.pow_le_pow_right (by decide) (by omega)
        omega
    have hle := Nat.div_le_self p.toNat (2 ^ k)
    have cast : l * 2 ^ k = ((2 ^ k * (p.toNat / 2 ^ k) : Nat) : Int) := by rw [hl, pow2_cast, ← Int.natCast_mul, Nat.mul_comm]
    generalize p.toNat / 2 ^ k = Q at hl e c hle cast
    generalize p.toNat % 2 ^ k = T at hr e
    refine ⟨by rw [beq_eq_false_iff_ne]; omega, by omega, by omega, hk2, ?_, ?_, ?_⟩
    · rw [cast]; omega
    · rw [cast]; omega
    · rw [cast, hr]; omega

set_option maxRecDepth 100000 in
set_option maxHeartbeats 4000000 in
theorem rchance_in (f a v : Int) (wd : World) (a0 : 0 ≤ a) (a1 : a ≤ 4294967295) (v0 : 0 ≤ v) (v1 : v ≤ 4294967295) (h : conX 2 f 1 a = true) (hf : finI 2 a = true) (ho : conO 2 f 1 a = false) (hb : baseN f (numN 2 a) ≤ greN f) (hct : catN f (numN 2 a) ≠ 0) :
    Calls Try.prog 11 #[.int .i64 f, .int .u32 a, .int .u32 v] wd fun e w' => e = .returned (.int .u32 (chaI f a v)) ∧ Grown wd w' := by
  have h3 := cls_three 2 a
  obtain ⟨n1, n2⟩ := fin_kind 2 a hf
  obtain ⟨k, t1, t2, t3, t4, t5, t6, t7, t8, t9⟩ := cha_in f a v hf hb hct v0
  obtain ⟨m0, m1⟩ := unM_bd 2 a
  obtain ⟨e0, e1⟩ := unE_bd 2 a
  obtain ⟨l, hl⟩ : ∃ l : Int, l = ((unM 2 a).toNat / 2 ^ k : Nat) := ⟨_, rfl⟩
  obtain ⟨r, hr⟩ : ∃ r : Int, r = ((unM 2 a).toNat % 2 ^ k : Nat) := ⟨_, rfl⟩
  have hrest := rest_is (unM 2 a) k m0 m1 t2 l r hl hr
  have r0 : 0 ≤ r := by omega
  have r1 : r ≤ 16777215 := by have := Nat.mod_le (unM 2 a).toNat (2 ^ k); omega
  rw [← hl] at t5
  rw [← hr] at t6 t7 t8 t9
  have hlb := con_bd 2 f 1 a
  have hmt := msk_top f
  have hgs := gre_sgb f
  have hsg : sgb f ≤ 2147483648 := by unfold sgb; (repeat' split) <;> decide
  have hns := no_sign f (conV 2 f 1 a) hlb.1 (by omega)
  rw [low_is f _ hlb.1 hlb.2] at hns
  obtain ⟨q1, q2, q3, q4, q5⟩ := mag_parts f (fS 2 a) _ hb
  have hmod : conV 2 f 1 a % sgb f = baseN f (numN 2 a) := by
    rw [low_parts]
    rw [t4]
    exact q3
  rw [hmod] at hns
  obtain ⟨B, hB⟩ : ∃ B : Int, (baseN f (numN 2 a) : Int) = B := ⟨_, rfl⟩
  have hB1 : 0 ≤ B ∧ B + 1 < sgb f := by omega
  have hor := or_zer f (B + 1) true (by omega) hB1.2
  have hz : zerI f true = sgb f := rfl
  rw [hz] at hor
  rw [hB] at hns t9 t4
  rw [hz] at hns
  obtain ⟨C, hC⟩ : ∃ C, clsI 2 a = C := ⟨_, rfl⟩
  rw [hC] at h3
  have HC := Lib.hid hC
  obtain ⟨L, hL⟩ : ∃ L, conV 2 f 1 a = L := ⟨_, rfl⟩
  rw [hL] at t3 t4 t5 hlb hns
  obtain ⟨l0, l1⟩ := hlb
  replace l1 : L ≤ 4294967295 := Int.le_trans l1 hmt
  obtain ⟨s, hs⟩ : ∃ s, fS 2 a = s := ⟨_, rfl⟩
  obtain ⟨x, hx⟩ : ∃ x, unE 2 a = x := ⟨_, rfl⟩
  obtain ⟨p, hp⟩ : ∃ p, unM 2 a = p := ⟨_, rfl⟩
  obtain ⟨y, hy⟩ : ∃ y, unE f L = y := ⟨_, rfl⟩
  obtain ⟨g4, hg4⟩ : ∃ g, fS f L = g := ⟨_, rfl⟩
  rw [hs] at t4 t9
  rw [hp] at m0 m1 hrest hl hr
  rw [hx] at e0 e1 t3
  rw [hy] at t3
  have HUa := Lib.hid (show Ending.returned (.tuple #[.bool (fS 2 a), .int .i64 (unE 2 a), .int .u64 (unM 2 a)]) = .returned (.tuple #[.bool s, .int .i64 x, .int .u64 p]) by rw [hs, hx, hp])
  have HUl := Lib.hid (show Ending.returned (.tuple #[.bool (fS f L), .int .i64 (unE f L), .int .u64 (unM f L)]) = .returned (.tuple #[.bool g4, .int .i64 y, .int .u64 l]) by rw [hy, hg4, t5])
  have HR := Lib.hid (show conE 2 f 1 a = .returned (.tuple #[.int .u32 L, .agg #[.bool (sigB 2 a), .bool false, .bool false, .bool (conU 2 f a), .bool true]]) by unfold conE; rw [h, ho, hL])
  generalize sigB 2 a = g1 at HR
  generalize conU 2 f a = g3 at HR
  have hcc : (C == 4) = false ∧ (C == 5) = false := by
    rcases h3 with ⟨e, n, _⟩ | ⟨e, n, _⟩ | ⟨c4, c5, _, _⟩
    · rw [n1] at n; exact absurd n (by decide)
    · rw [n1] at n; exact absurd n (by decide)
    · exact ⟨c4, c5⟩
  obtain ⟨c4, c5⟩ := hcc
  obtain ⟨S, hS⟩ : ∃ S, sgb f = S := ⟨_, rfl⟩
  rw [hS] at hns hor hB1 hsg
  have HZ := Lib.hid (show zerI f true = S from hS)
  obtain ⟨P, hP⟩ : ∃ P, shV r ((k : Int) - 32) = P := ⟨_, rfl⟩
  rw [hP] at t7 t8 t9
  have HP := Lib.hid hP
  have HA := Lib.hid t9
  have HL := Lib.hid t4
  obtain ⟨B0, B1⟩ := hB1
  clear h3 h ho hb hf n1 n2 hct hC hL hs hx hp t4 t5 t6 t9 hmt hy hg4 hmod q1 q2 q3 q4 q5 hgs hB hz hS hP hl hr
  obtain ⟨K, hK⟩ : ∃ K : Int, (k : Int) = K := ⟨_, rfl⟩
  have hKn : K.toNat = k := by omega
  rw [hK] at t3 HP
  rcases hrest with ⟨d1, d2, d3, d4, rfl⟩ | ⟨d1, d2, d3, d4, d5, d6, d7⟩
  · have hsh : Op.shift .shl .u64 l .i64 K = pure (.int .u64 0) := by
      rw [shift_shl_any _ _ _ _ (by omega), show l = 0 by omega, Int.zero_mul]; rfl
    go_enter Try.func11, Try.ntmps11
    go_wp2_with fail
    refine (rto_any 2 f 1 a _ a0 a1).mono ?_
    rintro e W1 ⟨he, hW⟩
    rw [HR.out] at he
    subst he
    have HG := Lib.hid hW
    clear hW
    go_wp2_with (first
      | (go_at_call 16; refine (rclass_any _ _ _ (by omega) (by omega)).mono ?_; rintro e w' ⟨he, dm, rfl⟩; rw [HC.out] at he; subst he)
      | (go_at_call 26; refine (rnarrow_any _ _ _ (by omega) (by omega)).mono ?_; rintro e W3 ⟨he, hW⟩; subst he; replace HG := Lib.hid (show Grown wd W3 from grown_trans (by repeat (first | with_reducible exact HG.out | with_reducible refine Grown.setCell ?_ (by simp <;> omega) _ | with_reducible refine Grown.alloc ?_ _ _ | with_reducible refine grown_more ?_ _ | with_reducible refine Grown.drew ?_)) hW); clear hW)
      | (go_at_call 27; refine (runpack_any _ _ _ (by omega) (by omega)).mono ?_; rintro e w' ⟨he, dm, rfl⟩; (first | rw [HUa.out] at he | rw [HUl.out] at he); subst he)
      | (go_at_call 19; refine (rwidths_any _ _).mono ?_; rintro e w' ⟨rfl, rfl⟩)
      | (go_at_call 28; refine (rlen_any _ _ (by omega) (by omega)).mono ?_; rintro e w' ⟨rfl, rfl⟩)
      | (go_at_call 29; refine (rinf_any _ _ _).mono ?_; rintro e w' ⟨rfl, dm, rfl⟩)
      | (go_at_call 30; refine (rshift_any _ _ _ (by omega) (by omega) (by omega) (by omega)).mono ?_; rintro e w' ⟨he, rfl⟩; rw [HP.out] at he; subst he)
      | (go_at_call 31; refine (rsgn_cha _ _).mono ?_; rintro e w' ⟨he, rfl⟩; rw [HZ.out] at he; subst he))
    all_goals
      go_ret
      refine ⟨ret_int ?_, by repeat (first | with_reducible exact HG.out | with_reducible refine Grown.setCell ?_ (by simp <;> omega) _ | with_reducible refine Grown.alloc ?_ _ _ | with_reducible refine grown_more ?_ _ | with_reducible refine Grown.drew ?_)⟩
      rw [HA.out]
      have hz1 := HZ.out
      have hl := HL.out
      have hz0 : zerI f false = 0 := rfl
      clear HUa HUl HR
      cases s <;> first | contradiction | (split <;> omega)
  · go_enter Try.func11, Try.ntmps11
    go_wp2_with fail
    refine (rto_any 2 f 1 a _ a0 a1).mono ?_
    rintro e W1 ⟨he, hW⟩
    rw [HR.out] at he
    subst he
    have HG := Lib.hid hW
    clear hW
    go_wp2_with (first
      | (go_at_call 16; refine (rclass_any _ _ _ (by omega) (by omega)).mono ?_; rintro e w' ⟨he, dm, rfl⟩; rw [HC.out] at he; subst he)
      | (go_at_call 26; refine (rnarrow_any _ _ _ (by omega) (by omega)).mono ?_; rintro e W3 ⟨he, hW⟩; subst he; replace HG := Lib.hid (show Grown wd W3 from grown_trans (by repeat (first | with_reducible exact HG.out | with_reducible refine Grown.setCell ?_ (by simp <;> omega) _ | with_reducible refine Grown.alloc ?_ _ _ | with_reducible refine grown_more ?_ _ | with_reducible refine Grown.drew ?_)) hW); clear hW)
      | (go_at_call 27; refine (runpack_any _ _ _ (by omega) (by omega)).mono ?_; rintro e w' ⟨he, dm, rfl⟩; (first | rw [HUa.out] at he | rw [HUl.out] at he); subst he)
      | (go_at_call 19; refine (rwidths_any _ _).mono ?_; rintro e w' ⟨rfl, rfl⟩)
      | (go_at_call 28; refine (rlen_any _ _ (by omega) (by omega)).mono ?_; rintro e w' ⟨rfl, rfl⟩)
      | (go_at_call 29; refine (rinf_any _ _ _).mono ?_; rintro e w' ⟨rfl, dm, rfl⟩)
      | (go_at_call 30; refine (rshift_any _ _ _ (by omega) (by omega) (by omega) (by omega)).mono ?_; rintro e w' ⟨he, rfl⟩; rw [HP.out] at he; subst he)
      | (go_at_call 31; refine (rsgn_cha _ _).mono ?_; rintro e w' ⟨he, rfl⟩; rw [HZ.out] at he; subst he))
    all_goals
      go_ret
      refine ⟨ret_int ?_, by repeat (first | with_reducible exact HG.out | with_reducible refine Grown.setCell ?_ (by simp <;> omega) _ | with_reducible refine Grown.alloc ?_ _ _ | with_reducible refine grown_more ?_ _ | with_reducible refine Grown.drew ?_)⟩
      rw [HA.out]
      have hz1 := HZ.out
      have hl := HL.out
      have hz0 : zerI f false = 0 := rfl
      clear HUa HUl HR
      cases s <;> first | contradiction | (split <;> omega)

theorem rchance_any (f a v : Int) (wd : World) (a0 : 0 ≤ a) (a1 : a ≤ 4294967295) (v0 : 0 ≤ v) (v1 : v ≤ 4294967295) :
    Calls Try.prog 11 #[.int .i64 f, .int .u32 a, .int .u32 v] wd fun e w' => e = .returned (.int .u32 (chaI f a v)) ∧ Grown wd w' := by
  rcases cha_ways f a with h | ⟨h, hf, ho, hb⟩ | ⟨h, hf, ho, hb, hc⟩
  · rw [cha_exact f a v h v0]
    exact rchance_narrow f a v wd a0 a1 (.inr h)
  · rw [(cha_over f a v hf hb).1]
    exact rchance_over f a v wd a0 a1 h hf ho hb
  · exact rchance_in f a v wd a0 a1 v0 v1 h hf ho hb hc
end Go.Proofs.Ytfdfbgmnfiiipaa
