/- The contract of the reference's Sqrt. (Written by gen15.py.) -/
import Derived.Test.YtianheeefhemhaaQuoDef
import Derived.Test.YtianheeefhemhaaRMul
import Derived.Test.YtianheeefhemhaaRefs
namespace Go.Proofs.Ytianheeefhemhaa
open Go.RowKit
set_option linter.unusedVariables false
set_option linter.unusedSimpArgs false

theorem one_under (W : World) (a : Value) (C : Array Value) (t u : TypeId) : ((W.alloc (.cells C t)).alloc (.cells #[a] u)).cell? ⟨W.heap.size + 1, 0, none⟩ = some a := by go_simp

theorem tm_two (N : Int) : (N.tmod 2 = 0 ↔ N % 2 = 0) ∧ (N % 2 = 0 → N.tdiv 2 = N / 2) := by
  have h := Int.mul_tdiv_add_tmod N 2
  have e : N % 2 = 0 → N.tmod 2 = 0 := by
    intro g
    obtain ⟨k, hk⟩ : ∃ k, N = 2 * k := ⟨N / 2, by omega⟩
    rw [hk, Int.mul_tmod_right]
  refine ⟨⟨fun g => by omega, e⟩, fun g => ?_⟩
  have := e g
  omega

/-- The loop's number is M moved by i. -/
structure SqAt (M e X N : Int) (i : Nat) : Prop where
  num : X = M * 2 ^ i
  exp : N = e - (i : Int)
  pos : 0 < X
  lim : X < 4611686018427387904 ∨ (X < 9223372036854775808 ∧ N % 2 = 0)

theorem sqat_zero (M e : Int) (h0 : 0 < M) (h1 : M < 16777216) : SqAt M e M e 0 := ⟨by omega, by omega, h0, .inl (by omega)⟩

theorem sqat_next (M e X N : Int) (i : Nat) (h : SqAt M e X N i) (c : X < 2305843009213693952 ∨ ¬ N % 2 = 0) : SqAt M e (X * 2) (N - 1) (i + 1) := by
  obtain ⟨a, b, p, l⟩ := h
  exact ⟨by rw [a, Int.pow_succ, Int.mul_assoc], by omega, by omega, by omega⟩

theorem sqat_low (M e X N : Int) (i : Nat) (h0 : 0 < M) (h : SqAt M e X N i) : i ≤ 62 := by
  obtain ⟨a, b, p, l⟩ := h
  have hp := pow2_pos i
  rcases Nat.lt_or_ge i 63 with g | g
  · omega
  · exfalso
    have h63 : (2 : Int) ^ 63 ≤ 2 ^ i := pow2_le g
    have h1 : 1 * 2 ^ i ≤ M * 2 ^ i := Int.mul_le_mul_of_nonneg_right (by omega) (by omega)
    have e63 : (2 : Int) ^ 63 = 9223372036854775808 := by decide
    omega

set_option maxRecDepth 100000 in
set_option maxHeartbeats 16000000 in
theorem rsqrt_any (f mode a : Int) (w : World) (a0 : 0 ≤ a) (a1 : a ≤ 4294967295) :
    Calls Try.prog 14 #[.int .i64 f, .int .i64 mode, .int .u32 a] w fun e w' => e = sqrE f mode a ∧ Grown w w' := by
  have HE := Lib.hid ((exc_new w 29).under1 #[.int .u32 a] 22)
  have HG := Lib.hid (Grown.alloc (Grown.alloc (Grown.refl w) #[.bool false, .bool false, .bool false, .bool false, .bool false] 29) #[.int .u32 a] 22)
  have HC := Lib.hid (one_under w (.int .u32 a) #[.bool false, .bool false, .bool false, .bool false, .bool false] 29 22)
  obtain ⟨e0, e1⟩ := unE_bd f a
  have e2 := unE_top f a
  have hmn := mask_nou f a a0 a1
  have hmi := mask_inf f a a0 a1
  have hp0 := num_pos f a
  have hpb := unM_bd f a
  obtain ⟨x, hx⟩ : ∃ x, unE f a = x := ⟨_, rfl⟩
  obtain ⟨p, hp⟩ : ∃ p, unM f a = p := ⟨_, rfl⟩
  obtain ⟨n, hn⟩ : ∃ n, fS f a = n := ⟨_, rfl⟩
  obtain ⟨NN, hNN⟩ : ∃ NN, nanB f a = NN := ⟨_, rfl⟩
  obtain ⟨SS, hSS⟩ : ∃ SS, sigB f a = SS := ⟨_, rfl⟩
  obtain ⟨IA, hIA⟩ : ∃ IA, infB f a = IA := ⟨_, rfl⟩
  obtain ⟨ZA, hZA⟩ : ∃ ZA, nouB f a = ZA := ⟨_, rfl⟩
  have HM := Lib.hid (show sqrE f mode a = if NN = true then excE (nanI f) SS else if ZA = true then excE (zerI f n) false else if n = true then excE (nanI f) true else if IA = true then excE (infI f false) false else rooE f mode x p.toNat by
    unfold sqrE
    rw [hNN, hSS, hZA, hIA, hn, hx, hp])
  have HUa := Lib.hid (show Ending.returned (.tuple #[.bool (fS f a), .int .i64 (unE f a), .int .u64 (unM f a)]) = .returned (.tuple #[.bool n, .int .i64 x, .int .u64 p]) by rw [hn, hx, hp])
  rw [hx] at e0 e1 e2
  rw [hp] at hp0 hpb
  rw [hNN, hZA, hIA] at hp0
  rw [hZA, hn] at hmn
  rw [hIA, hn] at hmi
  have HMN := Lib.hid hmn
  have HMI := Lib.hid hmi
  have HP0 := Lib.hid hp0
  have Hn := Lib.hid hn
  have HNN := Lib.hid hNN
  have HSS := Lib.hid hSS
  have HIA := Lib.hid hIA
  have HZA := Lib.hid hZA
  clear hmn hmi hp0 hx hp hn hNN hSS hIA hZA
  cases NN
  case true =>
    have HQ := Lib.hid (HM.out.trans (if_pos rfl))
    clear HM
    go_enter Try.func14, Try.ntmps14
    go_wp2_with fail
    generalize ((w.alloc _).alloc _) = W4 at HE HG HC ⊢
    have y0 := HC.out
    refine (nans1_any f a _ _ a0 a1 y0).mono ?_
    rintro e w' ⟨he, m, rfl⟩
    rw [HNN.out, HSS.out] at he
    subst he
    clear y0
    obtain ⟨xb, x0, x1, x2, x3, x4, z0, z1, z2, z3, z4⟩ := HE.out
    go_wp2_with (first
      | (go_at_call 34; refine (rinfB_any _ _ _ (by omega) (by omega)).mono ?_; rintro e w' ⟨he, m, rfl⟩; rw [HIA.out] at he; subst he)
      | (go_at_call 33; refine (rnouB_any _ _ _ (by omega) (by omega)).mono ?_; rintro e w' ⟨he, m, rfl⟩; rw [HZA.out] at he; subst he)
      | (go_at_call 32; refine (rneg_any _ _ _ (by omega) (by omega)).mono ?_; rintro e w' ⟨he, m, rfl⟩; rw [Hn.out] at he; subst he)
      | (go_at_call 20; refine (rnan_any _ _).mono ?_; rintro e w' ⟨rfl, m, rfl⟩)
      | (go_at_call 23; refine (rmask_any _ _).mono ?_; rintro e w' ⟨rfl, rfl⟩))
    (try simp only [Exit.inBlock, Exit.then])
    refine bodyPost_ret (v := .tuple #[.int .u32 (nanI f), .agg #[.bool SS, .bool false, .bool false, .bool false, .bool false]]) ?_ rfl ⟨(excE_is _ _).trans HQ.out.symm, ?_⟩
    · rw [results_tmp_cell rfl]
      go_simp
    · repeat (first | with_reducible exact HG.out | with_reducible refine Grown.setCell ?_ (by simp <;> omega) _ | with_reducible refine Grown.alloc ?_ _ _ | with_reducible refine grown_more ?_ _)

  case false =>
    cases ZA
    case true =>
      have hm := HMN.out rfl
      have HQ := Lib.hid (HM.out.trans ((if_neg (by decide)).trans (if_pos rfl)))
      clear HM
      go_enter Try.func14, Try.ntmps14
      go_wp2_with fail
      generalize ((w.alloc _).alloc _) = W4 at HE HG HC ⊢
      have y0 := HC.out
      refine (nans1_any f a _ _ a0 a1 y0).mono ?_
      rintro e w' ⟨he, m, rfl⟩
      rw [HNN.out, HSS.out] at he
      subst he
      clear y0
      obtain ⟨xb, x0, x1, x2, x3, x4, z0, z1, z2, z3, z4⟩ := HE.out
      go_wp2_with (first
        | (go_at_call 34; refine (rinfB_any _ _ _ (by omega) (by omega)).mono ?_; rintro e w' ⟨he, m, rfl⟩; rw [HIA.out] at he; subst he)
        | (go_at_call 33; refine (rnouB_any _ _ _ (by omega) (by omega)).mono ?_; rintro e w' ⟨he, m, rfl⟩; rw [HZA.out] at he; subst he)
        | (go_at_call 32; refine (rneg_any _ _ _ (by omega) (by omega)).mono ?_; rintro e w' ⟨he, m, rfl⟩; rw [Hn.out] at he; subst he)
        | (go_at_call 20; refine (rnan_any _ _).mono ?_; rintro e w' ⟨rfl, m, rfl⟩)
        | (go_at_call 23; refine (rmask_any _ _).mono ?_; rintro e w' ⟨rfl, rfl⟩))
      (try simp only [Exit.inBlock, Exit.then])
      refine bodyPost_ret (v := .tuple #[.int .u32 (zerI f n), .agg #[.bool false, .bool false, .bool false, .bool false, .bool false]]) ?_ rfl ⟨(excE_is _ _).trans HQ.out.symm, ?_⟩
      · rw [results_tmp_cell rfl]
        go_simp
      · repeat (first | with_reducible exact HG.out | with_reducible refine Grown.setCell ?_ (by simp <;> omega) _ | with_reducible refine Grown.alloc ?_ _ _ | with_reducible refine grown_more ?_ _)

    case false =>
      cases n
      case true =>
        have HQ := Lib.hid (HM.out.trans ((if_neg (by decide)).trans ((if_neg (by decide)).trans (if_pos rfl))))
        clear HM
        go_enter Try.func14, Try.ntmps14
        go_wp2_with fail
        generalize ((w.alloc _).alloc _) = W4 at HE HG HC ⊢
        have y0 := HC.out
        refine (nans1_any f a _ _ a0 a1 y0).mono ?_
        rintro e w' ⟨he, m, rfl⟩
        rw [HNN.out, HSS.out] at he
        subst he
        clear y0
        obtain ⟨xb, x0, x1, x2, x3, x4, z0, z1, z2, z3, z4⟩ := HE.out
        go_wp2_with (first
          | (go_at_call 34; refine (rinfB_any _ _ _ (by omega) (by omega)).mono ?_; rintro e w' ⟨he, m, rfl⟩; rw [HIA.out] at he; subst he)
          | (go_at_call 33; refine (rnouB_any _ _ _ (by omega) (by omega)).mono ?_; rintro e w' ⟨he, m, rfl⟩; rw [HZA.out] at he; subst he)
          | (go_at_call 32; refine (rneg_any _ _ _ (by omega) (by omega)).mono ?_; rintro e w' ⟨he, m, rfl⟩; rw [Hn.out] at he; subst he)
          | (go_at_call 20; refine (rnan_any _ _).mono ?_; rintro e w' ⟨rfl, m, rfl⟩)
          | (go_at_call 23; refine (rmask_any _ _).mono ?_; rintro e w' ⟨rfl, rfl⟩))
        (try simp only [Exit.inBlock, Exit.then])
        refine bodyPost_ret (v := .tuple #[.int .u32 (nanI f), .agg #[.bool true, .bool false, .bool false, .bool false, .bool false]]) ?_ rfl ⟨(excE_is _ _).trans HQ.out.symm, ?_⟩
        · rw [results_tmp_cell rfl]
          go_simp
        · repeat (first | with_reducible exact HG.out | with_reducible refine Grown.setCell ?_ (by simp <;> omega) _ | with_reducible refine Grown.alloc ?_ _ _ | with_reducible refine grown_more ?_ _)

      case false =>
        cases IA
        case true =>
          have hm := HMI.out rfl
          have HQ := Lib.hid (HM.out.trans ((if_neg (by decide)).trans ((if_neg (by decide)).trans ((if_neg (by decide)).trans (if_pos rfl)))))
          clear HM
          go_enter Try.func14, Try.ntmps14
          go_wp2_with fail
          generalize ((w.alloc _).alloc _) = W4 at HE HG HC ⊢
          have y0 := HC.out
          refine (nans1_any f a _ _ a0 a1 y0).mono ?_
          rintro e w' ⟨he, m, rfl⟩
          rw [HNN.out, HSS.out] at he
          subst he
          clear y0
          obtain ⟨xb, x0, x1, x2, x3, x4, z0, z1, z2, z3, z4⟩ := HE.out
          go_wp2_with (first
            | (go_at_call 34; refine (rinfB_any _ _ _ (by omega) (by omega)).mono ?_; rintro e w' ⟨he, m, rfl⟩; rw [HIA.out] at he; subst he)
            | (go_at_call 33; refine (rnouB_any _ _ _ (by omega) (by omega)).mono ?_; rintro e w' ⟨he, m, rfl⟩; rw [HZA.out] at he; subst he)
            | (go_at_call 32; refine (rneg_any _ _ _ (by omega) (by omega)).mono ?_; rintro e w' ⟨he, m, rfl⟩; rw [Hn.out] at he; subst he)
            | (go_at_call 20; refine (rnan_any _ _).mono ?_; rintro e w' ⟨rfl, m, rfl⟩)
            | (go_at_call 23; refine (rmask_any _ _).mono ?_; rintro e w' ⟨rfl, rfl⟩))
          (try simp only [Exit.inBlock, Exit.then])
          refine bodyPost_ret (v := .tuple #[.int .u32 (infI f false), .agg #[.bool false, .bool false, .bool false, .bool false, .bool false]]) ?_ rfl ⟨(excE_is _ _).trans HQ.out.symm, ?_⟩
          · rw [results_tmp_cell rfl]
            go_simp
          · repeat (first | with_reducible exact HG.out | with_reducible refine Grown.setCell ?_ (by simp <;> omega) _ | with_reducible refine Grown.alloc ?_ _ _ | with_reducible refine grown_more ?_ _)

        case false =>
          have p0 := HP0.out rfl rfl rfl
          clear HP0
          have HQ := Lib.hid (HM.out.trans ((if_neg (by decide)).trans ((if_neg (by decide)).trans ((if_neg (by decide)).trans ((if_neg (by decide)))))))
          clear HM
          go_enter Try.func14, Try.ntmps14
          go_wp2_with fail
          generalize ((w.alloc _).alloc _) = W4 at HE HG HC ⊢
          have y0 := HC.out
          refine (nans1_any f a _ _ a0 a1 y0).mono ?_
          rintro e w' ⟨he, m, rfl⟩
          rw [HNN.out, HSS.out] at he
          subst he
          clear y0
          obtain ⟨xb, x0, x1, x2, x3, x4, z0, z1, z2, z3, z4⟩ := HE.out
          go_wp2_with (first
            | (go_at_call 34; refine (rinfB_any _ _ _ (by omega) (by omega)).mono ?_; rintro e w' ⟨he, m, rfl⟩; rw [HIA.out] at he; subst he)
            | (go_at_call 33; refine (rnouB_any _ _ _ (by omega) (by omega)).mono ?_; rintro e w' ⟨he, m, rfl⟩; rw [HZA.out] at he; subst he)
            | (go_at_call 32; refine (rneg_any _ _ _ (by omega) (by omega)).mono ?_; rintro e w' ⟨he, m, rfl⟩; rw [Hn.out] at he; subst he)
            | (go_at_call 20; refine (rnan_any _ _).mono ?_; rintro e w' ⟨rfl, m, rfl⟩)
            | (go_at_call 23; refine (rmask_any _ _).mono ?_; rintro e w' ⟨rfl, rfl⟩)
            | (go_at_call 35; refine (runpack_any _ _ _ (by omega) (by omega)).mono ?_; rintro e w' ⟨he, m, rfl⟩; rw [HUa.out] at he; subst he))
          go_loop [12, 11] (fun m x' => ∃ (X N : Int) (i : Nat), m = .int .u64 X ∧ x' = .int .i64 N ∧ SqAt p x X N i) (fun m _ => (9223372036854775808 - intOf m).toNat)
          case atStart => exact ⟨p, x, 0, rfl, rfl, sqat_zero p x p0 hpb.2⟩
          case round =>
            obtain ⟨X, N, i, rfl, rfl, hU⟩ := hrel
            have X0 := hU.pos
            have X1 : X < 9223372036854775808 := by have := hU.lim; omega
            have hi := sqat_low p x X N i p0 hU
            have N0 : -300 ≤ N := by have := hU.exp; omega
            have N1 : N ≤ 200 := by have := hU.exp; omega
            have HU := Lib.hid hU
            clear hU
            have h2 := (tm_two N).1
            have h3 := (tm_two N).2
            obtain ⟨R, hR⟩ : ∃ R, N.tmod 2 = R := ⟨_, rfl⟩
            rw [hR] at h2
            by_cases c : X < 2305843009213693952
            · have hnx := sqat_next p x X N i HU.out (.inl c)
              go_wp2
              exact ⟨⟨_, _, i + 1, rfl, rfl, hnx⟩, by simp [intOf]; omega⟩
            · by_cases d : N % 2 = 0
              · have d2 : R = 0 := h2.2 d
                have d3 : (R == 0) = true := by simp [d2]
                obtain ⟨D, hD⟩ : ∃ D, N.tdiv 2 = D := ⟨_, rfl⟩
                obtain ⟨Q, hQ⟩ : ∃ Q, rootI X = Q := ⟨_, rfl⟩
                obtain ⟨q0, q1⟩ := root_bd X (by omega) (by omega)
                have hD3 := h3 d
                rw [hD] at hD3
                have D0 : -300 ≤ D := by omega
                have D1 : D ≤ 300 := by omega
                have hfin : PackE f mode false (valN (clampE D) Q (!(Q * Q == X))) = sqrE f mode a := by
                  rw [HQ.out, ← hQ, hD3]
                  exact rroo_is f mode x p X N i p0 (by omega) (by omega) (by omega) HU.out.num HU.out.exp d (by omega)
                have HFin := Lib.hid hfin
                have HQr := Lib.hid hQ
                rw [hQ] at q0 q1
                obtain ⟨xt, hxt⟩ : ∃ xt, (Q * Q == X) = xt := ⟨_, rfl⟩
                rw [hxt] at HFin
                have HXt := Lib.hid hxt
                clear hfin hQ hxt h2 h3 hD3
                go_wp2_with (go_at_call 38; refine (rroot_any _ _ (by omega) (by omega)).mono ?_; rintro e w' ⟨he, rfl⟩; rw [HQr.out, HXt.out] at he; subst he)
                refine (rpack_any _ _ _ _ _ _ _ (by omega) (by omega) (by omega) (by omega)).mono ?_
                rintro e W5 ⟨he, hW5⟩
                rw [exc_agg] at he
                subst he
                have HG5 := Lib.hid (grown_trans (grown_more HG.out _) hW5)
                have HE5 := Lib.hid (HE.out.grown (grown_trans (grown_drewN _ _) hW5))
                clear hW5 xb x0 x1 x2 x3 x4 z0 z1 z2 z3 z4
                obtain ⟨xb, x0, x1, x2, x3, x4, z0, z1, z2, z3, z4⟩ := HE5.out
                go_wp2
                (try simp only [Exit.inBlock, Exit.then])
                refine bodyPost_ret (v := .tuple #[.int .u32 (rdV f mode false (valN (clampE D) Q (!xt))), .agg #[.bool false, .bool false, .bool (rdO f mode false (valN (clampE D) Q (!xt))), .bool (rdU f (valN (clampE D) Q (!xt))), .bool (rdX f mode false (valN (clampE D) Q (!xt)))]]) ?_ rfl ⟨(packE_is _ _ _ _).trans HFin.out, ?_⟩
                · rw [results_tmp_cell rfl]
                  go_simp
                · repeat (first | with_reducible exact HG5.out | with_reducible refine Grown.setCell ?_ (by simp <;> omega) _ | with_reducible refine Grown.alloc ?_ _ _ | with_reducible refine grown_more ?_ _)
              · have d2 : ¬ R = 0 := fun g => d (h2.1 g)
                have d3 : (R == 0) = false := by simpa using d2
                have hnx := sqat_next p x X N i HU.out (.inr d)
                have hl := HU.out.lim
                go_wp2
                exact ⟨⟨_, _, i + 1, rfl, rfl, hnx⟩, by simp [intOf]; omega⟩
end Go.Proofs.Ytianheeefhemhaa
