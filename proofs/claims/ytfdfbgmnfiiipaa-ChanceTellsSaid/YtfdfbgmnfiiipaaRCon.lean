/- The contracts of the reference's To, Widen, Narrow. -/
import Derived.Test.YtfdfbgmnfiiipaaConMath
import Derived.Test.YtfdfbgmnfiiipaaRRdT
import Derived.Test.YtfdfbgmnfiiipaaWorld
import Derived.KernelRfl
import Derived.StillTailTactics
import Derived.Handy
namespace Go.Proofs.Ytfdfbgmnfiiipaa
open Go.RowKit
set_option linter.unusedVariables false
set_option linter.unusedSimpArgs false

theorem con_one_under (W : World) (a : Value) (C : Array Value) (t u : TypeId) : ((W.alloc (.cells C t)).alloc (.cells #[a] u)).cell? ⟨W.heap.size + 1, 0, none⟩ = some a := by go_simp

set_option maxRecDepth 100000 in
set_option maxHeartbeats 4000000 in
theorem rto_any (f g mode a : Int) (w : World) (a0 : 0 ≤ a) (a1 : a ≤ 4294967295) :
    Calls Try.prog 12 #[.int .i64 f, .int .i64 g, .int .i64 mode, .int .u32 a] w fun e w' => e = conE f g mode a ∧ Grown w w' := by
  have HE := Lib.hid ((exc_new w 31).under1 #[.int .u32 a] 22)
  have HG := Lib.hid (Grown.alloc (Grown.alloc (Grown.refl w) #[.bool false, .bool false, .bool false, .bool false, .bool false] 31) #[.int .u32 a] 22)
  have HC := Lib.hid (con_one_under w (.int .u32 a) #[.bool false, .bool false, .bool false, .bool false, .bool false] 31 22)
  obtain ⟨e0, e1⟩ := unE_bd f a
  obtain ⟨m0, m1⟩ := unM_bd f a
  have hk1 := con_nan f g mode a
  have hk2 := con_inf f g mode a
  have hk3 := con_fin f g mode a
  obtain ⟨NN, hNN⟩ : ∃ NN, nanB f a = NN := ⟨_, rfl⟩
  obtain ⟨SS, hSS⟩ : ∃ SS, sigB f a = SS := ⟨_, rfl⟩
  obtain ⟨II, hII⟩ : ∃ II, infB f a = II := ⟨_, rfl⟩
  obtain ⟨s, hs⟩ : ∃ s, fS f a = s := ⟨_, rfl⟩
  obtain ⟨x, hx⟩ : ∃ x, unE f a = x := ⟨_, rfl⟩
  obtain ⟨p, hp⟩ : ∃ p, unM f a = p := ⟨_, rfl⟩
  have HUa := Lib.hid (show Ending.returned (.tuple #[.bool (fS f a), .int .i64 (unE f a), .int .u64 (unM f a)]) = .returned (.tuple #[.bool s, .int .i64 x, .int .u64 p]) by rw [hs, hx, hp])
  rw [hNN, hSS] at hk1
  rw [hNN, hII, hs] at hk2
  rw [hNN, hII, hs, hx, hp] at hk3
  rw [hx] at e0 e1
  rw [hp] at m0 m1
  have HNN := Lib.hid hNN
  have HSS := Lib.hid hSS
  have HII := Lib.hid hII
  have HS := Lib.hid hs
  clear hNN hSS hII hs hx hp
  cases NN
  case true =>
    have HQ := Lib.hid (hk1 rfl)
    clear hk1 hk2 hk3
    go_enter Try.func12, Try.ntmps12
    go_wp2_with fail
    generalize ((w.alloc _).alloc _) = W4 at HE HG HC ⊢
    have y0 := HC.out
    refine (nans1_any f a _ _ a0 a1 y0).mono ?_
    rintro e w' ⟨he, m, rfl⟩
    rw [HNN.out, HSS.out] at he
    subst he
    clear y0
    obtain ⟨xb, x0, x1, x2, x3, x4, z0, z1, z2, z3, z4⟩ := HE.out
    go_wp2_with (first
        | (go_at_call 17; refine (rnan_any _ _).mono ?_; rintro e w' ⟨rfl, dm, rfl⟩)
        | (go_at_call 29; refine (rinf_any _ _ _).mono ?_; rintro e w' ⟨rfl, dm, rfl⟩)
        | (go_at_call 33; refine (rinfB_any _ _ _ (by omega) (by omega)).mono ?_; rintro e w' ⟨he, dm, rfl⟩; rw [HII.out] at he; subst he)
        | (go_at_call 34; refine (rneg_any _ _ _ (by omega) (by omega)).mono ?_; rintro e w' ⟨he, dm, rfl⟩; rw [HS.out] at he; subst he)
        | (go_at_call 27; refine (runpack_any _ _ _ a0 a1).mono ?_; rintro e w' ⟨he, dm, rfl⟩; rw [HUa.out] at he; subst he))
    (try simp only [Exit.inBlock, Exit.then])
    refine bodyPost_ret (v := .tuple #[.int .u32 (nanI g), .agg #[.bool SS, .bool false, .bool false, .bool false, .bool false]]) ?_ rfl ⟨HQ.out.symm, ?_⟩
    · rw [results_tmp_cell rfl]
      go_simp
    · repeat (first | with_reducible exact HG.out | with_reducible refine Grown.setCell ?_ (by simp <;> omega) _ | with_reducible refine Grown.alloc ?_ _ _ | with_reducible refine grown_more ?_ _ | with_reducible refine Grown.drew ?_)
  case false =>
    cases II
    case true =>
      have HQ := Lib.hid (hk2 rfl rfl)
      clear hk1 hk2 hk3
      go_enter Try.func12, Try.ntmps12
      go_wp2_with fail
      generalize ((w.alloc _).alloc _) = W4 at HE HG HC ⊢
      have y0 := HC.out
      refine (nans1_any f a _ _ a0 a1 y0).mono ?_
      rintro e w' ⟨he, m, rfl⟩
      rw [HNN.out, HSS.out] at he
      subst he
      clear y0
      obtain ⟨xb, x0, x1, x2, x3, x4, z0, z1, z2, z3, z4⟩ := HE.out
      go_wp2_with (first
          | (go_at_call 17; refine (rnan_any _ _).mono ?_; rintro e w' ⟨rfl, dm, rfl⟩)
          | (go_at_call 29; refine (rinf_any _ _ _).mono ?_; rintro e w' ⟨rfl, dm, rfl⟩)
          | (go_at_call 33; refine (rinfB_any _ _ _ (by omega) (by omega)).mono ?_; rintro e w' ⟨he, dm, rfl⟩; rw [HII.out] at he; subst he)
          | (go_at_call 34; refine (rneg_any _ _ _ (by omega) (by omega)).mono ?_; rintro e w' ⟨he, dm, rfl⟩; rw [HS.out] at he; subst he)
          | (go_at_call 27; refine (runpack_any _ _ _ a0 a1).mono ?_; rintro e w' ⟨he, dm, rfl⟩; rw [HUa.out] at he; subst he))
      (try simp only [Exit.inBlock, Exit.then])
      refine bodyPost_ret (v := .tuple #[.int .u32 (infI g s), .agg #[.bool false, .bool false, .bool false, .bool false, .bool false]]) ?_ rfl ⟨HQ.out.symm, ?_⟩
      · rw [results_tmp_cell rfl]
        go_simp
      · repeat (first | with_reducible exact HG.out | with_reducible refine Grown.setCell ?_ (by simp <;> omega) _ | with_reducible refine Grown.alloc ?_ _ _ | with_reducible refine grown_more ?_ _ | with_reducible refine Grown.drew ?_)
    case false =>
      have HQ := Lib.hid (hk3 rfl rfl)
      clear hk1 hk2 hk3
      go_enter Try.func12, Try.ntmps12
      go_wp2_with fail
      generalize ((w.alloc _).alloc _) = W4 at HE HG HC ⊢
      have y0 := HC.out
      refine (nans1_any f a _ _ a0 a1 y0).mono ?_
      rintro e w' ⟨he, m, rfl⟩
      rw [HNN.out, HSS.out] at he
      subst he
      clear y0
      obtain ⟨xb, x0, x1, x2, x3, x4, z0, z1, z2, z3, z4⟩ := HE.out
      go_wp2_with (first
          | (go_at_call 17; refine (rnan_any _ _).mono ?_; rintro e w' ⟨rfl, dm, rfl⟩)
          | (go_at_call 29; refine (rinf_any _ _ _).mono ?_; rintro e w' ⟨rfl, dm, rfl⟩)
          | (go_at_call 33; refine (rinfB_any _ _ _ (by omega) (by omega)).mono ?_; rintro e w' ⟨he, dm, rfl⟩; rw [HII.out] at he; subst he)
          | (go_at_call 34; refine (rneg_any _ _ _ (by omega) (by omega)).mono ?_; rintro e w' ⟨he, dm, rfl⟩; rw [HS.out] at he; subst he)
          | (go_at_call 27; refine (runpack_any _ _ _ a0 a1).mono ?_; rintro e w' ⟨he, dm, rfl⟩; rw [HUa.out] at he; subst he))
      refine (rpack_any _ _ _ _ _ _ _ (by omega) (by omega) (by omega) (by omega)).mono ?_
      rintro e W5 ⟨he, hW5⟩
      rw [← packE_is] at he
      subst he
      have HG5 := Lib.hid (show Grown w W5 from grown_trans (by repeat (first | with_reducible exact HG.out | with_reducible refine Grown.setCell ?_ (by simp <;> omega) _ | with_reducible refine Grown.alloc ?_ _ _ | with_reducible refine grown_more ?_ _ | with_reducible refine Grown.drew ?_)) hW5)
      have HE5 := Lib.hid (show ExcAt w.heap.size W5 from HE.out.grown (grown_trans (by repeat (first | with_reducible exact Grown.refl _ | with_reducible refine grown_more ?_ _ | with_reducible refine Grown.drew ?_)) hW5))
      clear hW5 xb x0 x1 x2 x3 x4 z0 z1 z2 z3 z4
      obtain ⟨xb, x0, x1, x2, x3, x4, z0, z1, z2, z3, z4⟩ := HE5.out
      go_wp2
      (try simp only [Exit.inBlock, Exit.then])
      refine bodyPost_ret (v := .tuple #[.int .u32 (rdV g mode s (valN (clampE x) p false)), .agg #[.bool false, .bool false, .bool (rdO g mode s (valN (clampE x) p false)), .bool (rdU g (valN (clampE x) p false)), .bool (rdX g mode s (valN (clampE x) p false))]]) ?_ rfl ⟨(packE_is _ _ _ _).trans HQ.out.symm, ?_⟩
      · rw [results_tmp_cell rfl]
        go_simp
      · repeat (first | with_reducible exact HG5.out | with_reducible refine Grown.setCell ?_ (by simp <;> omega) _ | with_reducible refine Grown.alloc ?_ _ _ | with_reducible refine grown_more ?_ _ | with_reducible refine Grown.drew ?_)

set_option maxHeartbeats 1000000 in
theorem rwiden_any (f a : Int) (w : World) (a0 : 0 ≤ a) (a1 : a ≤ 4294967295) :
    Calls Try.prog 18 #[.int .i64 f, .int .u32 a] w fun e w' => e = .returned (.int .u32 (conV f 2 0 a)) ∧ Grown w w' := by
  go_enter Try.func18, Try.ntmps18
  go_wp2_with fail
  refine (rto_any f 2 0 a _ a0 a1).mono ?_
  rintro e W1 ⟨he, hW⟩
  unfold conE at he
  subst he
  have HG := Lib.hid hW
  clear hW
  go_wp2
  go_ret
  exact ⟨rfl, by repeat (first | with_reducible exact HG.out | with_reducible refine Grown.setCell ?_ (by simp <;> omega) _ | with_reducible refine Grown.alloc ?_ _ _ | with_reducible refine grown_more ?_ _ | with_reducible refine Grown.drew ?_)⟩

set_option maxHeartbeats 1000000 in
theorem rnarrow_any (f a : Int) (w : World) (a0 : 0 ≤ a) (a1 : a ≤ 4294967295) :
    Calls Try.prog 26 #[.int .i64 f, .int .u32 a] w fun e w' => e = .returned (.int .u32 (conV 2 f 0 a)) ∧ Grown w w' := by
  go_enter Try.func26, Try.ntmps26
  go_wp2_with fail
  refine (rto_any 2 f 0 a _ a0 a1).mono ?_
  rintro e W1 ⟨he, hW⟩
  unfold conE at he
  subst he
  have HG := Lib.hid hW
  clear hW
  go_wp2
  go_ret
  exact ⟨rfl, by repeat (first | with_reducible exact HG.out | with_reducible refine Grown.setCell ?_ (by simp <;> omega) _ | with_reducible refine Grown.alloc ?_ _ _ | with_reducible refine grown_more ?_ _ | with_reducible refine Grown.drew ?_)⟩
end Go.Proofs.Ytfdfbgmnfiiipaa
