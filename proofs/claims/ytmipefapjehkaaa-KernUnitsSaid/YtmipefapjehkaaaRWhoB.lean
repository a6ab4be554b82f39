/- The contracts of the reference's To, Widen, Narrow. The contracts of the reference's Compare, Less, Min, Max. The contracts of the reference's FromInt, ToInt, Round, Scale. The contracts of the reference's FromInt, ToInt, Round, Scale. (Written by gen22.py.) -/
import Derived.Test.YtmipefapjehkaaaFunMath
import Derived.Test.YtmipefapjehkaaaRRdT
import Derived.Test.YtmipefapjehkaaaWorld
import Derived.KernelRfl
import Derived.StillTailTactics
import Derived.Handy
import Derived.Test.YtmipefapjehkaaaNans
namespace Go.Proofs.Ytmipefapjehkaaa
open Go.RowKit
set_option linter.unusedVariables false
set_option linter.unusedSimpArgs false

theorem con_one_under (W : World) (a : Value) (C : Array Value) (t u : TypeId) : ((W.alloc (.cells C t)).alloc (.cells #[a] u)).cell? ⟨W.heap.size + 1, 0, none⟩ = some a := by go_simp

set_option maxRecDepth 100000 in
set_option maxHeartbeats 4000000 in
theorem rto_any (f g mode a : Int) (w : World) (a0 : 0 ≤ a) (a1 : a ≤ 4294967295) :
    Calls Try.prog 99 #[.int .i64 f, .int .i64 g, .int .i64 mode, .int .u32 a] w fun e w' => e = conE f g mode a ∧ Grown w w' := by
  have HE := Lib.hid ((exc_new w 59).under1 #[.int .u32 a] 37)
  have HG := Lib.hid (Grown.alloc (Grown.alloc (Grown.refl w) #[.bool false, .bool false, .bool false, .bool false, .bool false] 59) #[.int .u32 a] 37)
  have HC := Lib.hid (con_one_under w (.int .u32 a) #[.bool false, .bool false, .bool false, .bool false, .bool false] 59 37)
  obtain ⟨e0, e1⟩ := unE_bd f a
  obtain ⟨m0, m1⟩ := unM_bd f a
  have hk1 := con_nan f g mode a
  have hk2 := con_inf f g mode a
  have hk3 := con_fin f g mode a
  obtain ⟨NN, hNN⟩ : ∃ NN, nanB f a = NN := ⟨_, rfl⟩
  obtain ⟨SS, hSS⟩ : ∃ SS, sigB f a = SS := ⟨_, rfl⟩
  obtain ⟨II, hII⟩ : ∃ II, infB f a = II := ⟨_, rfl⟩
  obtain ⟨s, hs⟩ : ∃ s, fS f a = s := ⟨_, rfl⟩
  obtain ⟨x, hx⟩ : ∃ x, unE f a = x := ⟨_, rfl⟩
  obtain ⟨p, hp⟩ : ∃ p, unM f a = p := ⟨_, rfl⟩
  have HUa := Lib.hid (show Ending.returned (.tuple #[.bool (fS f a), .int .i64 (unE f a), .int .u64 (unM f a)]) = .returned (.tuple #[.bool s, .int .i64 x, .int .u64 p]) by rw [hs, hx, hp])
  rw [hNN, hSS] at hk1
  rw [hNN, hII, hs] at hk2
  rw [hNN, hII, hs, hx, hp] at hk3
  rw [hx] at e0 e1
  rw [hp] at m0 m1
  have HNN := Lib.hid hNN
  have HSS := Lib.hid hSS
  have HII := Lib.hid hII
  have HS := Lib.hid hs
  clear hNN hSS hII hs hx hp
  cases NN
  case true =>
    have HQ := Lib.hid (hk1 rfl)
    clear hk1 hk2 hk3
    go_enter Try.func99, Try.ntmps99
    go_wp2_with fail
    generalize ((w.alloc _).alloc _) = W4 at HE HG HC ⊢
    have y0 := HC.out
    refine (nans1_any f a _ _ a0 a1 y0).mono ?_
    rintro e w' ⟨he, m, rfl⟩
    rw [HNN.out, HSS.out] at he
    subst he
    clear y0
    obtain ⟨xb, x0, x1, x2, x3, x4, z0, z1, z2, z3, z4⟩ := HE.out
    go_wp2_with (first
        | (go_at_call 88; refine (rnan_any _ _).mono ?_; rintro e w' ⟨rfl, dm, rfl⟩)
        | (go_at_call 90; refine (rinf_any _ _ _).mono ?_; rintro e w' ⟨rfl, dm, rfl⟩)
        | (go_at_call 86; refine (rinfB_any _ _ _ (by omega) (by omega)).mono ?_; rintro e w' ⟨he, dm, rfl⟩; rw [HII.out] at he; subst he)
        | (go_at_call 89; refine (rneg_any _ _ _ (by omega) (by omega)).mono ?_; rintro e w' ⟨he, dm, rfl⟩; rw [HS.out] at he; subst he)
        | (go_at_call 91; refine (runpack_any _ _ _ a0 a1).mono ?_; rintro e w' ⟨he, dm, rfl⟩; rw [HUa.out] at he; subst he))
    (try simp only [Exit.inBlock, Exit.then])
    refine bodyPost_ret (v := .tuple #[.int .u32 (nanI g), .agg #[.bool SS, .bool false, .bool false, .bool false, .bool false]]) ?_ rfl ⟨HQ.out.symm, ?_⟩
    · rw [results_tmp_cell rfl]
      go_simp
    · repeat (first | with_reducible exact HG.out | with_reducible refine Grown.setCell ?_ (by simp <;> omega) _ | with_reducible refine Grown.alloc ?_ _ _ | with_reducible refine grown_more ?_ _ | with_reducible refine Grown.drew ?_)
  case false =>
    cases II
    case true =>
      have HQ := Lib.hid (hk2 rfl rfl)
      clear hk1 hk2 hk3
      go_enter Try.func99, Try.ntmps99
      go_wp2_with fail
      generalize ((w.alloc _).alloc _) = W4 at HE HG HC ⊢
      have y0 := HC.out
      refine (nans1_any f a _ _ a0 a1 y0).mono ?_
      rintro e w' ⟨he, m, rfl⟩
      rw [HNN.out, HSS.out] at he
      subst he
      clear y0
      obtain ⟨xb, x0, x1, x2, x3, x4, z0, z1, z2, z3, z4⟩ := HE.out
      go_wp2_with (first
          | (go_at_call 88; refine (rnan_any _ _).mono ?_; rintro e w' ⟨rfl, dm, rfl⟩)
          | (go_at_call 90; refine (rinf_any _ _ _).mono ?_; rintro e w' ⟨rfl, dm, rfl⟩)
          | (go_at_call 86; refine (rinfB_any _ _ _ (by omega) (by omega)).mono ?_; rintro e w' ⟨he, dm, rfl⟩; rw [HII.out] at he; subst he)
          | (go_at_call 89; refine (rneg_any _ _ _ (by omega) (by omega)).mono ?_; rintro e w' ⟨he, dm, rfl⟩; rw [HS.out] at he; subst he)
          | (go_at_call 91; refine (runpack_any _ _ _ a0 a1).mono ?_; rintro e w' ⟨he, dm, rfl⟩; rw [HUa.out] at he; subst he))
      (try simp only [Exit.inBlock, Exit.then])
      refine bodyPost_ret (v := .tuple #[.int .u32 (infI g s), .agg #[.bool false, .bool false, .bool false, .bool false, .bool false]]) ?_ rfl ⟨HQ.out.symm, ?_⟩
      · rw [results_tmp_cell rfl]
        go_simp
      · repeat (first | with_reducible exact HG.out | with_reducible refine Grown.setCell ?_ (by simp <;> omega) _ | with_reducible refine Grown.alloc ?_ _ _ | with_reducible refine grown_more ?_ _ | with_reducible refine Grown.drew ?_)
    case false =>
      have HQ := Lib.hid (hk3 rfl rfl)
      clear hk1 hk2 hk3
      go_enter Try.func99, Try.ntmps99
      go_wp2_with fail
      generalize ((w.alloc _).alloc _) = W4 at HE HG HC ⊢
      have y0 := HC.out
      refine (nans1_any f a _ _ a0 a1 y0).mono ?_
      rintro e w' ⟨he, m, rfl⟩
      rw [HNN.out, HSS.out] at he
      subst he
      clear y0
      obtain ⟨xb, x0, x1, x2, x3, x4, z0, z1, z2, z3, z4⟩ := HE.out
      go_wp2_with (first
          | (go_at_call 88; refine (rnan_any _ _).mono ?_; rintro e w' ⟨rfl, dm, rfl⟩)
          | (go_at_call 90; refine (rinf_any _ _ _).mono ?_; rintro e w' ⟨rfl, dm, rfl⟩)
          | (go_at_call 86; refine (rinfB_any _ _ _ (by omega) (by omega)).mono ?_; rintro e w' ⟨he, dm, rfl⟩; rw [HII.out] at he; subst he)
          | (go_at_call 89; refine (rneg_any _ _ _ (by omega) (by omega)).mono ?_; rintro e w' ⟨he, dm, rfl⟩; rw [HS.out] at he; subst he)
          | (go_at_call 91; refine (runpack_any _ _ _ a0 a1).mono ?_; rintro e w' ⟨he, dm, rfl⟩; rw [HUa.out] at he; subst he))
      refine (rpack_any _ _ _ _ _ _ _ (by omega) (by omega) (by omega) (by omega)).mono ?_
      rintro e W5 ⟨he, hW5⟩
      rw [← packE_is] at he
      subst he
      have HG5 := Lib.hid (show Grown w W5 from grown_trans (by repeat (first | with_reducible exact HG.out | with_reducible refine Grown.setCell ?_ (by simp <;> omega) _ | with_reducible refine Grown.alloc ?_ _ _ | with_reducible refine grown_more ?_ _ | with_reducible refine Grown.drew ?_)) hW5)
      have HE5 := Lib.hid (show ExcAt w.heap.size W5 from HE.out.grown (grown_trans (by repeat (first | with_reducible exact Grown.refl _ | with_reducible refine grown_more ?_ _ | with_reducible refine Grown.drew ?_)) hW5))
      clear hW5 xb x0 x1 x2 x3 x4 z0 z1 z2 z3 z4
      obtain ⟨xb, x0, x1, x2, x3, x4, z0, z1, z2, z3, z4⟩ := HE5.out
      go_wp2
      (try simp only [Exit.inBlock, Exit.then])
      refine bodyPost_ret (v := .tuple #[.int .u32 (rdV g mode s (valN (clampE x) p false)), .agg #[.bool false, .bool false, .bool (rdO g mode s (valN (clampE x) p false)), .bool (rdU g (valN (clampE x) p false)), .bool (rdX g mode s (valN (clampE x) p false))]]) ?_ rfl ⟨(packE_is _ _ _ _).trans HQ.out.symm, ?_⟩
      · rw [results_tmp_cell rfl]
        go_simp
      · repeat (first | with_reducible exact HG5.out | with_reducible refine Grown.setCell ?_ (by simp <;> omega) _ | with_reducible refine Grown.alloc ?_ _ _ | with_reducible refine grown_more ?_ _ | with_reducible refine Grown.drew ?_)

set_option maxHeartbeats 1000000 in
theorem rwiden_any (f a : Int) (w : World) (a0 : 0 ≤ a) (a1 : a ≤ 4294967295) :
    Calls Try.prog 66 #[.int .i64 f, .int .u32 a] w fun e w' => e = .returned (.int .u32 (conV f 2 0 a)) ∧ Grown w w' := by
  go_enter Try.func66, Try.ntmps66
  go_wp2_with fail
  refine (rto_any f 2 0 a _ a0 a1).mono ?_
  rintro e W1 ⟨he, hW⟩
  unfold conE at he
  subst he
  have HG := Lib.hid hW
  clear hW
  go_wp2
  go_ret
  exact ⟨rfl, by repeat (first | with_reducible exact HG.out | with_reducible refine Grown.setCell ?_ (by simp <;> omega) _ | with_reducible refine Grown.alloc ?_ _ _ | with_reducible refine grown_more ?_ _ | with_reducible refine Grown.drew ?_)⟩

theorem one_new (W : World) (a : Value) (u : TypeId) : (W.alloc (.cells #[a] u)).cell? ⟨W.heap.size, 0, none⟩ = some a := by go_simp

theorem two_new (W : World) (a b : Value) (u : TypeId) :
    (W.alloc (.cells #[a, b] u)).cell? ⟨W.heap.size, 0, none⟩ = some a ∧ (W.alloc (.cells #[a, b] u)).cell? ⟨W.heap.size, 1, none⟩ = some b := by
  refine ⟨?_, ?_⟩ <;> go_simp

theorem w_one_new (W : World) (a : Value) (u : TypeId) : (W.alloc (.cells #[a] u)).cell? ⟨W.heap.size, 0, none⟩ = some a := by go_simp

theorem ret_bub {p q p' q' : Bool} {a b : Int} (h : p = p') (g : a = b) (i : q = q') : Ending.returned (.tuple #[.bool p, .int .u64 a, .bool q]) = .returned (.tuple #[.bool p', .int .u64 b, .bool q']) := by rw [h, g, i]

theorem pack_agg (f mode : Int) (n : Bool) (V : Nat) : PackE f mode n V = .returned (.tuple #[.int .u32 (rdV f mode n V), .agg #[.bool false, .bool false, .bool (rdO f mode n V), .bool (rdU f V), .bool (rdX f mode n V)]]) := rfl

theorem w_one_under (W : World) (a : Value) (C : Array Value) (t u : TypeId) : ((W.alloc (.cells C t)).alloc (.cells #[a] u)).cell? ⟨W.heap.size + 1, 0, none⟩ = some a := by go_simp

end Go.Proofs.Ytmipefapjehkaaa
