/- The walk of FuncsEdges. (Written by gen36.py.) -/
import Derived.Test.YtheaeclojljecaaFuKnown
import Derived.Test.YtheaeclojljecaaFunMath
namespace Go.Proofs.Ytheaeclojljecaa
open Go.RowKit
set_option linter.unusedVariables false
set_option linter.unusedSimpArgs false

theorem or_topE (t : Int) (t0 : 0 ≤ t) (t1 : t < 2147483648) : bits .or .u32 t 2147483648 = t + 2147483648 ∧ bits .or .u32 t 0 = t ∧ bits .or .u32 2147483648 t = t + 2147483648 := by
  have e : sgb 2 = 2147483648 := rfl
  have h := or_zer 2 t true t0 (by rw [e]; exact t1)
  have g := or_zer 2 t false t0 (by rw [e]; exact t1)
  have k := or32 1 t 31 (x := 2147483648) t0 (by omega) (by omega) (by decide) (by omega)
  refine ⟨h, ?_, by omega⟩
  have : bits .or .u32 t (zerI 2 false) = t + zerI 2 false := g
  rw [show zerI 2 false = 0 by rfl, Int.add_zero] at this
  exact this

theorem edge_consts : expI 2139095040 = 2139095040 ∧ expI 4286578688 = 0 ∧ logI 0 = 4286578688 ∧ logI 2147483648 = 4286578688 ∧ logI 2139095040 = 2139095040 ∧ logI 4286578688 = 2143289344 ∧ tanI 2139095040 = 1065353216 ∧ tanI 4286578688 = 3212836864
    ∧ tanI 0 = 0 ∧ tanI 2147483648 = 2147483648 ∧ sigI 2139095040 = 1065353216 ∧ sigI 4286578688 = 0 := by
  have e1 : expI 2139095040 = 2139095040 := exp_over _ (by omega) (by omega) (by decide) (by decide)
  have e2 : expI 4286578688 = 0 := exp_under _ (by omega) (by omega) (by decide) (by decide)
  have n1 : negV 2139095040 = 4286578688 := by kernel_rfl
  have n2 : negV 4286578688 = 2139095040 := by kernel_rfl
  have d1 : addV 1065353216 0 = 1065353216 := by kernel_rfl
  have d2 : addV 1065353216 2139095040 = 2139095040 := by kernel_rfl
  have d3 : divV 1065353216 1065353216 = 1065353216 := by kernel_rfl
  have d4 : divV 1065353216 2139095040 = 0 := by kernel_rfl
  obtain ⟨t1, t2⟩ := tan_over 2139095040 (by omega) (by omega)
  refine ⟨e1, e2, by kernel_rfl, by kernel_rfl, by kernel_rfl, log_neg _ (by omega) (by omega), t1, t2, by kernel_rfl, by kernel_rfl, ?_, ?_⟩
  · unfold sigI; rw [n1, e2, d1, d3, show nanB 2 2139095040 = false by decide]; rfl
  · unfold sigI; rw [n2, e1, d2, d4, show nanB 2 4286578688 = false by decide]; rfl

theorem retI {a b : Int} (h : a = b) : Ending.returned (.int .u32 a) = .returned (.int .u32 b) := by rw [h]

set_option maxRecDepth 100000 in
set_option maxHeartbeats 16000000 in
theorem fuedges_walk (a0 : Int) (a1 : Bool) (w0 : (Lit.int .u32 a0).wf = true) (w : World) :
    Calls Try.prog 3 #[.int .u32 a0, .bool a1] w fun e w' => e = .returned (.bool true) ∧ Grown w w' := by
  obtain ⟨b0, b1⟩ := bounds_u32 w0
  clear w0
  have HG := Lib.hid (Grown.refl w)
  have t1 : a0.tmod 8388606 = a0 % 8388606 := Int.tmod_eq_emod_of_nonneg b0
  have t2 : a0.tmod 50331648 = a0 % 50331648 := Int.tmod_eq_emod_of_nonneg b0
  have t3 : a0.tmod 16777216 = a0 % 16777216 := Int.tmod_eq_emod_of_nonneg b0
  have t4 : a0.tmod 2139095040 = a0 % 2139095040 := Int.tmod_eq_emod_of_nonneg b0
  obtain ⟨N, hN⟩ : ∃ N, 2139095041 + a0 % 8388606 = N := ⟨_, rfl⟩
  obtain ⟨B, hB⟩ : ∃ B, 1118925337 + a0 % 50331648 = B := ⟨_, rfl⟩
  obtain ⟨U, hU⟩ : ∃ U, 3268407734 + a0 % 16777216 = U := ⟨_, rfl⟩
  obtain ⟨M, hM⟩ : ∃ M, a0 % 2139095040 + 1 = M := ⟨_, rfl⟩
  have hNb : 2139095041 ≤ N ∧ N ≤ 2147483646 := by omega
  have hBb : 1118925337 ≤ B ∧ B ≤ 1169256984 := by omega
  have hUb : 3268407734 ≤ U ∧ U ≤ 3285184949 := by omega
  have hMb : 1 ≤ M ∧ M ≤ 2139095040 := by omega
  obtain ⟨N0, N1⟩ := hNb
  obtain ⟨B0, B1⟩ := hBb
  obtain ⟨U0, U1⟩ := hUb
  obtain ⟨M0, M1⟩ := hMb
  have hoN := Lib.hid (or_topE N (by omega) (by omega))
  have hoB := Lib.hid (or_topE B (by omega) (by omega))
  have hoM := Lib.hid (or_topE M (by omega) (by omega))
  have hoI := Lib.hid (or_topE 2139095040 (by omega) (by omega))
  have hoO := Lib.hid (or_topE 1065353216 (by omega) (by omega))
  have z1 : 0 ≤ N := by omega
  have z2 : N ≤ 4294967295 := by omega
  have z3 : 0 ≤ N + 2147483648 := by omega
  have z4 : N + 2147483648 ≤ 4294967295 := by omega
  have z5 : 0 ≤ B := by omega
  have z6 : B ≤ 4294967295 := by omega
  have z7 : 0 ≤ B + 2147483648 := by omega
  have z8 : B + 2147483648 ≤ 4294967295 := by omega
  have z9 : 0 ≤ U := by omega
  have z10 : U ≤ 4294967295 := by omega
  have z11 : 0 ≤ M + 2147483648 := by omega
  have z12 : M + 2147483648 ≤ 4294967295 := by omega
  have gB : 1118925336 < kz B ∧ kz B ≤ 2139095040 := by unfold kz; rw [if_neg (by omega)]; omega
  have gU : kz U < -1120924085 ∧ -2139095040 ≤ kz U := by unfold kz; rw [if_pos (by omega)]; omega
  have E1 := Lib.hid (retI edge_consts.1)
  have E2 := Lib.hid (retI edge_consts.2.1)
  have E3 := Lib.hid (retI (exp_over B (by omega) (by omega) gB.1 gB.2))
  have E4 := Lib.hid (retI (exp_under U (by omega) (by omega) gU.1 gU.2))
  have L2 := Lib.hid (retI edge_consts.2.2.2.2.1)
  have L3 := Lib.hid (retI edge_consts.2.2.2.2.2.1)
  have L4 := Lib.hid (retI (log_neg (M + 2147483648) (by omega) (by omega)))
  have S1 := Lib.hid (retI edge_consts.2.2.2.2.2.2.2.2.2.2.1)
  have S2 := Lib.hid (retI edge_consts.2.2.2.2.2.2.2.2.2.2.2)
  have hT := Lib.hid (tan_over B (by omega) (by omega))
  clear gB gU
  cases a1
  case false =>
    have hF := Lib.hid (fun_nan N (nan_big _ (by omega) (by omega) (by omega)))
    have F1 := Lib.hid (retI hF.out.1)
    have F2 := Lib.hid (retI hF.out.2.1)
    have F3 := Lib.hid (retI hF.out.2.2.1)
    have F4 := Lib.hid (retI hF.out.2.2.2.1)
    have F5 := Lib.hid (retI hF.out.2.2.2.2.1)
    have F6 := Lib.hid (retI hF.out.2.2.2.2.2.1)
    have F7 := Lib.hid (retI hF.out.2.2.2.2.2.2)
    have L1 := Lib.hid (retI edge_consts.2.2.1)
    have T1 := Lib.hid (retI edge_consts.2.2.2.2.2.2.1)
    have T2 := Lib.hid (retI hT.out.1)
    have T3 := Lib.hid (retI edge_consts.2.2.2.2.2.2.2.2.1)
    clear hT hF
    have oN := hoN.out.2.1
    have oB := hoB.out.2.1
    have oM := hoM.out.2.2
    have oI := hoI.out.2.1
    have oO := hoO.out.2.1
    go_enter Try.func3, Try.ntmps3
    go_wp2_with (first
      | (go_at_call 6; refine (known12_any _).mono ?_; rintro e W1 ⟨rfl, hW1⟩; replace HG := Lib.hid (show Grown w W1 from grown_trans (by repeat (first | with_reducible exact HG.out | with_reducible refine Grown.setCell ?_ (by simp <;> omega) _ | with_reducible refine Grown.alloc ?_ _ _ | with_reducible refine grown_more ?_ _ | with_reducible refine Grown.drew ?_)) hW1); clear hW1))
    have HC := Lib.hid (cellsof_new W1 [.func (Fn.func 7) #[] #[], .func (Fn.func 8) #[] #[], .func (Fn.func 9) #[] #[], .func (Fn.func 10) #[] #[], .func (Fn.func 11) #[] #[], .func (Fn.func 12) #[] #[], .func (Fn.func 13) #[] #[]] 24)
    replace HG := Lib.hid (show Grown w (W1.alloc (.cells #[.func (Fn.func 7) #[] #[], .func (Fn.func 8) #[] #[], .func (Fn.func 9) #[] #[], .func (Fn.func 10) #[] #[], .func (Fn.func 11) #[] #[], .func (Fn.func 12) #[] #[], .func (Fn.func 13) #[] #[]] 24)) from Grown.alloc HG.out _ _)
    generalize (W1.alloc _) = W0 at HC HG ⊢
    generalize W1.heap.size = b at HC ⊢
    have y0 : W0.cell? ⟨b, 0, none⟩ = some (.func (Fn.func 7) #[] #[]) := HC.out.cell 0 (by simp)
    have y1 : W0.cell? ⟨b, 1, none⟩ = some (.func (Fn.func 8) #[] #[]) := HC.out.cell 1 (by simp)
    have y2 : W0.cell? ⟨b, 2, none⟩ = some (.func (Fn.func 9) #[] #[]) := HC.out.cell 2 (by simp)
    have y3 : W0.cell? ⟨b, 3, none⟩ = some (.func (Fn.func 10) #[] #[]) := HC.out.cell 3 (by simp)
    have y4 : W0.cell? ⟨b, 4, none⟩ = some (.func (Fn.func 11) #[] #[]) := HC.out.cell 4 (by simp)
    have y5 : W0.cell? ⟨b, 5, none⟩ = some (.func (Fn.func 12) #[] #[]) := HC.out.cell 5 (by simp)
    have y6 : W0.cell? ⟨b, 6, none⟩ = some (.func (Fn.func 13) #[] #[]) := HC.out.cell 6 (by simp)
    refine wp_loop_rounds 8 ?_
    repeat any_goals (rw [rounds_succ]; go_wp2_with (first
      | (go_at_call 7; refine (fexp_any _ _ (by first | decide | with_reducible assumption) (by first | decide | with_reducible assumption)).mono ?_; rintro e W1 ⟨he, _, _, hW1⟩; rw [F1.out] at he; subst he; replace HG := Lib.hid (show Grown w W1 from grown_trans (by repeat (first | with_reducible exact HG.out | with_reducible refine Grown.setCell ?_ (by simp <;> omega) _ | with_reducible refine Grown.alloc ?_ _ _ | with_reducible refine grown_more ?_ _ | with_reducible refine Grown.drew ?_)) hW1); replace HC := Lib.hid (HC.out.grown hW1); clear y0 y1 y2 y3 y4 y5 y6; have y0 : W1.cell? ⟨b, 0, none⟩ = some (.func (Fn.func 7) #[] #[]) := HC.out.cell 0 (by simp); have y1 : W1.cell? ⟨b, 1, none⟩ = some (.func (Fn.func 8) #[] #[]) := HC.out.cell 1 (by simp); have y2 : W1.cell? ⟨b, 2, none⟩ = some (.func (Fn.func 9) #[] #[]) := HC.out.cell 2 (by simp); have y3 : W1.cell? ⟨b, 3, none⟩ = some (.func (Fn.func 10) #[] #[]) := HC.out.cell 3 (by simp); have y4 : W1.cell? ⟨b, 4, none⟩ = some (.func (Fn.func 11) #[] #[]) := HC.out.cell 4 (by simp); have y5 : W1.cell? ⟨b, 5, none⟩ = some (.func (Fn.func 12) #[] #[]) := HC.out.cell 5 (by simp); have y6 : W1.cell? ⟨b, 6, none⟩ = some (.func (Fn.func 13) #[] #[]) := HC.out.cell 6 (by simp); clear hW1)
      | (go_at_call 8; refine (flog_any _ _ (by first | decide | with_reducible assumption) (by first | decide | with_reducible assumption)).mono ?_; rintro e W1 ⟨he, _, _, hW1⟩; rw [F2.out] at he; subst he; replace HG := Lib.hid (show Grown w W1 from grown_trans (by repeat (first | with_reducible exact HG.out | with_reducible refine Grown.setCell ?_ (by simp <;> omega) _ | with_reducible refine Grown.alloc ?_ _ _ | with_reducible refine grown_more ?_ _ | with_reducible refine Grown.drew ?_)) hW1); replace HC := Lib.hid (HC.out.grown hW1); clear y0 y1 y2 y3 y4 y5 y6; have y0 : W1.cell? ⟨b, 0, none⟩ = some (.func (Fn.func 7) #[] #[]) := HC.out.cell 0 (by simp); have y1 : W1.cell? ⟨b, 1, none⟩ = some (.func (Fn.func 8) #[] #[]) := HC.out.cell 1 (by simp); have y2 : W1.cell? ⟨b, 2, none⟩ = some (.func (Fn.func 9) #[] #[]) := HC.out.cell 2 (by simp); have y3 : W1.cell? ⟨b, 3, none⟩ = some (.func (Fn.func 10) #[] #[]) := HC.out.cell 3 (by simp); have y4 : W1.cell? ⟨b, 4, none⟩ = some (.func (Fn.func 11) #[] #[]) := HC.out.cell 4 (by simp); have y5 : W1.cell? ⟨b, 5, none⟩ = some (.func (Fn.func 12) #[] #[]) := HC.out.cell 5 (by simp); have y6 : W1.cell? ⟨b, 6, none⟩ = some (.func (Fn.func 13) #[] #[]) := HC.out.cell 6 (by simp); clear hW1)
      | (go_at_call 9; refine (ftan_any _ _ (by first | decide | with_reducible assumption) (by first | decide | with_reducible assumption)).mono ?_; rintro e W1 ⟨he, _, _, hW1⟩; rw [F3.out] at he; subst he; replace HG := Lib.hid (show Grown w W1 from grown_trans (by repeat (first | with_reducible exact HG.out | with_reducible refine Grown.setCell ?_ (by simp <;> omega) _ | with_reducible refine Grown.alloc ?_ _ _ | with_reducible refine grown_more ?_ _ | with_reducible refine Grown.drew ?_)) hW1); replace HC := Lib.hid (HC.out.grown hW1); clear y0 y1 y2 y3 y4 y5 y6; have y0 : W1.cell? ⟨b, 0, none⟩ = some (.func (Fn.func 7) #[] #[]) := HC.out.cell 0 (by simp); have y1 : W1.cell? ⟨b, 1, none⟩ = some (.func (Fn.func 8) #[] #[]) := HC.out.cell 1 (by simp); have y2 : W1.cell? ⟨b, 2, none⟩ = some (.func (Fn.func 9) #[] #[]) := HC.out.cell 2 (by simp); have y3 : W1.cell? ⟨b, 3, none⟩ = some (.func (Fn.func 10) #[] #[]) := HC.out.cell 3 (by simp); have y4 : W1.cell? ⟨b, 4, none⟩ = some (.func (Fn.func 11) #[] #[]) := HC.out.cell 4 (by simp); have y5 : W1.cell? ⟨b, 5, none⟩ = some (.func (Fn.func 12) #[] #[]) := HC.out.cell 5 (by simp); have y6 : W1.cell? ⟨b, 6, none⟩ = some (.func (Fn.func 13) #[] #[]) := HC.out.cell 6 (by simp); clear hW1)
      | (go_at_call 10; refine (fsig_any _ _ (by first | decide | with_reducible assumption) (by first | decide | with_reducible assumption)).mono ?_; rintro e W1 ⟨he, _, _, hW1⟩; rw [F4.out] at he; subst he; replace HG := Lib.hid (show Grown w W1 from grown_trans (by repeat (first | with_reducible exact HG.out | with_reducible refine Grown.setCell ?_ (by simp <;> omega) _ | with_reducible refine Grown.alloc ?_ _ _ | with_reducible refine grown_more ?_ _ | with_reducible refine Grown.drew ?_)) hW1); replace HC := Lib.hid (HC.out.grown hW1); clear y0 y1 y2 y3 y4 y5 y6; have y0 : W1.cell? ⟨b, 0, none⟩ = some (.func (Fn.func 7) #[] #[]) := HC.out.cell 0 (by simp); have y1 : W1.cell? ⟨b, 1, none⟩ = some (.func (Fn.func 8) #[] #[]) := HC.out.cell 1 (by simp); have y2 : W1.cell? ⟨b, 2, none⟩ = some (.func (Fn.func 9) #[] #[]) := HC.out.cell 2 (by simp); have y3 : W1.cell? ⟨b, 3, none⟩ = some (.func (Fn.func 10) #[] #[]) := HC.out.cell 3 (by simp); have y4 : W1.cell? ⟨b, 4, none⟩ = some (.func (Fn.func 11) #[] #[]) := HC.out.cell 4 (by simp); have y5 : W1.cell? ⟨b, 5, none⟩ = some (.func (Fn.func 12) #[] #[]) := HC.out.cell 5 (by simp); have y6 : W1.cell? ⟨b, 6, none⟩ = some (.func (Fn.func 13) #[] #[]) := HC.out.cell 6 (by simp); clear hW1)
      | (go_at_call 11; refine (fgel_any _ _ (by first | decide | with_reducible assumption) (by first | decide | with_reducible assumption)).mono ?_; rintro e W1 ⟨he, _, _, hW1⟩; rw [F5.out] at he; subst he; replace HG := Lib.hid (show Grown w W1 from grown_trans (by repeat (first | with_reducible exact HG.out | with_reducible refine Grown.setCell ?_ (by simp <;> omega) _ | with_reducible refine Grown.alloc ?_ _ _ | with_reducible refine grown_more ?_ _ | with_reducible refine Grown.drew ?_)) hW1); replace HC := Lib.hid (HC.out.grown hW1); clear y0 y1 y2 y3 y4 y5 y6; have y0 : W1.cell? ⟨b, 0, none⟩ = some (.func (Fn.func 7) #[] #[]) := HC.out.cell 0 (by simp); have y1 : W1.cell? ⟨b, 1, none⟩ = some (.func (Fn.func 8) #[] #[]) := HC.out.cell 1 (by simp); have y2 : W1.cell? ⟨b, 2, none⟩ = some (.func (Fn.func 9) #[] #[]) := HC.out.cell 2 (by simp); have y3 : W1.cell? ⟨b, 3, none⟩ = some (.func (Fn.func 10) #[] #[]) := HC.out.cell 3 (by simp); have y4 : W1.cell? ⟨b, 4, none⟩ = some (.func (Fn.func 11) #[] #[]) := HC.out.cell 4 (by simp); have y5 : W1.cell? ⟨b, 5, none⟩ = some (.func (Fn.func 12) #[] #[]) := HC.out.cell 5 (by simp); have y6 : W1.cell? ⟨b, 6, none⟩ = some (.func (Fn.func 13) #[] #[]) := HC.out.cell 6 (by simp); clear hW1)
      | (go_at_call 12; refine (fslo_any _ _ (by first | decide | with_reducible assumption) (by first | decide | with_reducible assumption)).mono ?_; rintro e W1 ⟨he, _, _, hW1⟩; rw [F6.out] at he; subst he; replace HG := Lib.hid (show Grown w W1 from grown_trans (by repeat (first | with_reducible exact HG.out | with_reducible refine Grown.setCell ?_ (by simp <;> omega) _ | with_reducible refine Grown.alloc ?_ _ _ | with_reducible refine grown_more ?_ _ | with_reducible refine Grown.drew ?_)) hW1); replace HC := Lib.hid (HC.out.grown hW1); clear y0 y1 y2 y3 y4 y5 y6; have y0 : W1.cell? ⟨b, 0, none⟩ = some (.func (Fn.func 7) #[] #[]) := HC.out.cell 0 (by simp); have y1 : W1.cell? ⟨b, 1, none⟩ = some (.func (Fn.func 8) #[] #[]) := HC.out.cell 1 (by simp); have y2 : W1.cell? ⟨b, 2, none⟩ = some (.func (Fn.func 9) #[] #[]) := HC.out.cell 2 (by simp); have y3 : W1.cell? ⟨b, 3, none⟩ = some (.func (Fn.func 10) #[] #[]) := HC.out.cell 3 (by simp); have y4 : W1.cell? ⟨b, 4, none⟩ = some (.func (Fn.func 11) #[] #[]) := HC.out.cell 4 (by simp); have y5 : W1.cell? ⟨b, 5, none⟩ = some (.func (Fn.func 12) #[] #[]) := HC.out.cell 5 (by simp); have y6 : W1.cell? ⟨b, 6, none⟩ = some (.func (Fn.func 13) #[] #[]) := HC.out.cell 6 (by simp); clear hW1)
      | (go_at_call 13; refine (fcos_any _ _ (by first | decide | with_reducible assumption) (by first | decide | with_reducible assumption)).mono ?_; rintro e W1 ⟨he, _, _, hW1⟩; rw [F7.out] at he; subst he; replace HG := Lib.hid (show Grown w W1 from grown_trans (by repeat (first | with_reducible exact HG.out | with_reducible refine Grown.setCell ?_ (by simp <;> omega) _ | with_reducible refine Grown.alloc ?_ _ _ | with_reducible refine grown_more ?_ _ | with_reducible refine Grown.drew ?_)) hW1); replace HC := Lib.hid (HC.out.grown hW1); clear y0 y1 y2 y3 y4 y5 y6; have y0 : W1.cell? ⟨b, 0, none⟩ = some (.func (Fn.func 7) #[] #[]) := HC.out.cell 0 (by simp); have y1 : W1.cell? ⟨b, 1, none⟩ = some (.func (Fn.func 8) #[] #[]) := HC.out.cell 1 (by simp); have y2 : W1.cell? ⟨b, 2, none⟩ = some (.func (Fn.func 9) #[] #[]) := HC.out.cell 2 (by simp); have y3 : W1.cell? ⟨b, 3, none⟩ = some (.func (Fn.func 10) #[] #[]) := HC.out.cell 3 (by simp); have y4 : W1.cell? ⟨b, 4, none⟩ = some (.func (Fn.func 11) #[] #[]) := HC.out.cell 4 (by simp); have y5 : W1.cell? ⟨b, 5, none⟩ = some (.func (Fn.func 12) #[] #[]) := HC.out.cell 5 (by simp); have y6 : W1.cell? ⟨b, 6, none⟩ = some (.func (Fn.func 13) #[] #[]) := HC.out.cell 6 (by simp); clear hW1)
      | (go_at_call 7; refine (fexp_any _ _ (by first | decide | with_reducible assumption) (by first | decide | with_reducible assumption)).mono ?_; rintro e W1 ⟨he, _, _, hW1⟩; (first | rw [E1.out] at he | rw [E2.out] at he | rw [E3.out] at he | rw [E4.out] at he); subst he; replace HG := Lib.hid (show Grown w W1 from grown_trans (by repeat (first | with_reducible exact HG.out | with_reducible refine Grown.setCell ?_ (by simp <;> omega) _ | with_reducible refine Grown.alloc ?_ _ _ | with_reducible refine grown_more ?_ _ | with_reducible refine Grown.drew ?_)) hW1); clear hW1)
      | (go_at_call 8; refine (flog_any _ _ (by first | decide | with_reducible assumption) (by first | decide | with_reducible assumption)).mono ?_; rintro e W1 ⟨he, _, _, hW1⟩; (first | rw [L1.out] at he | rw [L2.out] at he | rw [L3.out] at he | rw [L4.out] at he); subst he; replace HG := Lib.hid (show Grown w W1 from grown_trans (by repeat (first | with_reducible exact HG.out | with_reducible refine Grown.setCell ?_ (by simp <;> omega) _ | with_reducible refine Grown.alloc ?_ _ _ | with_reducible refine grown_more ?_ _ | with_reducible refine Grown.drew ?_)) hW1); clear hW1)
      | (go_at_call 9; refine (ftan_any _ _ (by first | decide | with_reducible assumption) (by first | decide | with_reducible assumption)).mono ?_; rintro e W1 ⟨he, _, _, hW1⟩; (first | rw [T1.out] at he | rw [T2.out] at he | rw [T3.out] at he); subst he; replace HG := Lib.hid (show Grown w W1 from grown_trans (by repeat (first | with_reducible exact HG.out | with_reducible refine Grown.setCell ?_ (by simp <;> omega) _ | with_reducible refine Grown.alloc ?_ _ _ | with_reducible refine grown_more ?_ _ | with_reducible refine Grown.drew ?_)) hW1); clear hW1)
      | (go_at_call 10; refine (fsig_any _ _ (by first | decide | with_reducible assumption) (by first | decide | with_reducible assumption)).mono ?_; rintro e W1 ⟨he, _, _, hW1⟩; (first | rw [S1.out] at he | rw [S2.out] at he); subst he; replace HG := Lib.hid (show Grown w W1 from grown_trans (by repeat (first | with_reducible exact HG.out | with_reducible refine Grown.setCell ?_ (by simp <;> omega) _ | with_reducible refine Grown.alloc ?_ _ _ | with_reducible refine grown_more ?_ _ | with_reducible refine Grown.drew ?_)) hW1); clear hW1)))
    go_ret
    exact ⟨rfl, HG.out⟩
  case true =>
    have hF := Lib.hid (fun_nan (N + 2147483648) (nan_big _ (by omega) (by omega) (by omega)))
    have F1 := Lib.hid (retI hF.out.1)
    have F2 := Lib.hid (retI hF.out.2.1)
    have F3 := Lib.hid (retI hF.out.2.2.1)
    have F4 := Lib.hid (retI hF.out.2.2.2.1)
    have F5 := Lib.hid (retI hF.out.2.2.2.2.1)
    have F6 := Lib.hid (retI hF.out.2.2.2.2.2.1)
    have F7 := Lib.hid (retI hF.out.2.2.2.2.2.2)
    have L1 := Lib.hid (retI edge_consts.2.2.2.1)
    have T1 := Lib.hid (retI edge_consts.2.2.2.2.2.2.2.1)
    have T2 := Lib.hid (retI hT.out.2)
    have T3 := Lib.hid (retI edge_consts.2.2.2.2.2.2.2.2.2.1)
    clear hT hF
    have oN := hoN.out.1
    have oB := hoB.out.1
    have oM := hoM.out.2.2
    have oI := hoI.out.1
    have oO := hoO.out.1
    go_enter Try.func3, Try.ntmps3
    go_wp2_with (first
      | (go_at_call 6; refine (known12_any _).mono ?_; rintro e W1 ⟨rfl, hW1⟩; replace HG := Lib.hid (show Grown w W1 from grown_trans (by repeat (first | with_reducible exact HG.out | with_reducible refine Grown.setCell ?_ (by simp <;> omega) _ | with_reducible refine Grown.alloc ?_ _ _ | with_reducible refine grown_more ?_ _ | with_reducible refine Grown.drew ?_)) hW1); clear hW1))
    have HC := Lib.hid (cellsof_new W1 [.func (Fn.func 7) #[] #[], .func (Fn.func 8) #[] #[], .func (Fn.func 9) #[] #[], .func (Fn.func 10) #[] #[], .func (Fn.func 11) #[] #[], .func (Fn.func 12) #[] #[], .func (Fn.func 13) #[] #[]] 24)
    replace HG := Lib.hid (show Grown w (W1.alloc (.cells #[.func (Fn.func 7) #[] #[], .func (Fn.func 8) #[] #[], .func (Fn.func 9) #[] #[], .func (Fn.func 10) #[] #[], .func (Fn.func 11) #[] #[], .func (Fn.func 12) #[] #[], .func (Fn.func 13) #[] #[]] 24)) from Grown.alloc HG.out _ _)
    generalize (W1.alloc _) = W0 at HC HG ⊢
    generalize W1.heap.size = b at HC ⊢
    have y0 : W0.cell? ⟨b, 0, none⟩ = some (.func (Fn.func 7) #[] #[]) := HC.out.cell 0 (by simp)
    have y1 : W0.cell? ⟨b, 1, none⟩ = some (.func (Fn.func 8) #[] #[]) := HC.out.cell 1 (by simp)
    have y2 : W0.cell? ⟨b, 2, none⟩ = some (.func (Fn.func 9) #[] #[]) := HC.out.cell 2 (by simp)
    have y3 : W0.cell? ⟨b, 3, none⟩ = some (.func (Fn.func 10) #[] #[]) := HC.out.cell 3 (by simp)
    have y4 : W0.cell? ⟨b, 4, none⟩ = some (.func (Fn.func 11) #[] #[]) := HC.out.cell 4 (by simp)
    have y5 : W0.cell? ⟨b, 5, none⟩ = some (.func (Fn.func 12) #[] #[]) := HC.out.cell 5 (by simp)
    have y6 : W0.cell? ⟨b, 6, none⟩ = some (.func (Fn.func 13) #[] #[]) := HC.out.cell 6 (by simp)
    refine wp_loop_rounds 8 ?_
    repeat any_goals (rw [rounds_succ]; go_wp2_with (first
      | (go_at_call 7; refine (fexp_any _ _ (by first | decide | with_reducible assumption) (by first | decide | with_reducible assumption)).mono ?_; rintro e W1 ⟨he, _, _, hW1⟩; rw [F1.out] at he; subst he; replace HG := Lib.hid (show Grown w W1 from grown_trans (by repeat (first | with_reducible exact HG.out | with_reducible refine Grown.setCell ?_ (by simp <;> omega) _ | with_reducible refine Grown.alloc ?_ _ _ | with_reducible refine grown_more ?_ _ | with_reducible refine Grown.drew ?_)) hW1); replace HC := Lib.hid (HC.out.grown hW1); clear y0 y1 y2 y3 y4 y5 y6; have y0 : W1.cell? ⟨b, 0, none⟩ = some (.func (Fn.func 7) #[] #[]) := HC.out.cell 0 (by simp); have y1 : W1.cell? ⟨b, 1, none⟩ = some (.func (Fn.func 8) #[] #[]) := HC.out.cell 1 (by simp); have y2 : W1.cell? ⟨b, 2, none⟩ = some (.func (Fn.func 9) #[] #[]) := HC.out.cell 2 (by simp); have y3 : W1.cell? ⟨b, 3, none⟩ = some (.func (Fn.func 10) #[] #[]) := HC.out.cell 3 (by simp); have y4 : W1.cell? ⟨b, 4, none⟩ = some (.func (Fn.func 11) #[] #[]) := HC.out.cell 4 (by simp); have y5 : W1.cell? ⟨b, 5, none⟩ = some (.func (Fn.func 12) #[] #[]) := HC.out.cell 5 (by simp); have y6 : W1.cell? ⟨b, 6, none⟩ = some (.func (Fn.func 13) #[] #[]) := HC.out.cell 6 (by simp); clear hW1)
      | (go_at_call 8; refine (flog_any _ _ (by first | decide | with_reducible assumption) (by first | decide | with_reducible assumption)).mono ?_; rintro e W1 ⟨he, _, _, hW1⟩; rw [F2.out] at he; subst he; replace HG := Lib.hid (show Grown w W1 from grown_trans (by repeat (first | with_reducible exact HG.out | with_reducible refine Grown.setCell ?_ (by simp <;> omega) _ | with_reducible refine Grown.alloc ?_ _ _ | with_reducible refine grown_more ?_ _ | with_reducible refine Grown.drew ?_)) hW1); replace HC := Lib.hid (HC.out.grown hW1); clear y0 y1 y2 y3 y4 y5 y6; have y0 : W1.cell? ⟨b, 0, none⟩ = some (.func (Fn.func 7) #[] #[]) := HC.out.cell 0 (by simp); have y1 : W1.cell? ⟨b, 1, none⟩ = some (.func (Fn.func 8) #[] #[]) := HC.out.cell 1 (by simp); have y2 : W1.cell? ⟨b, 2, none⟩ = some (.func (Fn.func 9) #[] #[]) := HC.out.cell 2 (by simp); have y3 : W1.cell? ⟨b, 3, none⟩ = some (.func (Fn.func 10) #[] #[]) := HC.out.cell 3 (by simp); have y4 : W1.cell? ⟨b, 4, none⟩ = some (.func (Fn.func 11) #[] #[]) := HC.out.cell 4 (by simp); have y5 : W1.cell? ⟨b, 5, none⟩ = some (.func (Fn.func 12) #[] #[]) := HC.out.cell 5 (by simp); have y6 : W1.cell? ⟨b, 6, none⟩ = some (.func (Fn.func 13) #[] #[]) := HC.out.cell 6 (by simp); clear hW1)
      | (go_at_call 9; refine (ftan_any _ _ (by first | decide | with_reducible assumption) (by first | decide | with_reducible assumption)).mono ?_; rintro e W1 ⟨he, _, _, hW1⟩; rw [F3.out] at he; subst he; replace HG := Lib.hid (show Grown w W1 from grown_trans (by repeat (first | with_reducible exact HG.out | with_reducible refine Grown.setCell ?_ (by simp <;> omega) _ | with_reducible refine Grown.alloc ?_ _ _ | with_reducible refine grown_more ?_ _ | with_reducible refine Grown.drew ?_)) hW1); replace HC := Lib.hid (HC.out.grown hW1); clear y0 y1 y2 y3 y4 y5 y6; have y0 : W1.cell? ⟨b, 0, none⟩ = some (.func (Fn.func 7) #[] #[]) := HC.out.cell 0 (by simp); have y1 : W1.cell? ⟨b, 1, none⟩ = some (.func (Fn.func 8) #[] #[]) := HC.out.cell 1 (by simp); have y2 : W1.cell? ⟨b, 2, none⟩ = some (.func (Fn.func 9) #[] #[]) := HC.out.cell 2 (by simp); have y3 : W1.cell? ⟨b, 3, none⟩ = some (.func (Fn.func 10) #[] #[]) := HC.out.cell 3 (by simp); have y4 : W1.cell? ⟨b, 4, none⟩ = some (.func (Fn.func 11) #[] #[]) := HC.out.cell 4 (by simp); have y5 : W1.cell? ⟨b, 5, none⟩ = some (.func (Fn.func 12) #[] #[]) := HC.out.cell 5 (by simp); have y6 : W1.cell? ⟨b, 6, none⟩ = some (.func (Fn.func 13) #[] #[]) := HC.out.cell 6 (by simp); clear hW1)
      | (go_at_call 10; refine (fsig_any _ _ (by first | decide | with_reducible assumption) (by first | decide | with_reducible assumption)).mono ?_; rintro e W1 ⟨he, _, _, hW1⟩; rw [F4.out] at he; subst he; replace HG := Lib.hid (show Grown w W1 from grown_trans (by repeat (first | with_reducible exact HG.out | with_reducible refine Grown.setCell ?_ (by simp <;> omega) _ | with_reducible refine Grown.alloc ?_ _ _ | with_reducible refine grown_more ?_ _ | with_reducible refine Grown.drew ?_)) hW1); replace HC := Lib.hid (HC.out.grown hW1); clear y0 y1 y2 y3 y4 y5 y6; have y0 : W1.cell? ⟨b, 0, none⟩ = some (.func (Fn.func 7) #[] #[]) := HC.out.cell 0 (by simp); have y1 : W1.cell? ⟨b, 1, none⟩ = some (.func (Fn.func 8) #[] #[]) := HC.out.cell 1 (by simp); have y2 : W1.cell? ⟨b, 2, none⟩ = some (.func (Fn.func 9) #[] #[]) := HC.out.cell 2 (by simp); have y3 : W1.cell? ⟨b, 3, none⟩ = some (.func (Fn.func 10) #[] #[]) := HC.out.cell 3 (by simp); have y4 : W1.cell? ⟨b, 4, none⟩ = some (.func (Fn.func 11) #[] #[]) := HC.out.cell 4 (by simp); have y5 : W1.cell? ⟨b, 5, none⟩ = some (.func (Fn.func 12) #[] #[]) := HC.out.cell 5 (by simp); have y6 : W1.cell? ⟨b, 6, none⟩ = some (.func (Fn.func 13) #[] #[]) := HC.out.cell 6 (by simp); clear hW1)
      | (go_at_call 11; refine (fgel_any _ _ (by first | decide | with_reducible assumption) (by first | decide | with_reducible assumption)).mono ?_; rintro e W1 ⟨he, _, _, hW1⟩; rw [F5.out] at he; subst he; replace HG := Lib.hid (show Grown w W1 from grown_trans (by repeat (first | with_reducible exact HG.out | with_reducible refine Grown.setCell ?_ (by simp <;> omega) _ | with_reducible refine Grown.alloc ?_ _ _ | with_reducible refine grown_more ?_ _ | with_reducible refine Grown.drew ?_)) hW1); replace HC := Lib.hid (HC.out.grown hW1); clear y0 y1 y2 y3 y4 y5 y6; have y0 : W1.cell? ⟨b, 0, none⟩ = some (.func (Fn.func 7) #[] #[]) := HC.out.cell 0 (by simp); have y1 : W1.cell? ⟨b, 1, none⟩ = some (.func (Fn.func 8) #[] #[]) := HC.out.cell 1 (by simp); have y2 : W1.cell? ⟨b, 2, none⟩ = some (.func (Fn.func 9) #[] #[]) := HC.out.cell 2 (by simp); have y3 : W1.cell? ⟨b, 3, none⟩ = some (.func (Fn.func 10) #[] #[]) := HC.out.cell 3 (by simp); have y4 : W1.cell? ⟨b, 4, none⟩ = some (.func (Fn.func 11) #[] #[]) := HC.out.cell 4 (by simp); have y5 : W1.cell? ⟨b, 5, none⟩ = some (.func (Fn.func 12) #[] #[]) := HC.out.cell 5 (by simp); have y6 : W1.cell? ⟨b, 6, none⟩ = some (.func (Fn.func 13) #[] #[]) := HC.out.cell 6 (by simp); clear hW1)
      | (go_at_call 12; refine (fslo_any _ _ (by first | decide | with_reducible assumption) (by first | decide | with_reducible assumption)).mono ?_; rintro e W1 ⟨he, _, _, hW1⟩; rw [F6.out] at he; subst he; replace HG := Lib.hid (show Grown w W1 from grown_trans (by repeat (first | with_reducible exact HG.out | with_reducible refine Grown.setCell ?_ (by simp <;> omega) _ | with_reducible refine Grown.alloc ?_ _ _ | with_reducible refine grown_more ?_ _ | with_reducible refine Grown.drew ?_)) hW1); replace HC := Lib.hid (HC.out.grown hW1); clear y0 y1 y2 y3 y4 y5 y6; have y0 : W1.cell? ⟨b, 0, none⟩ = some (.func (Fn.func 7) #[] #[]) := HC.out.cell 0 (by simp); have y1 : W1.cell? ⟨b, 1, none⟩ = some (.func (Fn.func 8) #[] #[]) := HC.out.cell 1 (by simp); have y2 : W1.cell? ⟨b, 2, none⟩ = some (.func (Fn.func 9) #[] #[]) := HC.out.cell 2 (by simp); have y3 : W1.cell? ⟨b, 3, none⟩ = some (.func (Fn.func 10) #[] #[]) := HC.out.cell 3 (by simp); have y4 : W1.cell? ⟨b, 4, none⟩ = some (.func (Fn.func 11) #[] #[]) := HC.out.cell 4 (by simp); have y5 : W1.cell? ⟨b, 5, none⟩ = some (.func (Fn.func 12) #[] #[]) := HC.out.cell 5 (by simp); have y6 : W1.cell? ⟨b, 6, none⟩ = some (.func (Fn.func 13) #[] #[]) := HC.out.cell 6 (by simp); clear hW1)
      | (go_at_call 13; refine (fcos_any _ _ (by first | decide | with_reducible assumption) (by first | decide | with_reducible assumption)).mono ?_; rintro e W1 ⟨he, _, _, hW1⟩; rw [F7.out] at he; subst he; replace HG := Lib.hid (show Grown w W1 from grown_trans (by repeat (first | with_reducible exact HG.out | with_reducible refine Grown.setCell ?_ (by simp <;> omega) _ | with_reducible refine Grown.alloc ?_ _ _ | with_reducible refine grown_more ?_ _ | with_reducible refine Grown.drew ?_)) hW1); replace HC := Lib.hid (HC.out.grown hW1); clear y0 y1 y2 y3 y4 y5 y6; have y0 : W1.cell? ⟨b, 0, none⟩ = some (.func (Fn.func 7) #[] #[]) := HC.out.cell 0 (by simp); have y1 : W1.cell? ⟨b, 1, none⟩ = some (.func (Fn.func 8) #[] #[]) := HC.out.cell 1 (by simp); have y2 : W1.cell? ⟨b, 2, none⟩ = some (.func (Fn.func 9) #[] #[]) := HC.out.cell 2 (by simp); have y3 : W1.cell? ⟨b, 3, none⟩ = some (.func (Fn.func 10) #[] #[]) := HC.out.cell 3 (by simp); have y4 : W1.cell? ⟨b, 4, none⟩ = some (.func (Fn.func 11) #[] #[]) := HC.out.cell 4 (by simp); have y5 : W1.cell? ⟨b, 5, none⟩ = some (.func (Fn.func 12) #[] #[]) := HC.out.cell 5 (by simp); have y6 : W1.cell? ⟨b, 6, none⟩ = some (.func (Fn.func 13) #[] #[]) := HC.out.cell 6 (by simp); clear hW1)
      | (go_at_call 7; refine (fexp_any _ _ (by first | decide | with_reducible assumption) (by first | decide | with_reducible assumption)).mono ?_; rintro e W1 ⟨he, _, _, hW1⟩; (first | rw [E1.out] at he | rw [E2.out] at he | rw [E3.out] at he | rw [E4.out] at he); subst he; replace HG := Lib.hid (show Grown w W1 from grown_trans (by repeat (first | with_reducible exact HG.out | with_reducible refine Grown.setCell ?_ (by simp <;> omega) _ | with_reducible refine Grown.alloc ?_ _ _ | with_reducible refine grown_more ?_ _ | with_reducible refine Grown.drew ?_)) hW1); clear hW1)
      | (go_at_call 8; refine (flog_any _ _ (by first | decide | with_reducible assumption) (by first | decide | with_reducible assumption)).mono ?_; rintro e W1 ⟨he, _, _, hW1⟩; (first | rw [L1.out] at he | rw [L2.out] at he | rw [L3.out] at he | rw [L4.out] at he); subst he; replace HG := Lib.hid (show Grown w W1 from grown_trans (by repeat (first | with_reducible exact HG.out | with_reducible refine Grown.setCell ?_ (by simp <;> omega) _ | with_reducible refine Grown.alloc ?_ _ _ | with_reducible refine grown_more ?_ _ | with_reducible refine Grown.drew ?_)) hW1); clear hW1)
      | (go_at_call 9; refine (ftan_any _ _ (by first | decide | with_reducible assumption) (by first | decide | with_reducible assumption)).mono ?_; rintro e W1 ⟨he, _, _, hW1⟩; (first | rw [T1.out] at he | rw [T2.out] at he | rw [T3.out] at he); subst he; replace HG := Lib.hid (show Grown w W1 from grown_trans (by repeat (first | with_reducible exact HG.out | with_reducible refine Grown.setCell ?_ (by simp <;> omega) _ | with_reducible refine Grown.alloc ?_ _ _ | with_reducible refine grown_more ?_ _ | with_reducible refine Grown.drew ?_)) hW1); clear hW1)
      | (go_at_call 10; refine (fsig_any _ _ (by first | decide | with_reducible assumption) (by first | decide | with_reducible assumption)).mono ?_; rintro e W1 ⟨he, _, _, hW1⟩; (first | rw [S1.out] at he | rw [S2.out] at he); subst he; replace HG := Lib.hid (show Grown w W1 from grown_trans (by repeat (first | with_reducible exact HG.out | with_reducible refine Grown.setCell ?_ (by simp <;> omega) _ | with_reducible refine Grown.alloc ?_ _ _ | with_reducible refine grown_more ?_ _ | with_reducible refine Grown.drew ?_)) hW1); clear hW1)))
    go_ret
    exact ⟨rfl, HG.out⟩
end Go.Proofs.Ytheaeclojljecaa
