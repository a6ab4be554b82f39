/- Contracts of package sum: Add. -/
import Derived.Test.YtheaeclojljecaaSum
import Derived.Test.YtheaeclojljecaaWorld
namespace Go.Proofs.Ytheaeclojljecaa
open Go.RowKit
set_option linter.unusedVariables false
set_option linter.unusedSimpArgs false

theorem fin_cls (f a : Int) (h4 : (clsI f a == 4) = false) (h5 : (clsI f a == 5) = false) (h3 : (clsI f a == 3) = false) : finI f a = true := by
  rcases three_ways f a with ⟨x, y, z⟩ | ⟨x, y, z⟩ | ⟨x, y, z, t⟩
  · have c := cls_cases f a
    simp at h4 h5 h3
    omega
  · exact y
  · exact z

theorem fin_hid (f a b : Int) (h : finI f a = true) (g : finI f b = true) (c : unE f b < unE f a) : ((2 ^ fn f : Nat) : Int) ≤ unM f a := by
  have hh := hid_fn f
  have hF := fF_bd f a
  rcases three_ways f a with ⟨x, y, z⟩ | ⟨x, y, z, t⟩ | ⟨x, y, z, t, u⟩
  · rw [h] at y; exact absurd y (by decide)
  · rcases three_ways f b with ⟨x', y', z'⟩ | ⟨x', y', z', t'⟩ | ⟨x', y', z', t', u'⟩
    · rw [g] at y'; exact absurd y' (by decide)
    · omega
    · omega
  · omega

/-- Whatever the sum is, it is a number and five flags. -/
theorem fin_shape (f mode : Int) (n : Bool) (V : Nat) (m : Bool) (W : Nat) : ∃ (v : Int) (b1 b2 b3 b4 b5 : Bool), finE f mode n V m W = .returned (.tuple #[.int .u32 v, .agg #[.bool b1, .bool b2, .bool b3, .bool b4, .bool b5]]) := by
  unfold finE totE excE PackE
  (repeat' split) <;> exact ⟨_, _, _, _, _, _, rfl⟩

set_option maxRecDepth 100000 in
set_option maxHeartbeats 4000000 in
theorem sadd_any (f mode a b : Int) (w : World) (a0 : 0 ≤ a) (a1 : a ≤ 4294967295) (b0 : 0 ≤ b) (b1 : b ≤ 4294967295) :
    Calls Try.prog 69 #[.int .i64 f, .int .i64 mode, .int .u32 a, .int .u32 b] w fun e w' => e = addE f mode a b ∧ Grown w w' := by
  have HE := Lib.hid (exc_new w 57)
  have HG := Lib.hid (Grown.alloc (Grown.refl w) #[.bool false, .bool false, .bool false, .bool false, .bool false] 57)
  obtain ⟨A, hA⟩ : ∃ A, clsI f a = A := ⟨_, rfl⟩
  obtain ⟨B, hB⟩ : ∃ B, clsI f b = B := ⟨_, rfl⟩
  have HA := Lib.hid hA
  have HB := Lib.hid hB
  have HAdd := Lib.hid (show addE f mode a b = if (A == 4 || A == 5 || (B == 4 || B == 5)) = true then excE (nanI f) (A == 5 || B == 5) else if (A == 3 && B == 3 && (fS f a != fS f b)) = true then excE (nanI f) true
    else if (A == 3) = true then excE (infI f (fS f a)) false else if (B == 3) = true then excE (infI f (fS f b)) false
    else finE f mode (fS f a) (amtE (unE f a) (unM f a)) (fS f b) (amtE (unE f b) (unM f b)) by unfold addE nanB sigB infB; rw [hA, hB])
  have HF := Lib.hid (fun (h4 : (A == 4) = false) (h5 : (A == 5) = false) (h3 : (A == 3) = false) => fin_cls f a (by rw [hA]; exact h4) (by rw [hA]; exact h5) (by rw [hA]; exact h3))
  have HF' := Lib.hid (fun (h4 : (B == 4) = false) (h5 : (B == 5) = false) (h3 : (B == 3) = false) => fin_cls f b (by rw [hB]; exact h4) (by rw [hB]; exact h5) (by rw [hB]; exact h3))
  clear hA hB
  obtain ⟨eA0, eA1⟩ := unE_bd f a
  obtain ⟨eB0, eB1⟩ := unE_bd f b
  obtain ⟨mA0, mA1⟩ := unM_bd f a
  obtain ⟨mB0, mB1⟩ := unM_bd f b
  have K := True.intro
  by_cases c4 : A = 4
  · subst c4
    have HQ := Lib.hid (HAdd.out.trans (if_pos (by simp)))
    clear HF HF' HAdd
    clear K
    go_enter Try.func69, Try.ntmps69
    go_wp2_with (go_at_call 34; refine (class_any _ _ _ (by omega) (by omega)).mono ?_; rintro e w' ⟨he, m, rfl⟩; (first | rw [HA.out] at he | rw [HB.out] at he); subst he)
    refine (sunpack_any f a _ a0 a1).mono ?_
    rintro e W1 ⟨rfl, hW1⟩
    have HW1 := Lib.hid hW1
    clear hW1
    go_wp2_with fail
    refine (sunpack_any f b _ b0 b1).mono ?_
    rintro e W2 ⟨rfl, hW2⟩
    have HX2 := Lib.hid (((HE.out.grown (grown_drewN _ _)).grown HW1.out).grown hW2)
    have HG2 := Lib.hid (grown_trans (grown_trans HG.out (grown_trans (grown_drewN _ _) HW1.out)) hW2)
    clear hW2
    go_wp2_with fail
    have HP := parts_cells W2 (.bool (fS f a)) (.int .i64 (unE f a)) (.int .u64 (unM f a)) (.bool (fS f b)) (.int .i64 (unE f b)) (.int .u64 (unM f b)) 85
    have HX4 := Lib.hid (HX2.out.under2 #[.bool (fS f a), .int .i64 (unE f a), .int .u64 (unM f a)] #[.bool (fS f b), .int .i64 (unE f b), .int .u64 (unM f b)] 85 85)
    have HG4 := Lib.hid (grown_trans HG2.out (Grown.alloc (Grown.alloc (Grown.refl W2) #[.bool (fS f a), .int .i64 (unE f a), .int .u64 (unM f a)] 85) #[.bool (fS f b), .int .i64 (unE f b), .int .u64 (unM f b)] 85))
    clear HX2 HG2
    generalize ((W2.alloc _).alloc _) = W4 at HP HX4 HG4 ⊢
    obtain ⟨y0, y1, y2, y3, y4, y5⟩ := HP
    obtain ⟨xb, x0, x1, x2, x3, x4, z0, z1, z2, z3, z4⟩ := HX4.out
    go_wp2_with (first
      | (go_at_call 87; refine (isNan_any _ _).mono ?_; rintro e w' ⟨rfl, rfl⟩)
      | (go_at_call 35; refine (nan_any _ _).mono ?_; rintro e w' ⟨rfl, rfl⟩)
      | (go_at_call 37; refine (inf_any _ _ _).mono ?_; rintro e w' ⟨rfl, rfl⟩)
      | (go_at_call 88; fail))
    (try simp only [Exit.inBlock, Exit.then])
    refine bodyPost_ret (v := .tuple #[.int .u32 (nanI f), .agg #[.bool (B == 5), .bool false, .bool false, .bool false, .bool false]]) ?_ rfl ⟨(excE_is _ _).trans HQ.out.symm, ?_⟩
    · rw [results_tmp_cell rfl]
      go_simp
    · repeat refine Grown.setCell ?_ (by simp <;> omega) _
      exact HG4.out

  by_cases c5 : A = 5
  · subst c5
    have HQ := Lib.hid (HAdd.out.trans (if_pos (by simp)))
    clear HF HF' HAdd
    clear K
    go_enter Try.func69, Try.ntmps69
    go_wp2_with (go_at_call 34; refine (class_any _ _ _ (by omega) (by omega)).mono ?_; rintro e w' ⟨he, m, rfl⟩; (first | rw [HA.out] at he | rw [HB.out] at he); subst he)
    refine (sunpack_any f a _ a0 a1).mono ?_
    rintro e W1 ⟨rfl, hW1⟩
    have HW1 := Lib.hid hW1
    clear hW1
    go_wp2_with fail
    refine (sunpack_any f b _ b0 b1).mono ?_
    rintro e W2 ⟨rfl, hW2⟩
    have HX2 := Lib.hid (((HE.out.grown (grown_drewN _ _)).grown HW1.out).grown hW2)
    have HG2 := Lib.hid (grown_trans (grown_trans HG.out (grown_trans (grown_drewN _ _) HW1.out)) hW2)
    clear hW2
    go_wp2_with fail
    have HP := parts_cells W2 (.bool (fS f a)) (.int .i64 (unE f a)) (.int .u64 (unM f a)) (.bool (fS f b)) (.int .i64 (unE f b)) (.int .u64 (unM f b)) 85
    have HX4 := Lib.hid (HX2.out.under2 #[.bool (fS f a), .int .i64 (unE f a), .int .u64 (unM f a)] #[.bool (fS f b), .int .i64 (unE f b), .int .u64 (unM f b)] 85 85)
    have HG4 := Lib.hid (grown_trans HG2.out (Grown.alloc (Grown.alloc (Grown.refl W2) #[.bool (fS f a), .int .i64 (unE f a), .int .u64 (unM f a)] 85) #[.bool (fS f b), .int .i64 (unE f b), .int .u64 (unM f b)] 85))
    clear HX2 HG2
    generalize ((W2.alloc _).alloc _) = W4 at HP HX4 HG4 ⊢
    obtain ⟨y0, y1, y2, y3, y4, y5⟩ := HP
    obtain ⟨xb, x0, x1, x2, x3, x4, z0, z1, z2, z3, z4⟩ := HX4.out
    go_wp2_with (first
      | (go_at_call 87; refine (isNan_any _ _).mono ?_; rintro e w' ⟨rfl, rfl⟩)
      | (go_at_call 35; refine (nan_any _ _).mono ?_; rintro e w' ⟨rfl, rfl⟩)
      | (go_at_call 37; refine (inf_any _ _ _).mono ?_; rintro e w' ⟨rfl, rfl⟩)
      | (go_at_call 88; fail))
    (try simp only [Exit.inBlock, Exit.then])
    refine bodyPost_ret (v := .tuple #[.int .u32 (nanI f), .agg #[.bool true, .bool false, .bool false, .bool false, .bool false]]) ?_ rfl ⟨(excE_is _ _).trans HQ.out.symm, ?_⟩
    · rw [results_tmp_cell rfl]
      go_simp
    · repeat refine Grown.setCell ?_ (by simp <;> omega) _
      exact HG4.out

  have k4 : (A == 4) = false := beq_eq_false_iff_ne.2 c4
  have k5 : (A == 5) = false := beq_eq_false_iff_ne.2 c5
  clear c4 c5
  by_cases d4 : B = 4
  · subst d4
    have HQ := Lib.hid (HAdd.out.trans ((if_pos (by simp)).trans (by rw [k5]; try rfl)))
    clear HF HF' HAdd
    clear K
    go_enter Try.func69, Try.ntmps69
    go_wp2_with (go_at_call 34; refine (class_any _ _ _ (by omega) (by omega)).mono ?_; rintro e w' ⟨he, m, rfl⟩; (first | rw [HA.out] at he | rw [HB.out] at he); subst he)
    refine (sunpack_any f a _ a0 a1).mono ?_
    rintro e W1 ⟨rfl, hW1⟩
    have HW1 := Lib.hid hW1
    clear hW1
    go_wp2_with fail
    refine (sunpack_any f b _ b0 b1).mono ?_
    rintro e W2 ⟨rfl, hW2⟩
    have HX2 := Lib.hid (((HE.out.grown (grown_drewN _ _)).grown HW1.out).grown hW2)
    have HG2 := Lib.hid (grown_trans (grown_trans HG.out (grown_trans (grown_drewN _ _) HW1.out)) hW2)
    clear hW2
    go_wp2_with fail
    have HP := parts_cells W2 (.bool (fS f a)) (.int .i64 (unE f a)) (.int .u64 (unM f a)) (.bool (fS f b)) (.int .i64 (unE f b)) (.int .u64 (unM f b)) 85
    have HX4 := Lib.hid (HX2.out.under2 #[.bool (fS f a), .int .i64 (unE f a), .int .u64 (unM f a)] #[.bool (fS f b), .int .i64 (unE f b), .int .u64 (unM f b)] 85 85)
    have HG4 := Lib.hid (grown_trans HG2.out (Grown.alloc (Grown.alloc (Grown.refl W2) #[.bool (fS f a), .int .i64 (unE f a), .int .u64 (unM f a)] 85) #[.bool (fS f b), .int .i64 (unE f b), .int .u64 (unM f b)] 85))
    clear HX2 HG2
    generalize ((W2.alloc _).alloc _) = W4 at HP HX4 HG4 ⊢
    obtain ⟨y0, y1, y2, y3, y4, y5⟩ := HP
    obtain ⟨xb, x0, x1, x2, x3, x4, z0, z1, z2, z3, z4⟩ := HX4.out
    go_wp2_with (first
      | (go_at_call 87; refine (isNan_any _ _).mono ?_; rintro e w' ⟨rfl, rfl⟩)
      | (go_at_call 35; refine (nan_any _ _).mono ?_; rintro e w' ⟨rfl, rfl⟩)
      | (go_at_call 37; refine (inf_any _ _ _).mono ?_; rintro e w' ⟨rfl, rfl⟩)
      | (go_at_call 88; fail))
    (try simp only [Exit.inBlock, Exit.then])
    refine bodyPost_ret (v := .tuple #[.int .u32 (nanI f), .agg #[.bool false, .bool false, .bool false, .bool false, .bool false]]) ?_ rfl ⟨(excE_is _ _).trans HQ.out.symm, ?_⟩
    · rw [results_tmp_cell rfl]
      go_simp
    · repeat refine Grown.setCell ?_ (by simp <;> omega) _
      exact HG4.out

  by_cases d5 : B = 5
  · subst d5
    have HQ := Lib.hid (HAdd.out.trans ((if_pos (by simp)).trans (by rw [k5]; try rfl)))
    clear HF HF' HAdd
    clear K
    go_enter Try.func69, Try.ntmps69
    go_wp2_with (go_at_call 34; refine (class_any _ _ _ (by omega) (by omega)).mono ?_; rintro e w' ⟨he, m, rfl⟩; (first | rw [HA.out] at he | rw [HB.out] at he); subst he)
    refine (sunpack_any f a _ a0 a1).mono ?_
    rintro e W1 ⟨rfl, hW1⟩
    have HW1 := Lib.hid hW1
    clear hW1
    go_wp2_with fail
    refine (sunpack_any f b _ b0 b1).mono ?_
    rintro e W2 ⟨rfl, hW2⟩
    have HX2 := Lib.hid (((HE.out.grown (grown_drewN _ _)).grown HW1.out).grown hW2)
    have HG2 := Lib.hid (grown_trans (grown_trans HG.out (grown_trans (grown_drewN _ _) HW1.out)) hW2)
    clear hW2
    go_wp2_with fail
    have HP := parts_cells W2 (.bool (fS f a)) (.int .i64 (unE f a)) (.int .u64 (unM f a)) (.bool (fS f b)) (.int .i64 (unE f b)) (.int .u64 (unM f b)) 85
    have HX4 := Lib.hid (HX2.out.under2 #[.bool (fS f a), .int .i64 (unE f a), .int .u64 (unM f a)] #[.bool (fS f b), .int .i64 (unE f b), .int .u64 (unM f b)] 85 85)
    have HG4 := Lib.hid (grown_trans HG2.out (Grown.alloc (Grown.alloc (Grown.refl W2) #[.bool (fS f a), .int .i64 (unE f a), .int .u64 (unM f a)] 85) #[.bool (fS f b), .int .i64 (unE f b), .int .u64 (unM f b)] 85))
    clear HX2 HG2
    generalize ((W2.alloc _).alloc _) = W4 at HP HX4 HG4 ⊢
    obtain ⟨y0, y1, y2, y3, y4, y5⟩ := HP
    obtain ⟨xb, x0, x1, x2, x3, x4, z0, z1, z2, z3, z4⟩ := HX4.out
    go_wp2_with (first
      | (go_at_call 87; refine (isNan_any _ _).mono ?_; rintro e w' ⟨rfl, rfl⟩)
      | (go_at_call 35; refine (nan_any _ _).mono ?_; rintro e w' ⟨rfl, rfl⟩)
      | (go_at_call 37; refine (inf_any _ _ _).mono ?_; rintro e w' ⟨rfl, rfl⟩)
      | (go_at_call 88; fail))
    (try simp only [Exit.inBlock, Exit.then])
    refine bodyPost_ret (v := .tuple #[.int .u32 (nanI f), .agg #[.bool true, .bool false, .bool false, .bool false, .bool false]]) ?_ rfl ⟨(excE_is _ _).trans HQ.out.symm, ?_⟩
    · rw [results_tmp_cell rfl]
      go_simp
    · repeat refine Grown.setCell ?_ (by simp <;> omega) _
      exact HG4.out

  have l4 : (B == 4) = false := beq_eq_false_iff_ne.2 d4
  have l5 : (B == 5) = false := beq_eq_false_iff_ne.2 d5
  clear d4 d5
  have HAd2 := Lib.hid (HAdd.out.trans (if_neg (by rw [k4, k5, l4, l5]; decide)))
  clear HAdd
  have HAdd := HAd2
  clear HAd2
  by_cases c3 : A = 3
  · subst c3
    by_cases d3 : B = 3
    · subst d3
      by_cases hs : (fS f a != fS f b) = true
      · have hs2 : (fS f a == fS f b) = false := by simpa [bne] using hs
        have HQ := Lib.hid (HAdd.out.trans (if_pos (by rw [hs]; rfl)))
        clear HF HF' HAdd
        clear K
        go_enter Try.func69, Try.ntmps69
        go_wp2_with (go_at_call 34; refine (class_any _ _ _ (by omega) (by omega)).mono ?_; rintro e w' ⟨he, m, rfl⟩; (first | rw [HA.out] at he | rw [HB.out] at he); subst he)
        refine (sunpack_any f a _ a0 a1).mono ?_
        rintro e W1 ⟨rfl, hW1⟩
        have HW1 := Lib.hid hW1
        clear hW1
        go_wp2_with fail
        refine (sunpack_any f b _ b0 b1).mono ?_
        rintro e W2 ⟨rfl, hW2⟩
        have HX2 := Lib.hid (((HE.out.grown (grown_drewN _ _)).grown HW1.out).grown hW2)
        have HG2 := Lib.hid (grown_trans (grown_trans HG.out (grown_trans (grown_drewN _ _) HW1.out)) hW2)
        clear hW2
        go_wp2_with fail
        have HP := parts_cells W2 (.bool (fS f a)) (.int .i64 (unE f a)) (.int .u64 (unM f a)) (.bool (fS f b)) (.int .i64 (unE f b)) (.int .u64 (unM f b)) 85
        have HX4 := Lib.hid (HX2.out.under2 #[.bool (fS f a), .int .i64 (unE f a), .int .u64 (unM f a)] #[.bool (fS f b), .int .i64 (unE f b), .int .u64 (unM f b)] 85 85)
        have HG4 := Lib.hid (grown_trans HG2.out (Grown.alloc (Grown.alloc (Grown.refl W2) #[.bool (fS f a), .int .i64 (unE f a), .int .u64 (unM f a)] 85) #[.bool (fS f b), .int .i64 (unE f b), .int .u64 (unM f b)] 85))
        clear HX2 HG2
        generalize ((W2.alloc _).alloc _) = W4 at HP HX4 HG4 ⊢
        obtain ⟨y0, y1, y2, y3, y4, y5⟩ := HP
        obtain ⟨xb, x0, x1, x2, x3, x4, z0, z1, z2, z3, z4⟩ := HX4.out
        go_wp2_with (first
          | (go_at_call 87; refine (isNan_any _ _).mono ?_; rintro e w' ⟨rfl, rfl⟩)
          | (go_at_call 35; refine (nan_any _ _).mono ?_; rintro e w' ⟨rfl, rfl⟩)
          | (go_at_call 37; refine (inf_any _ _ _).mono ?_; rintro e w' ⟨rfl, rfl⟩)
          | (go_at_call 88; fail))
        (try simp only [Exit.inBlock, Exit.then])
        refine bodyPost_ret (v := .tuple #[.int .u32 (nanI f), .agg #[.bool true, .bool false, .bool false, .bool false, .bool false]]) ?_ rfl ⟨(excE_is _ _).trans HQ.out.symm, ?_⟩
        · rw [results_tmp_cell rfl]
          go_simp
        · repeat refine Grown.setCell ?_ (by simp <;> omega) _
          exact HG4.out

      · have hs' : (fS f a != fS f b) = false := (Bool.not_eq_true _).mp hs
        have hs2 : (fS f a == fS f b) = true := by simpa [bne] using hs'
        clear hs
        have HQ := Lib.hid (HAdd.out.trans ((if_neg (by rw [hs']; decide)).trans (if_pos rfl)))
        clear HF HF' HAdd
        clear K
        go_enter Try.func69, Try.ntmps69
        go_wp2_with (go_at_call 34; refine (class_any _ _ _ (by omega) (by omega)).mono ?_; rintro e w' ⟨he, m, rfl⟩; (first | rw [HA.out] at he | rw [HB.out] at he); subst he)
        refine (sunpack_any f a _ a0 a1).mono ?_
        rintro e W1 ⟨rfl, hW1⟩
        have HW1 := Lib.hid hW1
        clear hW1
        go_wp2_with fail
        refine (sunpack_any f b _ b0 b1).mono ?_
        rintro e W2 ⟨rfl, hW2⟩
        have HX2 := Lib.hid (((HE.out.grown (grown_drewN _ _)).grown HW1.out).grown hW2)
        have HG2 := Lib.hid (grown_trans (grown_trans HG.out (grown_trans (grown_drewN _ _) HW1.out)) hW2)
        clear hW2
        go_wp2_with fail
        have HP := parts_cells W2 (.bool (fS f a)) (.int .i64 (unE f a)) (.int .u64 (unM f a)) (.bool (fS f b)) (.int .i64 (unE f b)) (.int .u64 (unM f b)) 85
        have HX4 := Lib.hid (HX2.out.under2 #[.bool (fS f a), .int .i64 (unE f a), .int .u64 (unM f a)] #[.bool (fS f b), .int .i64 (unE f b), .int .u64 (unM f b)] 85 85)
        have HG4 := Lib.hid (grown_trans HG2.out (Grown.alloc (Grown.alloc (Grown.refl W2) #[.bool (fS f a), .int .i64 (unE f a), .int .u64 (unM f a)] 85) #[.bool (fS f b), .int .i64 (unE f b), .int .u64 (unM f b)] 85))
        clear HX2 HG2
        generalize ((W2.alloc _).alloc _) = W4 at HP HX4 HG4 ⊢
        obtain ⟨y0, y1, y2, y3, y4, y5⟩ := HP
        obtain ⟨xb, x0, x1, x2, x3, x4, z0, z1, z2, z3, z4⟩ := HX4.out
        go_wp2_with (first
          | (go_at_call 87; refine (isNan_any _ _).mono ?_; rintro e w' ⟨rfl, rfl⟩)
          | (go_at_call 35; refine (nan_any _ _).mono ?_; rintro e w' ⟨rfl, rfl⟩)
          | (go_at_call 37; refine (inf_any _ _ _).mono ?_; rintro e w' ⟨rfl, rfl⟩)
          | (go_at_call 88; fail))
        (try simp only [Exit.inBlock, Exit.then])
        refine bodyPost_ret (v := .tuple #[.int .u32 (infI f (fS f a)), .agg #[.bool false, .bool false, .bool false, .bool false, .bool false]]) ?_ rfl ⟨(excE_is _ _).trans HQ.out.symm, ?_⟩
        · rw [results_tmp_cell rfl]
          go_simp
        · repeat refine Grown.setCell ?_ (by simp <;> omega) _
          exact HG4.out

    · have l3 : (B == 3) = false := beq_eq_false_iff_ne.2 d3
      clear d3
      have HQ := Lib.hid (HAdd.out.trans ((if_neg (by rw [l3]; simp)).trans (if_pos rfl)))
      clear HF HF' HAdd
      clear K
      go_enter Try.func69, Try.ntmps69
      go_wp2_with (go_at_call 34; refine (class_any _ _ _ (by omega) (by omega)).mono ?_; rintro e w' ⟨he, m, rfl⟩; (first | rw [HA.out] at he | rw [HB.out] at he); subst he)
      refine (sunpack_any f a _ a0 a1).mono ?_
      rintro e W1 ⟨rfl, hW1⟩
      have HW1 := Lib.hid hW1
      clear hW1
      go_wp2_with fail
      refine (sunpack_any f b _ b0 b1).mono ?_
      rintro e W2 ⟨rfl, hW2⟩
      have HX2 := Lib.hid (((HE.out.grown (grown_drewN _ _)).grown HW1.out).grown hW2)
      have HG2 := Lib.hid (grown_trans (grown_trans HG.out (grown_trans (grown_drewN _ _) HW1.out)) hW2)
      clear hW2
      go_wp2_with fail
      have HP := parts_cells W2 (.bool (fS f a)) (.int .i64 (unE f a)) (.int .u64 (unM f a)) (.bool (fS f b)) (.int .i64 (unE f b)) (.int .u64 (unM f b)) 85
      have HX4 := Lib.hid (HX2.out.under2 #[.bool (fS f a), .int .i64 (unE f a), .int .u64 (unM f a)] #[.bool (fS f b), .int .i64 (unE f b), .int .u64 (unM f b)] 85 85)
      have HG4 := Lib.hid (grown_trans HG2.out (Grown.alloc (Grown.alloc (Grown.refl W2) #[.bool (fS f a), .int .i64 (unE f a), .int .u64 (unM f a)] 85) #[.bool (fS f b), .int .i64 (unE f b), .int .u64 (unM f b)] 85))
      clear HX2 HG2
      generalize ((W2.alloc _).alloc _) = W4 at HP HX4 HG4 ⊢
      obtain ⟨y0, y1, y2, y3, y4, y5⟩ := HP
      obtain ⟨xb, x0, x1, x2, x3, x4, z0, z1, z2, z3, z4⟩ := HX4.out
      go_wp2_with (first
        | (go_at_call 87; refine (isNan_any _ _).mono ?_; rintro e w' ⟨rfl, rfl⟩)
        | (go_at_call 35; refine (nan_any _ _).mono ?_; rintro e w' ⟨rfl, rfl⟩)
        | (go_at_call 37; refine (inf_any _ _ _).mono ?_; rintro e w' ⟨rfl, rfl⟩)
        | (go_at_call 88; fail))
      (try simp only [Exit.inBlock, Exit.then])
      refine bodyPost_ret (v := .tuple #[.int .u32 (infI f (fS f a)), .agg #[.bool false, .bool false, .bool false, .bool false, .bool false]]) ?_ rfl ⟨(excE_is _ _).trans HQ.out.symm, ?_⟩
      · rw [results_tmp_cell rfl]
        go_simp
      · repeat refine Grown.setCell ?_ (by simp <;> omega) _
        exact HG4.out

  · have k3 : (A == 3) = false := beq_eq_false_iff_ne.2 c3
    clear c3
    by_cases d3 : B = 3
    · subst d3
      have HQ := Lib.hid (HAdd.out.trans ((if_neg (by rw [k3]; simp)).trans ((if_neg (by rw [k3]; decide)).trans (if_pos rfl))))
      clear HF HF' HAdd
      clear K
      go_enter Try.func69, Try.ntmps69
      go_wp2_with (go_at_call 34; refine (class_any _ _ _ (by omega) (by omega)).mono ?_; rintro e w' ⟨he, m, rfl⟩; (first | rw [HA.out] at he | rw [HB.out] at he); subst he)
      refine (sunpack_any f a _ a0 a1).mono ?_
      rintro e W1 ⟨rfl, hW1⟩
      have HW1 := Lib.hid hW1
      clear hW1
      go_wp2_with fail
      refine (sunpack_any f b _ b0 b1).mono ?_
      rintro e W2 ⟨rfl, hW2⟩
      have HX2 := Lib.hid (((HE.out.grown (grown_drewN _ _)).grown HW1.out).grown hW2)
      have HG2 := Lib.hid (grown_trans (grown_trans HG.out (grown_trans (grown_drewN _ _) HW1.out)) hW2)
      clear hW2
      go_wp2_with fail
      have HP := parts_cells W2 (.bool (fS f a)) (.int .i64 (unE f a)) (.int .u64 (unM f a)) (.bool (fS f b)) (.int .i64 (unE f b)) (.int .u64 (unM f b)) 85
      have HX4 := Lib.hid (HX2.out.under2 #[.bool (fS f a), .int .i64 (unE f a), .int .u64 (unM f a)] #[.bool (fS f b), .int .i64 (unE f b), .int .u64 (unM f b)] 85 85)
      have HG4 := Lib.hid (grown_trans HG2.out (Grown.alloc (Grown.alloc (Grown.refl W2) #[.bool (fS f a), .int .i64 (unE f a), .int .u64 (unM f a)] 85) #[.bool (fS f b), .int .i64 (unE f b), .int .u64 (unM f b)] 85))
      clear HX2 HG2
      generalize ((W2.alloc _).alloc _) = W4 at HP HX4 HG4 ⊢
      obtain ⟨y0, y1, y2, y3, y4, y5⟩ := HP
      obtain ⟨xb, x0, x1, x2, x3, x4, z0, z1, z2, z3, z4⟩ := HX4.out
      go_wp2_with (first
        | (go_at_call 87; refine (isNan_any _ _).mono ?_; rintro e w' ⟨rfl, rfl⟩)
        | (go_at_call 35; refine (nan_any _ _).mono ?_; rintro e w' ⟨rfl, rfl⟩)
        | (go_at_call 37; refine (inf_any _ _ _).mono ?_; rintro e w' ⟨rfl, rfl⟩)
        | (go_at_call 88; fail))
      (try simp only [Exit.inBlock, Exit.then])
      refine bodyPost_ret (v := .tuple #[.int .u32 (infI f (fS f b)), .agg #[.bool false, .bool false, .bool false, .bool false, .bool false]]) ?_ rfl ⟨(excE_is _ _).trans HQ.out.symm, ?_⟩
      · rw [results_tmp_cell rfl]
        go_simp
      · repeat refine Grown.setCell ?_ (by simp <;> omega) _
        exact HG4.out

    · have l3 : (B == 3) = false := beq_eq_false_iff_ne.2 d3
      clear d3
      have HQ := Lib.hid (HAdd.out.trans ((if_neg (by rw [k3]; simp)).trans ((if_neg (by rw [k3]; decide)).trans (if_neg (by rw [l3]; decide)))))
      have H1 := Lib.hid (fin_hid f a b (HF.out k4 k5 k3) (HF'.out l4 l5 l3))
      have H2 := Lib.hid (fin_hid f b a (HF'.out l4 l5 l3) (HF.out k4 k5 k3))
      clear HF HF' HAdd
      obtain ⟨v, g1, g2, g3, g4, g5, hR⟩ := fin_shape f mode (fS f a) (amtE (unE f a) (unM f a)) (fS f b) (amtE (unE f b) (unM f b))
      have HR := Lib.hid hR
      clear hR
      clear K
      go_enter Try.func69, Try.ntmps69
      go_wp2_with (go_at_call 34; refine (class_any _ _ _ (by omega) (by omega)).mono ?_; rintro e w' ⟨he, m, rfl⟩; (first | rw [HA.out] at he | rw [HB.out] at he); subst he)
      refine (sunpack_any f a _ a0 a1).mono ?_
      rintro e W1 ⟨rfl, hW1⟩
      have HW1 := Lib.hid hW1
      clear hW1
      go_wp2_with fail
      refine (sunpack_any f b _ b0 b1).mono ?_
      rintro e W2 ⟨rfl, hW2⟩
      have HX2 := Lib.hid (((HE.out.grown (grown_drewN _ _)).grown HW1.out).grown hW2)
      have HG2 := Lib.hid (grown_trans (grown_trans HG.out (grown_trans (grown_drewN _ _) HW1.out)) hW2)
      clear hW2
      go_wp2_with fail
      have HP := parts_cells W2 (.bool (fS f a)) (.int .i64 (unE f a)) (.int .u64 (unM f a)) (.bool (fS f b)) (.int .i64 (unE f b)) (.int .u64 (unM f b)) 85
      have HX4 := Lib.hid (HX2.out.under2 #[.bool (fS f a), .int .i64 (unE f a), .int .u64 (unM f a)] #[.bool (fS f b), .int .i64 (unE f b), .int .u64 (unM f b)] 85 85)
      have HG4 := Lib.hid (grown_trans HG2.out (Grown.alloc (Grown.alloc (Grown.refl W2) #[.bool (fS f a), .int .i64 (unE f a), .int .u64 (unM f a)] 85) #[.bool (fS f b), .int .i64 (unE f b), .int .u64 (unM f b)] 85))
      clear HX2 HG2
      generalize ((W2.alloc _).alloc _) = W4 at HP HX4 HG4 ⊢
      obtain ⟨y0, y1, y2, y3, y4, y5⟩ := HP
      obtain ⟨xb, x0, x1, x2, x3, x4, z0, z1, z2, z3, z4⟩ := HX4.out
      go_wp2_with (first
        | (go_at_call 87; refine (isNan_any _ _).mono ?_; rintro e w' ⟨rfl, rfl⟩)
        | (go_at_call 35; refine (nan_any _ _).mono ?_; rintro e w' ⟨rfl, rfl⟩)
        | (go_at_call 37; refine (inf_any _ _ _).mono ?_; rintro e w' ⟨rfl, rfl⟩)
        | (go_at_call 88; refine (sfinite_any f mode _ _ _ _ _ _ _ (by omega) (by omega) (by omega) (by omega) mA0 mA1 mB0 mB1 H1.out H2.out).mono ?_; rintro e W5 ⟨he, hW5⟩; have HW5 := Lib.hid hW5; clear hW5; rw [HR.out] at he; subst he; clear x0 x1 x2 x3 x4 z0 z1 z2 z3 z4 xb; obtain ⟨xb, x0, x1, x2, x3, x4, z0, z1, z2, z3, z4⟩ := HX4.out.grown HW5.out; have HG5 := Lib.hid (grown_trans HG4.out HW5.out)))
      (try simp only [Exit.inBlock, Exit.then])
      refine bodyPost_ret (v := .tuple #[.int .u32 v, .agg #[.bool g1, .bool g2, .bool g3, .bool g4, .bool g5]]) ?_ rfl ⟨HR.out.symm.trans HQ.out.symm, ?_⟩
      · rw [results_tmp_cell rfl]
        go_simp
      · repeat refine Grown.setCell ?_ (by simp <;> omega) _
        exact HG5.out
end Go.Proofs.Ytheaeclojljecaa
