/- The contract of package prod's Mul. (Written by gen10.py.) -/
import Derived.Test.YtheaeclojljecaaPOne
import Derived.Test.YtheaeclojljecaaFuMath
import Derived.Test.YtheaeclojljecaaRd
import Derived.Test.YtheaeclojljecaaAdd
namespace Go.Proofs.Ytheaeclojljecaa
open Go.RowKit
set_option linter.unusedVariables false
set_option linter.unusedSimpArgs false

theorem pproduct_any (f a b : Int) (w : World) (a0 : 0 ≤ a) (a1 : a ≤ 4294967295) (b0 : 0 ≤ b) (b1 : b ≤ 4294967295) :
    Calls Try.prog 77 #[.int .i64 f, .int .u32 a, .int .u32 b] w fun e w' => e = .returned (.agg #[.bool (sgP f a b), .int .i64 (unE f a + unE f b), .int .u64 (unM f a * unM f b)]) ∧ Grown w w' := by
  obtain ⟨x0, x1⟩ := unE_bd f a
  obtain ⟨y0, y1⟩ := unE_bd f b
  have x2 := unE_top f a
  have y2 := unE_top f b
  obtain ⟨t0, t1, _⟩ := mul_bd f a b
  exact pproduct_is f a b _ _ _ _ _ _ _ _ w a0 a1 b0 b1 rfl rfl rfl rfl rfl rfl (by omega) (by omega) (by omega) (by omega) rfl t0 t1 rfl

set_option maxRecDepth 100000 in
set_option maxHeartbeats 8000000 in
theorem pmul_any (f mode a b : Int) (w : World) (a0 : 0 ≤ a) (a1 : a ≤ 4294967295) (b0 : 0 ≤ b) (b1 : b ≤ 4294967295) :
    Calls Try.prog 62 #[.int .i64 f, .int .i64 mode, .int .u32 a, .int .u32 b] w fun e w' => e = mulE f mode a b ∧ Grown w w' := by
  have HX0 := Lib.hid (exc_new w 57)
  have HG0 := Lib.hid (Grown.alloc (Grown.refl w) #[.bool false, .bool false, .bool false, .bool false, .bool false] 57)
  obtain ⟨A, hA⟩ : ∃ A, clsI f a = A := ⟨_, rfl⟩
  obtain ⟨B, hB⟩ : ∃ B, clsI f b = B := ⟨_, rfl⟩
  obtain ⟨S, hS⟩ : ∃ S, (A == 5 || B == 5) = S := ⟨_, rfl⟩
  obtain ⟨Q, hQ⟩ : ∃ Q, (A == 4 || B == 4) = Q := ⟨_, rfl⟩
  obtain ⟨I, hI⟩ : ∃ I, (A == 3 || B == 3) = I := ⟨_, rfl⟩
  obtain ⟨Z, hZ⟩ : ∃ Z, (A == 0 || B == 0) = Z := ⟨_, rfl⟩
  obtain ⟨L, hL⟩ : ∃ L, ((A == 0 || B == 0) && (A == 3 || B == 3)) = L := ⟨_, rfl⟩
  have HM := Lib.hid (mul_prog f mode a b S L Q I (by rw [hA, hB]; exact hS) (by rw [hA, hB]; exact hL) (by rw [hA, hB]; exact hQ) (by rw [hA, hB]; exact hI))
  obtain ⟨e0, e1⟩ := unE_bd f a
  have e2 := unE_top f a
  obtain ⟨d0, d1⟩ := unE_bd f b
  have d2 := unE_top f b
  obtain ⟨t0, t1, t2⟩ := mul_bd f a b
  obtain ⟨s, hs⟩ : ∃ s, sgP f a b = s := ⟨_, rfl⟩
  obtain ⟨X, hX⟩ : ∃ X, unE f a + unE f b = X := ⟨_, rfl⟩
  obtain ⟨T, hT⟩ : ∃ T, unM f a * unM f b = T := ⟨_, rfl⟩
  have HP := Lib.hid (show Ending.returned (.agg #[.bool (sgP f a b), .int .i64 (unE f a + unE f b), .int .u64 (unM f a * unM f b)]) = .returned (.agg #[.bool s, .int .i64 X, .int .u64 T]) by rw [hs, hX, hT])
  rw [hT] at t0 t1
  have X0 : -400 ≤ X := by omega
  have X1 : X ≤ 400 := by omega
  have HM2 := Lib.hid (show mulE f mode a b = _ from HM.out)
  have HM3 := Lib.hid (show mulE f mode a b = if (S || L || Q) = true then excE (nanI f) (S || L) else if I = true then excE (infI f s) false else PackE f mode s (valN (clampE X) T false) by rw [HM.out, hs, hX, hT])
  have HA := Lib.hid hA
  have HB := Lib.hid hB
  have HS := Lib.hid hS
  have HQu := Lib.hid hQ
  have HI := Lib.hid hI
  have HL := Lib.hid hL
  clear hA hB hS hQ hI hZ hL hs hX hT t2 e0 e1 e2 d0 d1 d2 HM HM2
  cases S
  case true =>
    have HQ := Lib.hid (HM3.out.trans (if_pos (by simp)))
    clear HM3
    go_enter Try.func62, Try.ntmps62
    go_wp2_with (go_at_call 34; refine (class_any _ _ _ (by omega) (by omega)).mono ?_; rintro e w' ⟨he, m, rfl⟩; (first | rw [HA.out] at he | rw [HB.out] at he); subst he)
    refine (oneIs2_any 5 A B _ _ (by go_simp) (by go_simp)).mono ?_
    rintro e w' ⟨he, rfl⟩
    rw [HS.out] at he
    subst he
    go_wp2_with fail
    refine (punknown_any A B _).mono ?_
    rintro e W1 ⟨he, hW1⟩
    rw [HL.out] at he
    subst he
    have HG1 := Lib.hid (show Grown w W1 from grown_trans (by repeat (first | with_reducible exact HG0.out | with_reducible refine Grown.setCell ?_ (by simp <;> omega) _ | with_reducible refine Grown.alloc ?_ _ _ | with_reducible refine grown_more ?_ _)) hW1)
    have HX1 := Lib.hid (show ExcAt w.heap.size W1 from HX0.out.grown (grown_trans (by repeat (first | with_reducible exact Grown.refl _ | with_reducible refine Grown.setCell ?_ (by simp <;> omega) _ | with_reducible refine Grown.alloc ?_ _ _ | with_reducible refine grown_more ?_ _)) hW1))
    clear hW1
    go_wp2_with fail
    refine (pproduct_any f a b _ a0 a1 b0 b1).mono ?_
    rintro e W2 ⟨he, hW2⟩
    rw [HP.out] at he
    subst he
    have HG2 := Lib.hid (show Grown w W2 from grown_trans (by repeat (first | with_reducible exact HG1.out | with_reducible refine Grown.setCell ?_ (by simp <;> omega) _ | with_reducible refine Grown.alloc ?_ _ _ | with_reducible refine grown_more ?_ _)) hW2)
    have HX2 := Lib.hid (show ExcAt w.heap.size W2 from HX1.out.grown (grown_trans (by repeat (first | with_reducible exact Grown.refl _ | with_reducible refine Grown.setCell ?_ (by simp <;> omega) _ | with_reducible refine Grown.alloc ?_ _ _ | with_reducible refine grown_more ?_ _)) hW2))
    clear hW2
    go_wp2_with fail
    have HX4 := Lib.hid (HX2.out.under1 #[.bool s, .int .i64 X, .int .u64 T] 73)
    have HG4 := Lib.hid (Grown.alloc HG2.out #[.bool s, .int .i64 X, .int .u64 T] 73)
    have HP4 := Lib.hid (part_new W2 s X T 73)
    generalize (W2.alloc _) = W4 at HX4 HG4 HP4 ⊢
    obtain ⟨xb, x0, x1, x2, x3, x4, z0, z1, z2, z3, z4⟩ := HX4.out
    go_wp2_with (go_at_call 35; refine (nan_any _ _).mono ?_; rintro e w' ⟨rfl, rfl⟩)
    (try simp only [Exit.inBlock, Exit.then])
    refine bodyPost_ret (v := .tuple #[.int .u32 (nanI f), .agg #[.bool true, .bool false, .bool false, .bool false, .bool false]]) ?_ rfl ⟨(excE_is _ _).trans HQ.out.symm, ?_⟩
    · rw [results_tmp_cell rfl]
      go_simp
    · repeat (first | with_reducible exact HG4.out | with_reducible refine Grown.setCell ?_ (by simp <;> omega) _ | with_reducible refine Grown.alloc ?_ _ _ | with_reducible refine grown_more ?_ _)

  case false =>
    cases L
    case true =>
      have HQ := Lib.hid (HM3.out.trans (if_pos (by simp)))
      clear HM3
      go_enter Try.func62, Try.ntmps62
      go_wp2_with (go_at_call 34; refine (class_any _ _ _ (by omega) (by omega)).mono ?_; rintro e w' ⟨he, m, rfl⟩; (first | rw [HA.out] at he | rw [HB.out] at he); subst he)
      refine (oneIs2_any 5 A B _ _ (by go_simp) (by go_simp)).mono ?_
      rintro e w' ⟨he, rfl⟩
      rw [HS.out] at he
      subst he
      go_wp2_with fail
      refine (punknown_any A B _).mono ?_
      rintro e W1 ⟨he, hW1⟩
      rw [HL.out] at he
      subst he
      have HG1 := Lib.hid (show Grown w W1 from grown_trans (by repeat (first | with_reducible exact HG0.out | with_reducible refine Grown.setCell ?_ (by simp <;> omega) _ | with_reducible refine Grown.alloc ?_ _ _ | with_reducible refine grown_more ?_ _)) hW1)
      have HX1 := Lib.hid (show ExcAt w.heap.size W1 from HX0.out.grown (grown_trans (by repeat (first | with_reducible exact Grown.refl _ | with_reducible refine Grown.setCell ?_ (by simp <;> omega) _ | with_reducible refine Grown.alloc ?_ _ _ | with_reducible refine grown_more ?_ _)) hW1))
      clear hW1
      go_wp2_with fail
      refine (pproduct_any f a b _ a0 a1 b0 b1).mono ?_
      rintro e W2 ⟨he, hW2⟩
      rw [HP.out] at he
      subst he
      have HG2 := Lib.hid (show Grown w W2 from grown_trans (by repeat (first | with_reducible exact HG1.out | with_reducible refine Grown.setCell ?_ (by simp <;> omega) _ | with_reducible refine Grown.alloc ?_ _ _ | with_reducible refine grown_more ?_ _)) hW2)
      have HX2 := Lib.hid (show ExcAt w.heap.size W2 from HX1.out.grown (grown_trans (by repeat (first | with_reducible exact Grown.refl _ | with_reducible refine Grown.setCell ?_ (by simp <;> omega) _ | with_reducible refine Grown.alloc ?_ _ _ | with_reducible refine grown_more ?_ _)) hW2))
      clear hW2
      go_wp2_with fail
      have HX4 := Lib.hid (HX2.out.under1 #[.bool s, .int .i64 X, .int .u64 T] 73)
      have HG4 := Lib.hid (Grown.alloc HG2.out #[.bool s, .int .i64 X, .int .u64 T] 73)
      have HP4 := Lib.hid (part_new W2 s X T 73)
      generalize (W2.alloc _) = W4 at HX4 HG4 HP4 ⊢
      obtain ⟨xb, x0, x1, x2, x3, x4, z0, z1, z2, z3, z4⟩ := HX4.out
      go_wp2_with (go_at_call 35; refine (nan_any _ _).mono ?_; rintro e w' ⟨rfl, rfl⟩)
      (try simp only [Exit.inBlock, Exit.then])
      refine bodyPost_ret (v := .tuple #[.int .u32 (nanI f), .agg #[.bool true, .bool false, .bool false, .bool false, .bool false]]) ?_ rfl ⟨(excE_is _ _).trans HQ.out.symm, ?_⟩
      · rw [results_tmp_cell rfl]
        go_simp
      · repeat (first | with_reducible exact HG4.out | with_reducible refine Grown.setCell ?_ (by simp <;> omega) _ | with_reducible refine Grown.alloc ?_ _ _ | with_reducible refine grown_more ?_ _)

    case false =>
      cases Q
      case true =>
        have HQ := Lib.hid (HM3.out.trans (if_pos (by simp)))
        clear HM3
        go_enter Try.func62, Try.ntmps62
        go_wp2_with (go_at_call 34; refine (class_any _ _ _ (by omega) (by omega)).mono ?_; rintro e w' ⟨he, m, rfl⟩; (first | rw [HA.out] at he | rw [HB.out] at he); subst he)
        refine (oneIs2_any 5 A B _ _ (by go_simp) (by go_simp)).mono ?_
        rintro e w' ⟨he, rfl⟩
        rw [HS.out] at he
        subst he
        go_wp2_with fail
        refine (punknown_any A B _).mono ?_
        rintro e W1 ⟨he, hW1⟩
        rw [HL.out] at he
        subst he
        have HG1 := Lib.hid (show Grown w W1 from grown_trans (by repeat (first | with_reducible exact HG0.out | with_reducible refine Grown.setCell ?_ (by simp <;> omega) _ | with_reducible refine Grown.alloc ?_ _ _ | with_reducible refine grown_more ?_ _)) hW1)
        have HX1 := Lib.hid (show ExcAt w.heap.size W1 from HX0.out.grown (grown_trans (by repeat (first | with_reducible exact Grown.refl _ | with_reducible refine Grown.setCell ?_ (by simp <;> omega) _ | with_reducible refine Grown.alloc ?_ _ _ | with_reducible refine grown_more ?_ _)) hW1))
        clear hW1
        go_wp2_with fail
        refine (pproduct_any f a b _ a0 a1 b0 b1).mono ?_
        rintro e W2 ⟨he, hW2⟩
        rw [HP.out] at he
        subst he
        have HG2 := Lib.hid (show Grown w W2 from grown_trans (by repeat (first | with_reducible exact HG1.out | with_reducible refine Grown.setCell ?_ (by simp <;> omega) _ | with_reducible refine Grown.alloc ?_ _ _ | with_reducible refine grown_more ?_ _)) hW2)
        have HX2 := Lib.hid (show ExcAt w.heap.size W2 from HX1.out.grown (grown_trans (by repeat (first | with_reducible exact Grown.refl _ | with_reducible refine Grown.setCell ?_ (by simp <;> omega) _ | with_reducible refine Grown.alloc ?_ _ _ | with_reducible refine grown_more ?_ _)) hW2))
        clear hW2
        go_wp2_with fail
        have HX4 := Lib.hid (HX2.out.under2 #[.bool s, .int .i64 X, .int .u64 T] #[.int .i64 A, .int .i64 B] 73 3)
        have HG4 := Lib.hid (Grown.alloc (Grown.alloc HG2.out #[.bool s, .int .i64 X, .int .u64 T] 73) #[.int .i64 A, .int .i64 B] 3)
        have HP4 := Lib.hid ((part_new W2 s X T 73).under1 #[.int .i64 A, .int .i64 B] 3)
        have HC := cells2b W2 #[.bool s, .int .i64 X, .int .u64 T] 73 (.int .i64 A) (.int .i64 B) 3
        generalize ((W2.alloc _).alloc _) = W4 at HX4 HG4 HP4 HC ⊢
        obtain ⟨y0, y1⟩ := HC
        refine (oneIs2_any 4 A B _ _ y0 y1).mono ?_
        rintro e w' ⟨he, rfl⟩
        rw [HQu.out] at he
        subst he
        clear y0 y1
        obtain ⟨xb, x0, x1, x2, x3, x4, z0, z1, z2, z3, z4⟩ := HX4.out
        go_wp2_with (go_at_call 35; refine (nan_any _ _).mono ?_; rintro e w' ⟨rfl, rfl⟩)
        (try simp only [Exit.inBlock, Exit.then])
        refine bodyPost_ret (v := .tuple #[.int .u32 (nanI f), .agg #[.bool false, .bool false, .bool false, .bool false, .bool false]]) ?_ rfl ⟨(excE_is _ _).trans HQ.out.symm, ?_⟩
        · rw [results_tmp_cell rfl]
          go_simp
        · repeat (first | with_reducible exact HG4.out | with_reducible refine Grown.setCell ?_ (by simp <;> omega) _ | with_reducible refine Grown.alloc ?_ _ _ | with_reducible refine grown_more ?_ _)

      case false =>
        cases I
        case true =>
          have HQ := Lib.hid (HM3.out.trans ((if_neg (by simp)).trans (if_pos rfl)))
          clear HM3
          go_enter Try.func62, Try.ntmps62
          go_wp2_with (go_at_call 34; refine (class_any _ _ _ (by omega) (by omega)).mono ?_; rintro e w' ⟨he, m, rfl⟩; (first | rw [HA.out] at he | rw [HB.out] at he); subst he)
          refine (oneIs2_any 5 A B _ _ (by go_simp) (by go_simp)).mono ?_
          rintro e w' ⟨he, rfl⟩
          rw [HS.out] at he
          subst he
          go_wp2_with fail
          refine (punknown_any A B _).mono ?_
          rintro e W1 ⟨he, hW1⟩
          rw [HL.out] at he
          subst he
          have HG1 := Lib.hid (show Grown w W1 from grown_trans (by repeat (first | with_reducible exact HG0.out | with_reducible refine Grown.setCell ?_ (by simp <;> omega) _ | with_reducible refine Grown.alloc ?_ _ _ | with_reducible refine grown_more ?_ _)) hW1)
          have HX1 := Lib.hid (show ExcAt w.heap.size W1 from HX0.out.grown (grown_trans (by repeat (first | with_reducible exact Grown.refl _ | with_reducible refine Grown.setCell ?_ (by simp <;> omega) _ | with_reducible refine Grown.alloc ?_ _ _ | with_reducible refine grown_more ?_ _)) hW1))
          clear hW1
          go_wp2_with fail
          refine (pproduct_any f a b _ a0 a1 b0 b1).mono ?_
          rintro e W2 ⟨he, hW2⟩
          rw [HP.out] at he
          subst he
          have HG2 := Lib.hid (show Grown w W2 from grown_trans (by repeat (first | with_reducible exact HG1.out | with_reducible refine Grown.setCell ?_ (by simp <;> omega) _ | with_reducible refine Grown.alloc ?_ _ _ | with_reducible refine grown_more ?_ _)) hW2)
          have HX2 := Lib.hid (show ExcAt w.heap.size W2 from HX1.out.grown (grown_trans (by repeat (first | with_reducible exact Grown.refl _ | with_reducible refine Grown.setCell ?_ (by simp <;> omega) _ | with_reducible refine Grown.alloc ?_ _ _ | with_reducible refine grown_more ?_ _)) hW2))
          clear hW2
          go_wp2_with fail
          have HX4 := Lib.hid (HX2.out.under2 #[.bool s, .int .i64 X, .int .u64 T] #[.int .i64 A, .int .i64 B] 73 3)
          have HG4 := Lib.hid (Grown.alloc (Grown.alloc HG2.out #[.bool s, .int .i64 X, .int .u64 T] 73) #[.int .i64 A, .int .i64 B] 3)
          have HP4 := Lib.hid ((part_new W2 s X T 73).under1 #[.int .i64 A, .int .i64 B] 3)
          have HC := cells2b W2 #[.bool s, .int .i64 X, .int .u64 T] 73 (.int .i64 A) (.int .i64 B) 3
          generalize ((W2.alloc _).alloc _) = W4 at HX4 HG4 HP4 HC ⊢
          obtain ⟨y0, y1⟩ := HC
          refine (oneIs2_any 4 A B _ _ y0 y1).mono ?_
          rintro e w' ⟨he, rfl⟩
          rw [HQu.out] at he
          subst he
          clear y0 y1
          go_wp2_with fail
          have HX5 := Lib.hid (HX4.out.under1 #[.int .i64 A, .int .i64 B] 3)
          have HG5 := Lib.hid (Grown.alloc HG4.out #[.int .i64 A, .int .i64 B] 3)
          have HP5 := Lib.hid (HP4.out.under1 #[.int .i64 A, .int .i64 B] 3)
          have HC := cells2 W4 (.int .i64 A) (.int .i64 B) 3
          generalize (W4.alloc _) = W5 at HX5 HG5 HP5 HC ⊢
          obtain ⟨y0, y1⟩ := HC
          refine (oneIs2_any 3 A B _ _ y0 y1).mono ?_
          rintro e w' ⟨he, rfl⟩
          rw [HI.out] at he
          subst he
          clear y0 y1
          obtain ⟨xb, x0, x1, x2, x3, x4, z0, z1, z2, z3, z4⟩ := HX5.out
          obtain ⟨pl, p0, p1, p2, r0, r1, r2⟩ := HP5.out
          go_wp2_with (go_at_call 37; refine (inf_any _ _ _).mono ?_; rintro e w' ⟨rfl, rfl⟩)
          (try simp only [Exit.inBlock, Exit.then])
          refine bodyPost_ret (v := .tuple #[.int .u32 (infI f s), .agg #[.bool false, .bool false, .bool false, .bool false, .bool false]]) ?_ rfl ⟨(excE_is _ _).trans HQ.out.symm, ?_⟩
          · rw [results_tmp_cell rfl]
            go_simp
          · repeat (first | with_reducible exact HG5.out | with_reducible refine Grown.setCell ?_ (by simp <;> omega) _ | with_reducible refine Grown.alloc ?_ _ _ | with_reducible refine grown_more ?_ _)

        case false =>
          have HQ := Lib.hid (HM3.out.trans ((if_neg (by simp)).trans (if_neg (by simp))))
          clear HM3
          go_enter Try.func62, Try.ntmps62
          go_wp2_with (go_at_call 34; refine (class_any _ _ _ (by omega) (by omega)).mono ?_; rintro e w' ⟨he, m, rfl⟩; (first | rw [HA.out] at he | rw [HB.out] at he); subst he)
          refine (oneIs2_any 5 A B _ _ (by go_simp) (by go_simp)).mono ?_
          rintro e w' ⟨he, rfl⟩
          rw [HS.out] at he
          subst he
          go_wp2_with fail
          refine (punknown_any A B _).mono ?_
          rintro e W1 ⟨he, hW1⟩
          rw [HL.out] at he
          subst he
          have HG1 := Lib.hid (show Grown w W1 from grown_trans (by repeat (first | with_reducible exact HG0.out | with_reducible refine Grown.setCell ?_ (by simp <;> omega) _ | with_reducible refine Grown.alloc ?_ _ _ | with_reducible refine grown_more ?_ _)) hW1)
          have HX1 := Lib.hid (show ExcAt w.heap.size W1 from HX0.out.grown (grown_trans (by repeat (first | with_reducible exact Grown.refl _ | with_reducible refine Grown.setCell ?_ (by simp <;> omega) _ | with_reducible refine Grown.alloc ?_ _ _ | with_reducible refine grown_more ?_ _)) hW1))
          clear hW1
          go_wp2_with fail
          refine (pproduct_any f a b _ a0 a1 b0 b1).mono ?_
          rintro e W2 ⟨he, hW2⟩
          rw [HP.out] at he
          subst he
          have HG2 := Lib.hid (show Grown w W2 from grown_trans (by repeat (first | with_reducible exact HG1.out | with_reducible refine Grown.setCell ?_ (by simp <;> omega) _ | with_reducible refine Grown.alloc ?_ _ _ | with_reducible refine grown_more ?_ _)) hW2)
          have HX2 := Lib.hid (show ExcAt w.heap.size W2 from HX1.out.grown (grown_trans (by repeat (first | with_reducible exact Grown.refl _ | with_reducible refine Grown.setCell ?_ (by simp <;> omega) _ | with_reducible refine Grown.alloc ?_ _ _ | with_reducible refine grown_more ?_ _)) hW2))
          clear hW2
          go_wp2_with fail
          have HX4 := Lib.hid (HX2.out.under2 #[.bool s, .int .i64 X, .int .u64 T] #[.int .i64 A, .int .i64 B] 73 3)
          have HG4 := Lib.hid (Grown.alloc (Grown.alloc HG2.out #[.bool s, .int .i64 X, .int .u64 T] 73) #[.int .i64 A, .int .i64 B] 3)
          have HP4 := Lib.hid ((part_new W2 s X T 73).under1 #[.int .i64 A, .int .i64 B] 3)
          have HC := cells2b W2 #[.bool s, .int .i64 X, .int .u64 T] 73 (.int .i64 A) (.int .i64 B) 3
          generalize ((W2.alloc _).alloc _) = W4 at HX4 HG4 HP4 HC ⊢
          obtain ⟨y0, y1⟩ := HC
          refine (oneIs2_any 4 A B _ _ y0 y1).mono ?_
          rintro e w' ⟨he, rfl⟩
          rw [HQu.out] at he
          subst he
          clear y0 y1
          go_wp2_with fail
          have HX5 := Lib.hid (HX4.out.under1 #[.int .i64 A, .int .i64 B] 3)
          have HG5 := Lib.hid (Grown.alloc HG4.out #[.int .i64 A, .int .i64 B] 3)
          have HP5 := Lib.hid (HP4.out.under1 #[.int .i64 A, .int .i64 B] 3)
          have HC := cells2 W4 (.int .i64 A) (.int .i64 B) 3
          generalize (W4.alloc _) = W5 at HX5 HG5 HP5 HC ⊢
          obtain ⟨y0, y1⟩ := HC
          refine (oneIs2_any 3 A B _ _ y0 y1).mono ?_
          rintro e w' ⟨he, rfl⟩
          rw [HI.out] at he
          subst he
          clear y0 y1
          obtain ⟨pl, p0, p1, p2, r0, r1, r2⟩ := HP5.out
          go_wp2_with fail
          refine (pack_any _ _ _ _ _ _ _ (by omega) (by omega) (by omega) (by omega)).mono ?_
          rintro e W6 ⟨he, hW⟩
          rw [exc_agg] at he
          subst he
          have HG6 := Lib.hid (show Grown w W6 from grown_trans (by repeat (first | with_reducible exact HG5.out | with_reducible refine Grown.setCell ?_ (by simp <;> omega) _ | with_reducible refine Grown.alloc ?_ _ _ | with_reducible refine grown_more ?_ _)) hW)
          have HX6 := Lib.hid (show ExcAt w.heap.size W6 from HX5.out.grown (grown_trans (by repeat (first | with_reducible exact Grown.refl _ | with_reducible refine Grown.setCell ?_ (by simp <;> omega) _ | with_reducible refine Grown.alloc ?_ _ _ | with_reducible refine grown_more ?_ _)) hW))
          clear hW
          obtain ⟨xb, x0, x1, x2, x3, x4, z0, z1, z2, z3, z4⟩ := HX6.out
          go_wp2
          (try simp only [Exit.inBlock, Exit.then])
          refine bodyPost_ret (v := .tuple #[.int .u32 (rdV f mode s (valN (clampE X) T false)), .agg #[.bool false, .bool false, .bool (rdO f mode s (valN (clampE X) T false)), .bool (rdU f (valN (clampE X) T false)), .bool (rdX f mode s (valN (clampE X) T false))]]) ?_ rfl ⟨(packE_is _ _ _ _).trans HQ.out.symm, ?_⟩
          · rw [results_tmp_cell rfl]
            go_simp
          · repeat (first | with_reducible exact HG6.out | with_reducible refine Grown.setCell ?_ (by simp <;> omega) _ | with_reducible refine Grown.alloc ?_ _ _ | with_reducible refine grown_more ?_ _)
end Go.Proofs.Ytheaeclojljecaa
