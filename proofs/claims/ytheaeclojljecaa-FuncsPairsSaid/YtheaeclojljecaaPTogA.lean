/- The contract of package prod's sum of two raised numbers. (Written by gen9.py.) The contract of package prod's sum of two numbers that it raised. -/
import Derived.Test.YtheaeclojljecaaRows
import Derived.Test.YtheaeclojljecaaFmt
import Derived.Test.YtheaeclojljecaaBits
import Derived.Test.YtheaeclojljecaaRd
import Derived.Test.YtheaeclojljecaaAddMath
import Derived.Test.YtheaeclojljecaaSum
import Derived.Test.YtheaeclojljecaaFuMath
namespace Go.Proofs.Ytheaeclojljecaa
open Go.RowKit
set_option linter.unusedVariables false
set_option linter.unusedSimpArgs false

set_option maxRecDepth 100000 in
set_option maxHeartbeats 4000000 in
theorem ptog_down (f mode : Int) (n m : Bool) (e1 e2 P Q S : Int) (B : Bool) (w : World)
    (a0 : -1000 ≤ e1) (a1 : e1 ≤ 1000) (b0 : -1000 ≤ e2) (b1 : e2 ≤ 1000) (p0 : 4611686018427387904 ≤ P) (p1 : P ≤ 9223372036854775807) (q0 : 4611686018427387904 ≤ Q) (q1 : Q ≤ 9223372036854775807) (hc : e2 < e1) (HQ : Hid (shV Q (e1 - e2) = S)) (HB : Hid (shO Q (e1 - e2) = B)) (s0 : 0 ≤ S) (s1 : S < 4611686018427387904) :
    Calls Try.prog 79 #[.int .i64 f, .int .i64 mode, .agg #[.bool n, .int .i64 e1, .int .u64 P], .agg #[.bool m, .int .i64 e2, .int .u64 Q]] w fun e w' => e = fuE f mode n m P S e1 B ∧ Grown w w' := by
  have HE := Lib.hid (exc_new ((w.alloc (.cells #[.bool n, .int .i64 e1, .int .u64 P] 73)).alloc (.cells #[.bool m, .int .i64 e2, .int .u64 Q] 73)) 57)
  have HG := Lib.hid (Grown.alloc (Grown.alloc (Grown.alloc (Grown.refl w) #[.bool n, .int .i64 e1, .int .u64 P] 73) #[.bool m, .int .i64 e2, .int .u64 Q] 73) #[.bool false, .bool false, .bool false, .bool false, .bool false] 57)
  rw [show ((w.alloc (.cells #[.bool n, .int .i64 e1, .int .u64 P] 73)).alloc (.cells #[.bool m, .int .i64 e2, .int .u64 Q] 73)).heap.size = w.heap.size + 1 + 1 by simp] at HE
  by_cases hs : n = m
  · subst hs
    have hnn : (n == n) = true := by simp
    go_enter Try.func79, Try.ntmps79
    go_wp2_with (first
      | (go_at_call 73; refine (shift_any _ _ _ (by omega) (by omega) (by omega) (by omega)).mono ?_; rintro e w' ⟨he, mm, rfl⟩; rw [HQ.out, HB.out] at he; subst he)
      | (go_at_call 38; refine (zero_any _ _ _).mono ?_; rintro e w' ⟨rfl, rfl⟩)
      | (go_at_call 78; refine (pack_any _ _ _ _ _ _ _ (by omega) (by omega) (by omega) (by omega)).mono ?_; rintro e W3 ⟨he, hW3⟩; rw [exc_agg] at he; subst he; have HW3 := Lib.hid hW3; clear hW3; have HG3 := Lib.hid (grown_trans HG.out (grown_trans (grown_drewN _ _) HW3.out)); obtain ⟨xb, x0, x1, x2, x3, x4, z0, z1, z2, z3, z4⟩ := HE.out.grown (grown_trans (grown_drewN _ _) HW3.out)))
    (try simp only [Exit.inBlock, Exit.then])
    refine bodyPost_ret (v := .tuple #[.int .u32 (rdV f mode n (valN (clampE e1) (P + S) B)), .agg #[.bool false, .bool false, .bool (rdO f mode n (valN (clampE e1) (P + S) B)), .bool (rdU f (valN (clampE e1) (P + S) B)), .bool (rdX f mode n (valN (clampE e1) (P + S) B))]]) ?_ rfl ⟨(packE_is _ _ _ _).trans (fu_like f mode n P S e1 B).symm, ?_⟩
    · rw [results_tmp_cell rfl]
      go_simp
    · repeat (first | with_reducible exact HG3.out | with_reducible refine Grown.setCell ?_ (by simp <;> omega) _ | with_reducible refine Grown.alloc ?_ _ _ | with_reducible refine grown_more ?_ _)
  · have HS := Lib.hid hs
    have hnn : (n == m) = false := by simpa using hs
    clear hs
    cases B
    · go_enter Try.func79, Try.ntmps79
      go_wp2_with (first
        | (go_at_call 73; refine (shift_any _ _ _ (by omega) (by omega) (by omega) (by omega)).mono ?_; rintro e w' ⟨he, mm, rfl⟩; rw [HQ.out, HB.out] at he; subst he)
        | (go_at_call 38; refine (zero_any _ _ _).mono ?_; rintro e w' ⟨rfl, rfl⟩)
        | (go_at_call 78; refine (pack_any _ _ _ _ _ _ _ (by omega) (by omega) (by omega) (by omega)).mono ?_; rintro e W3 ⟨he, hW3⟩; rw [exc_agg] at he; subst he; have HW3 := Lib.hid hW3; clear hW3; have HG3 := Lib.hid (grown_trans HG.out (grown_trans (grown_drewN _ _) HW3.out)); obtain ⟨xb, x0, x1, x2, x3, x4, z0, z1, z2, z3, z4⟩ := HE.out.grown (grown_trans (grown_drewN _ _) HW3.out)))
      (try simp only [Exit.inBlock, Exit.then])
      refine bodyPost_ret (v := .tuple #[.int .u32 (rdV f mode n (valN (clampE e1) (P - S) false)), .agg #[.bool false, .bool false, .bool (rdO f mode n (valN (clampE e1) (P - S) false)), .bool (rdU f (valN (clampE e1) (P - S) false)), .bool (rdX f mode n (valN (clampE e1) (P - S) false))]]) ?_ rfl ⟨(packE_is _ _ _ _).trans (fu_down f mode n m P S e1 HS.out (by omega)).symm, ?_⟩
      · rw [results_tmp_cell rfl]
        go_simp
      · repeat (first | with_reducible exact HG3.out | with_reducible refine Grown.setCell ?_ (by simp <;> omega) _ | with_reducible refine Grown.alloc ?_ _ _ | with_reducible refine grown_more ?_ _)
    · go_enter Try.func79, Try.ntmps79
      go_wp2_with (first
        | (go_at_call 73; refine (shift_any _ _ _ (by omega) (by omega) (by omega) (by omega)).mono ?_; rintro e w' ⟨he, mm, rfl⟩; rw [HQ.out, HB.out] at he; subst he)
        | (go_at_call 38; refine (zero_any _ _ _).mono ?_; rintro e w' ⟨rfl, rfl⟩)
        | (go_at_call 78; refine (pack_any _ _ _ _ _ _ _ (by omega) (by omega) (by omega) (by omega)).mono ?_; rintro e W3 ⟨he, hW3⟩; rw [exc_agg] at he; subst he; have HW3 := Lib.hid hW3; clear hW3; have HG3 := Lib.hid (grown_trans HG.out (grown_trans (grown_drewN _ _) HW3.out)); obtain ⟨xb, x0, x1, x2, x3, x4, z0, z1, z2, z3, z4⟩ := HE.out.grown (grown_trans (grown_drewN _ _) HW3.out)))
      (try simp only [Exit.inBlock, Exit.then])
      refine bodyPost_ret (v := .tuple #[.int .u32 (rdV f mode n (valN (clampE e1) (P - S - 1) true)), .agg #[.bool false, .bool false, .bool (rdO f mode n (valN (clampE e1) (P - S - 1) true)), .bool (rdU f (valN (clampE e1) (P - S - 1) true)), .bool (rdX f mode n (valN (clampE e1) (P - S - 1) true))]]) ?_ rfl ⟨(packE_is _ _ _ _).trans (fu_more f mode n m P S e1 HS.out).symm, ?_⟩
      · rw [results_tmp_cell rfl]
        go_simp
      · repeat (first | with_reducible exact HG3.out | with_reducible refine Grown.setCell ?_ (by simp <;> omega) _ | with_reducible refine Grown.alloc ?_ _ _ | with_reducible refine grown_more ?_ _)

set_option maxRecDepth 100000 in
set_option maxHeartbeats 4000000 in
theorem ptog_up (f mode : Int) (n m : Bool) (e1 e2 P Q S : Int) (B : Bool) (w : World)
    (a0 : -1000 ≤ e1) (a1 : e1 ≤ 1000) (b0 : -1000 ≤ e2) (b1 : e2 ≤ 1000) (p0 : 4611686018427387904 ≤ P) (p1 : P ≤ 9223372036854775807) (q0 : 4611686018427387904 ≤ Q) (q1 : Q ≤ 9223372036854775807) (hc : e1 < e2) (HQ : Hid (shV P (e2 - e1) = S)) (HB : Hid (shO P (e2 - e1) = B)) (s0 : 0 ≤ S) (s1 : S < 4611686018427387904) :
    Calls Try.prog 79 #[.int .i64 f, .int .i64 mode, .agg #[.bool n, .int .i64 e1, .int .u64 P], .agg #[.bool m, .int .i64 e2, .int .u64 Q]] w fun e w' => e = fuE f mode m n Q S e2 B ∧ Grown w w' := by
  have HE := Lib.hid (exc_new ((w.alloc (.cells #[.bool m, .int .i64 e2, .int .u64 Q] 73)).alloc (.cells #[.bool n, .int .i64 e1, .int .u64 P] 73)) 57)
  have HG := Lib.hid (Grown.alloc (Grown.alloc (Grown.alloc (Grown.refl w) #[.bool m, .int .i64 e2, .int .u64 Q] 73) #[.bool n, .int .i64 e1, .int .u64 P] 73) #[.bool false, .bool false, .bool false, .bool false, .bool false] 57)
  rw [show ((w.alloc (.cells #[.bool m, .int .i64 e2, .int .u64 Q] 73)).alloc (.cells #[.bool n, .int .i64 e1, .int .u64 P] 73)).heap.size = w.heap.size + 1 + 1 by simp] at HE
  by_cases hs : m = n
  · subst hs
    have hnn : (m == m) = true := by simp
    go_enter Try.func79, Try.ntmps79
    go_wp2_with (first
      | (go_at_call 73; refine (shift_any _ _ _ (by omega) (by omega) (by omega) (by omega)).mono ?_; rintro e w' ⟨he, mm, rfl⟩; rw [HQ.out, HB.out] at he; subst he)
      | (go_at_call 38; refine (zero_any _ _ _).mono ?_; rintro e w' ⟨rfl, rfl⟩)
      | (go_at_call 78; refine (pack_any _ _ _ _ _ _ _ (by omega) (by omega) (by omega) (by omega)).mono ?_; rintro e W3 ⟨he, hW3⟩; rw [exc_agg] at he; subst he; have HW3 := Lib.hid hW3; clear hW3; have HG3 := Lib.hid (grown_trans HG.out (grown_trans (grown_drewN _ _) HW3.out)); obtain ⟨xb, x0, x1, x2, x3, x4, z0, z1, z2, z3, z4⟩ := HE.out.grown (grown_trans (grown_drewN _ _) HW3.out)))
    (try simp only [Exit.inBlock, Exit.then])
    refine bodyPost_ret (v := .tuple #[.int .u32 (rdV f mode m (valN (clampE e2) (Q + S) B)), .agg #[.bool false, .bool false, .bool (rdO f mode m (valN (clampE e2) (Q + S) B)), .bool (rdU f (valN (clampE e2) (Q + S) B)), .bool (rdX f mode m (valN (clampE e2) (Q + S) B))]]) ?_ rfl ⟨(packE_is _ _ _ _).trans (fu_like f mode m Q S e2 B).symm, ?_⟩
    · rw [results_tmp_cell rfl]
      go_simp
    · repeat (first | with_reducible exact HG3.out | with_reducible refine Grown.setCell ?_ (by simp <;> omega) _ | with_reducible refine Grown.alloc ?_ _ _ | with_reducible refine grown_more ?_ _)
  · have HS := Lib.hid hs
    have hnn : (m == n) = false := by simpa using hs
    clear hs
    cases B
    · go_enter Try.func79, Try.ntmps79
      go_wp2_with (first
        | (go_at_call 73; refine (shift_any _ _ _ (by omega) (by omega) (by omega) (by omega)).mono ?_; rintro e w' ⟨he, mm, rfl⟩; rw [HQ.out, HB.out] at he; subst he)
        | (go_at_call 38; refine (zero_any _ _ _).mono ?_; rintro e w' ⟨rfl, rfl⟩)
        | (go_at_call 78; refine (pack_any _ _ _ _ _ _ _ (by omega) (by omega) (by omega) (by omega)).mono ?_; rintro e W3 ⟨he, hW3⟩; rw [exc_agg] at he; subst he; have HW3 := Lib.hid hW3; clear hW3; have HG3 := Lib.hid (grown_trans HG.out (grown_trans (grown_drewN _ _) HW3.out)); obtain ⟨xb, x0, x1, x2, x3, x4, z0, z1, z2, z3, z4⟩ := HE.out.grown (grown_trans (grown_drewN _ _) HW3.out)))
      (try simp only [Exit.inBlock, Exit.then])
      refine bodyPost_ret (v := .tuple #[.int .u32 (rdV f mode m (valN (clampE e2) (Q - S) false)), .agg #[.bool false, .bool false, .bool (rdO f mode m (valN (clampE e2) (Q - S) false)), .bool (rdU f (valN (clampE e2) (Q - S) false)), .bool (rdX f mode m (valN (clampE e2) (Q - S) false))]]) ?_ rfl ⟨(packE_is _ _ _ _).trans (fu_down f mode m n Q S e2 HS.out (by omega)).symm, ?_⟩
      · rw [results_tmp_cell rfl]
        go_simp
      · repeat (first | with_reducible exact HG3.out | with_reducible refine Grown.setCell ?_ (by simp <;> omega) _ | with_reducible refine Grown.alloc ?_ _ _ | with_reducible refine grown_more ?_ _)
    · go_enter Try.func79, Try.ntmps79
      go_wp2_with (first
        | (go_at_call 73; refine (shift_any _ _ _ (by omega) (by omega) (by omega) (by omega)).mono ?_; rintro e w' ⟨he, mm, rfl⟩; rw [HQ.out, HB.out] at he; subst he)
        | (go_at_call 38; refine (zero_any _ _ _).mono ?_; rintro e w' ⟨rfl, rfl⟩)
        | (go_at_call 78; refine (pack_any _ _ _ _ _ _ _ (by omega) (by omega) (by omega) (by omega)).mono ?_; rintro e W3 ⟨he, hW3⟩; rw [exc_agg] at he; subst he; have HW3 := Lib.hid hW3; clear hW3; have HG3 := Lib.hid (grown_trans HG.out (grown_trans (grown_drewN _ _) HW3.out)); obtain ⟨xb, x0, x1, x2, x3, x4, z0, z1, z2, z3, z4⟩ := HE.out.grown (grown_trans (grown_drewN _ _) HW3.out)))
      (try simp only [Exit.inBlock, Exit.then])
      refine bodyPost_ret (v := .tuple #[.int .u32 (rdV f mode m (valN (clampE e2) (Q - S - 1) true)), .agg #[.bool false, .bool false, .bool (rdO f mode m (valN (clampE e2) (Q - S - 1) true)), .bool (rdU f (valN (clampE e2) (Q - S - 1) true)), .bool (rdX f mode m (valN (clampE e2) (Q - S - 1) true))]]) ?_ rfl ⟨(packE_is _ _ _ _).trans (fu_more f mode m n Q S e2 HS.out).symm, ?_⟩
      · rw [results_tmp_cell rfl]
        go_simp
      · repeat (first | with_reducible exact HG3.out | with_reducible refine Grown.setCell ?_ (by simp <;> omega) _ | with_reducible refine Grown.alloc ?_ _ _ | with_reducible refine grown_more ?_ _)

set_option maxRecDepth 100000 in
set_option maxHeartbeats 4000000 in
theorem ptog_same (f mode : Int) (n m : Bool) (e1 P Q : Int) (w : World)
    (a0 : -1000 ≤ e1) (a1 : e1 ≤ 1000) (p0 : 4611686018427387904 ≤ P) (p1 : P ≤ 9223372036854775807) (q0 : 4611686018427387904 ≤ Q) (q1 : Q ≤ 9223372036854775807) (hc : Q ≤ P) (HQ : Hid (shV Q 0 = Q)) (HB : Hid (shO Q 0 = false))  :
    Calls Try.prog 79 #[.int .i64 f, .int .i64 mode, .agg #[.bool n, .int .i64 e1, .int .u64 P], .agg #[.bool m, .int .i64 e1, .int .u64 Q]] w fun e w' => e = fuE f mode n m P Q e1 false ∧ Grown w w' := by
  have HE := Lib.hid (exc_new ((w.alloc (.cells #[.bool n, .int .i64 e1, .int .u64 P] 73)).alloc (.cells #[.bool m, .int .i64 e1, .int .u64 Q] 73)) 57)
  have HG := Lib.hid (Grown.alloc (Grown.alloc (Grown.alloc (Grown.refl w) #[.bool n, .int .i64 e1, .int .u64 P] 73) #[.bool m, .int .i64 e1, .int .u64 Q] 73) #[.bool false, .bool false, .bool false, .bool false, .bool false] 57)
  rw [show ((w.alloc (.cells #[.bool n, .int .i64 e1, .int .u64 P] 73)).alloc (.cells #[.bool m, .int .i64 e1, .int .u64 Q] 73)).heap.size = w.heap.size + 1 + 1 by simp] at HE
  by_cases hs : n = m
  · subst hs
    have hnn : (n == n) = true := by simp
    go_enter Try.func79, Try.ntmps79
    go_wp2_with (first
      | (go_at_call 73; refine (shift_any _ _ _ (by omega) (by omega) (by omega) (by omega)).mono ?_; rintro e w' ⟨he, mm, rfl⟩; rw [HQ.out, HB.out] at he; subst he)
      | (go_at_call 38; refine (zero_any _ _ _).mono ?_; rintro e w' ⟨rfl, rfl⟩)
      | (go_at_call 78; refine (pack_any _ _ _ _ _ _ _ (by omega) (by omega) (by omega) (by omega)).mono ?_; rintro e W3 ⟨he, hW3⟩; rw [exc_agg] at he; subst he; have HW3 := Lib.hid hW3; clear hW3; have HG3 := Lib.hid (grown_trans HG.out (grown_trans (grown_drewN _ _) HW3.out)); obtain ⟨xb, x0, x1, x2, x3, x4, z0, z1, z2, z3, z4⟩ := HE.out.grown (grown_trans (grown_drewN _ _) HW3.out)))
    (try simp only [Exit.inBlock, Exit.then])
    refine bodyPost_ret (v := .tuple #[.int .u32 (rdV f mode n (valN (clampE e1) (P + Q) false)), .agg #[.bool false, .bool false, .bool (rdO f mode n (valN (clampE e1) (P + Q) false)), .bool (rdU f (valN (clampE e1) (P + Q) false)), .bool (rdX f mode n (valN (clampE e1) (P + Q) false))]]) ?_ rfl ⟨(packE_is _ _ _ _).trans (fu_like f mode n P Q e1 false).symm, ?_⟩
    · rw [results_tmp_cell rfl]
      go_simp
    · repeat (first | with_reducible exact HG3.out | with_reducible refine Grown.setCell ?_ (by simp <;> omega) _ | with_reducible refine Grown.alloc ?_ _ _ | with_reducible refine grown_more ?_ _)
  · have HS := Lib.hid hs
    have hnn : (n == m) = false := by simpa using hs
    clear hs
    by_cases hq : Q = P
    · subst hq
      go_enter Try.func79, Try.ntmps79
      go_wp2_with (first
        | (go_at_call 73; refine (shift_any _ _ _ (by omega) (by omega) (by omega) (by omega)).mono ?_; rintro e w' ⟨he, mm, rfl⟩; rw [HQ.out, HB.out] at he; subst he)
        | (go_at_call 38; refine (zero_any _ _ _).mono ?_; rintro e w' ⟨rfl, rfl⟩)
        | (go_at_call 78; refine (pack_any _ _ _ _ _ _ _ (by omega) (by omega) (by omega) (by omega)).mono ?_; rintro e W3 ⟨he, hW3⟩; rw [exc_agg] at he; subst he; have HW3 := Lib.hid hW3; clear hW3; have HG3 := Lib.hid (grown_trans HG.out (grown_trans (grown_drewN _ _) HW3.out)); obtain ⟨xb, x0, x1, x2, x3, x4, z0, z1, z2, z3, z4⟩ := HE.out.grown (grown_trans (grown_drewN _ _) HW3.out)))
      (try simp only [Exit.inBlock, Exit.then])
      refine bodyPost_ret (v := .tuple #[.int .u32 (zerI f (mode == 3)), .agg #[.bool false, .bool false, .bool false, .bool false, .bool false]]) ?_ rfl ⟨(excE_is _ _).trans (fu_even f mode n m Q e1 HS.out).symm, ?_⟩
      · rw [results_tmp_cell rfl]
        go_simp
      · repeat (first | with_reducible exact HG.out | with_reducible refine Grown.setCell ?_ (by simp <;> omega) _ | with_reducible refine Grown.alloc ?_ _ _ | with_reducible refine grown_more ?_ _)
    · have hlt : Q < P := by omega
      clear hq hc
      go_enter Try.func79, Try.ntmps79
      go_wp2_with (first
        | (go_at_call 73; refine (shift_any _ _ _ (by omega) (by omega) (by omega) (by omega)).mono ?_; rintro e w' ⟨he, mm, rfl⟩; rw [HQ.out, HB.out] at he; subst he)
        | (go_at_call 38; refine (zero_any _ _ _).mono ?_; rintro e w' ⟨rfl, rfl⟩)
        | (go_at_call 78; refine (pack_any _ _ _ _ _ _ _ (by omega) (by omega) (by omega) (by omega)).mono ?_; rintro e W3 ⟨he, hW3⟩; rw [exc_agg] at he; subst he; have HW3 := Lib.hid hW3; clear hW3; have HG3 := Lib.hid (grown_trans HG.out (grown_trans (grown_drewN _ _) HW3.out)); obtain ⟨xb, x0, x1, x2, x3, x4, z0, z1, z2, z3, z4⟩ := HE.out.grown (grown_trans (grown_drewN _ _) HW3.out)))
      (try simp only [Exit.inBlock, Exit.then])
      refine bodyPost_ret (v := .tuple #[.int .u32 (rdV f mode n (valN (clampE e1) (P - Q) false)), .agg #[.bool false, .bool false, .bool (rdO f mode n (valN (clampE e1) (P - Q) false)), .bool (rdU f (valN (clampE e1) (P - Q) false)), .bool (rdX f mode n (valN (clampE e1) (P - Q) false))]]) ?_ rfl ⟨(packE_is _ _ _ _).trans (fu_down f mode n m P Q e1 HS.out (by omega)).symm, ?_⟩
      · rw [results_tmp_cell rfl]
        go_simp
      · repeat (first | with_reducible exact HG3.out | with_reducible refine Grown.setCell ?_ (by simp <;> omega) _ | with_reducible refine Grown.alloc ?_ _ _ | with_reducible refine grown_more ?_ _)

set_option maxRecDepth 100000 in
set_option maxHeartbeats 4000000 in
theorem ptog_less (f mode : Int) (n m : Bool) (e1 P Q : Int) (w : World)
    (a0 : -1000 ≤ e1) (a1 : e1 ≤ 1000) (p0 : 4611686018427387904 ≤ P) (p1 : P ≤ 9223372036854775807) (q0 : 4611686018427387904 ≤ Q) (q1 : Q ≤ 9223372036854775807) (hc : P < Q) (HQ : Hid (shV P 0 = P)) (HB : Hid (shO P 0 = false))  :
    Calls Try.prog 79 #[.int .i64 f, .int .i64 mode, .agg #[.bool n, .int .i64 e1, .int .u64 P], .agg #[.bool m, .int .i64 e1, .int .u64 Q]] w fun e w' => e = fuE f mode m n Q P e1 false ∧ Grown w w' := by
  have HE := Lib.hid (exc_new ((w.alloc (.cells #[.bool m, .int .i64 e1, .int .u64 Q] 73)).alloc (.cells #[.bool n, .int .i64 e1, .int .u64 P] 73)) 57)
  have HG := Lib.hid (Grown.alloc (Grown.alloc (Grown.alloc (Grown.refl w) #[.bool m, .int .i64 e1, .int .u64 Q] 73) #[.bool n, .int .i64 e1, .int .u64 P] 73) #[.bool false, .bool false, .bool false, .bool false, .bool false] 57)
  rw [show ((w.alloc (.cells #[.bool m, .int .i64 e1, .int .u64 Q] 73)).alloc (.cells #[.bool n, .int .i64 e1, .int .u64 P] 73)).heap.size = w.heap.size + 1 + 1 by simp] at HE
  by_cases hs : m = n
  · subst hs
    have hnn : (m == m) = true := by simp
    go_enter Try.func79, Try.ntmps79
    go_wp2_with (first
      | (go_at_call 73; refine (shift_any _ _ _ (by omega) (by omega) (by omega) (by omega)).mono ?_; rintro e w' ⟨he, mm, rfl⟩; rw [HQ.out, HB.out] at he; subst he)
      | (go_at_call 38; refine (zero_any _ _ _).mono ?_; rintro e w' ⟨rfl, rfl⟩)
      | (go_at_call 78; refine (pack_any _ _ _ _ _ _ _ (by omega) (by omega) (by omega) (by omega)).mono ?_; rintro e W3 ⟨he, hW3⟩; rw [exc_agg] at he; subst he; have HW3 := Lib.hid hW3; clear hW3; have HG3 := Lib.hid (grown_trans HG.out (grown_trans (grown_drewN _ _) HW3.out)); obtain ⟨xb, x0, x1, x2, x3, x4, z0, z1, z2, z3, z4⟩ := HE.out.grown (grown_trans (grown_drewN _ _) HW3.out)))
    (try simp only [Exit.inBlock, Exit.then])
    refine bodyPost_ret (v := .tuple #[.int .u32 (rdV f mode m (valN (clampE e1) (Q + P) false)), .agg #[.bool false, .bool false, .bool (rdO f mode m (valN (clampE e1) (Q + P) false)), .bool (rdU f (valN (clampE e1) (Q + P) false)), .bool (rdX f mode m (valN (clampE e1) (Q + P) false))]]) ?_ rfl ⟨(packE_is _ _ _ _).trans (fu_like f mode m Q P e1 false).symm, ?_⟩
    · rw [results_tmp_cell rfl]
      go_simp
    · repeat (first | with_reducible exact HG3.out | with_reducible refine Grown.setCell ?_ (by simp <;> omega) _ | with_reducible refine Grown.alloc ?_ _ _ | with_reducible refine grown_more ?_ _)
  · have HS := Lib.hid hs
    have hnn : (m == n) = false := by simpa using hs
    clear hs
    go_enter Try.func79, Try.ntmps79
    go_wp2_with (first
      | (go_at_call 73; refine (shift_any _ _ _ (by omega) (by omega) (by omega) (by omega)).mono ?_; rintro e w' ⟨he, mm, rfl⟩; rw [HQ.out, HB.out] at he; subst he)
      | (go_at_call 38; refine (zero_any _ _ _).mono ?_; rintro e w' ⟨rfl, rfl⟩)
      | (go_at_call 78; refine (pack_any _ _ _ _ _ _ _ (by omega) (by omega) (by omega) (by omega)).mono ?_; rintro e W3 ⟨he, hW3⟩; rw [exc_agg] at he; subst he; have HW3 := Lib.hid hW3; clear hW3; have HG3 := Lib.hid (grown_trans HG.out (grown_trans (grown_drewN _ _) HW3.out)); obtain ⟨xb, x0, x1, x2, x3, x4, z0, z1, z2, z3, z4⟩ := HE.out.grown (grown_trans (grown_drewN _ _) HW3.out)))
    (try simp only [Exit.inBlock, Exit.then])
    refine bodyPost_ret (v := .tuple #[.int .u32 (rdV f mode m (valN (clampE e1) (Q - P) false)), .agg #[.bool false, .bool false, .bool (rdO f mode m (valN (clampE e1) (Q - P) false)), .bool (rdU f (valN (clampE e1) (Q - P) false)), .bool (rdX f mode m (valN (clampE e1) (Q - P) false))]]) ?_ rfl ⟨(packE_is _ _ _ _).trans (fu_down f mode m n Q P e1 HS.out (by omega)).symm, ?_⟩
    · rw [results_tmp_cell rfl]
      go_simp
    · repeat (first | with_reducible exact HG3.out | with_reducible refine Grown.setCell ?_ (by simp <;> omega) _ | with_reducible refine Grown.alloc ?_ _ _ | with_reducible refine grown_more ?_ _)

theorem sh_q (Q d : Nat) : shV (Q : Int) (d : Int) = ((Q / 2 ^ d : Nat) : Int) ∧ shO (Q : Int) (d : Int) = decide (Q % 2 ^ d ≠ 0) := by
  refine ⟨?_, ?_⟩
  · unfold shV; rw [if_neg (by omega), Int.toNat_natCast, pow2_cast, ← Int.natCast_ediv]
  · unfold shO; rw [if_neg (by omega), Int.toNat_natCast, pow2_cast, ← Int.natCast_emod]
    congr 1
    rw [eq_iff_iff]; omega

/-- The sum of two raised ones, the greater one first. -/
theorem tog_down (f mode : Int) (n m : Bool) (e1 e2 : Int) (P Q : Nat) (w : World) (a0 : -1000 ≤ e1) (a1 : e1 ≤ 1000) (b0 : -1000 ≤ e2) (b1 : e2 ≤ 1000)
    (p0 : 4611686018427387904 ≤ P) (p1 : P ≤ 9223372036854775807) (q0 : 4611686018427387904 ≤ Q) (q1 : Q ≤ 9223372036854775807) (q2 : Q % 2 = 0) (hc : e2 < e1 ∨ (e1 = e2 ∧ Q ≤ P)) :
    Calls Try.prog 79 #[.int .i64 f, .int .i64 mode, .agg #[.bool n, .int .i64 e1, .int .u64 (P : Int)], .agg #[.bool m, .int .i64 e2, .int .u64 (Q : Int)]] w fun e w' => e = finU f mode n (P * 2 ^ (e1 + 10100).toNat) m (Q * 2 ^ (e2 + 10100).toNat) ∧ Grown w w' := by
  obtain ⟨d, hd⟩ : ∃ d : Nat, e1 - e2 = d := ⟨(e1 - e2).toNat, by omega⟩
  obtain ⟨s1, s2⟩ := sh_q Q d
  have h := tog_is f mode n m P Q d (e2 + 10100).toNat e1 p0 q1 q2 (by rw [clamp_in _ (by omega) (by omega)]; omega) (by omega) (fun g => by omega)
  rw [show d + (e2 + 10100).toNat = (e1 + 10100).toNat by omega] at h
  rw [← h]
  rcases hc with hc | ⟨rfl, hc⟩
  · have d1 : 1 ≤ d := by omega
    have hq : Q / 2 ^ d ≤ Q / 2 := Nat.div_le_div_left (Nat.pow_le_pow_right (n := 2) (by decide) d1) (by decide)
    exact ptog_down f mode n m e1 e2 P Q _ _ w a0 a1 b0 b1 (by omega) (by omega) (by omega) (by omega) hc (by rw [hd]; exact s1) (by rw [hd]; exact s2) (Int.natCast_nonneg _) (by omega)
  · have d0 : d = 0 := by omega
    subst d0
    have g1 : ((Q / 2 ^ 0 : Nat) : Int) = (Q : Int) := by simp
    have g2 : decide (Q % 2 ^ 0 ≠ 0) = false := by simp [Nat.mod_one]
    rw [g1] at s1 ⊢
    rw [g2] at s2 ⊢
    exact ptog_same f mode n m e1 P Q w a0 a1 (by omega) (by omega) (by omega) (by omega) (by omega) s1 s2

/-- The lesser one first. -/
theorem tog_up (f mode : Int) (n m : Bool) (e1 e2 : Int) (P Q : Nat) (w : World) (a0 : -1000 ≤ e1) (a1 : e1 ≤ 1000) (b0 : -1000 ≤ e2) (b1 : e2 ≤ 1000)
    (p0 : 4611686018427387904 ≤ P) (p1 : P ≤ 9223372036854775807) (q0 : 4611686018427387904 ≤ Q) (q1 : Q ≤ 9223372036854775807) (p2 : P % 2 = 0) (hc : e1 < e2 ∨ (e1 = e2 ∧ P < Q)) :
    Calls Try.prog 79 #[.int .i64 f, .int .i64 mode, .agg #[.bool n, .int .i64 e1, .int .u64 (P : Int)], .agg #[.bool m, .int .i64 e2, .int .u64 (Q : Int)]] w fun e w' => e = finU f mode m (Q * 2 ^ (e2 + 10100).toNat) n (P * 2 ^ (e1 + 10100).toNat) ∧ Grown w w' := by
  obtain ⟨d, hd⟩ : ∃ d : Nat, e2 - e1 = d := ⟨(e2 - e1).toNat, by omega⟩
  obtain ⟨s1, s2⟩ := sh_q P d
  have h := tog_is f mode m n Q P d (e1 + 10100).toNat e2 q0 p1 p2 (by rw [clamp_in _ (by omega) (by omega)]; omega) (by omega) (fun g => by omega)
  rw [show d + (e1 + 10100).toNat = (e2 + 10100).toNat by omega] at h
  rw [← h]
  rcases hc with hc | ⟨rfl, hc⟩
  · have d1 : 1 ≤ d := by omega
    have hq : P / 2 ^ d ≤ P / 2 := Nat.div_le_div_left (Nat.pow_le_pow_right (n := 2) (by decide) d1) (by decide)
    exact ptog_up f mode n m e1 e2 P Q _ _ w a0 a1 b0 b1 (by omega) (by omega) (by omega) (by omega) hc (by rw [hd]; exact s1) (by rw [hd]; exact s2) (Int.natCast_nonneg _) (by omega)
  · have d0 : d = 0 := by omega
    subst d0
    have g1 : ((P / 2 ^ 0 : Nat) : Int) = (P : Int) := by simp
    have g2 : decide (P % 2 ^ 0 ≠ 0) = false := by simp [Nat.mod_one]
    rw [g1] at s1 ⊢
    rw [g2] at s2 ⊢
    exact ptog_less f mode n m e1 P Q w a0 a1 (by omega) (by omega) (by omega) (by omega) (by omega) s1 s2

/-- Any two numbers that raise has made. -/
theorem ptog_any (f mode : Int) (n m : Bool) (x y M K : Int) (w : World) (x0 : -298 ≤ x) (x1 : x ≤ 400) (y0 : -298 ≤ y) (y1 : y ≤ 400) (m0 : 0 < M) (m1 : M < 281474976710656) (k0 : 0 < K) (k1 : K < 281474976710656) :
    Calls Try.prog 79 #[.int .i64 f, .int .i64 mode, .agg #[.bool n, .int .i64 (x - (63 - lenI M)), .int .u64 (M * 2 ^ (63 - lenI M).toNat)], .agg #[.bool m, .int .i64 (y - (63 - lenI K)), .int .u64 (K * 2 ^ (63 - lenI K).toNat)]] w fun e w' => e = finE f mode n (amtE x M) m (amtE y K) ∧ Grown w w' := by
  obtain ⟨l0, l1, l2, l3, l4⟩ := raise_fit M m0 m1
  obtain ⟨j0, j1, j2, j3, j4⟩ := raise_fit K k0 k1
  have hV := raise_amt x M m0 m1 x0 x1
  have hW := raise_amt y K k0 k1 y0 y1
  generalize lenI M = L at *
  generalize lenI K = J at *
  generalize M * 2 ^ (63 - L).toNat = P at *
  generalize K * 2 ^ (63 - J).toNat = Q at *
  obtain ⟨P', rfl⟩ := Int.eq_ofNat_of_zero_le (show 0 ≤ P by omega)
  obtain ⟨Q', rfl⟩ := Int.eq_ofNat_of_zero_le (show 0 ≤ Q by omega)
  rw [Int.toNat_natCast] at hV hW
  by_cases c : (y - (63 - J) < x - (63 - L)) ∨ (x - (63 - L) = y - (63 - J) ∧ Q' ≤ P')
  · rw [fin_up, ← hV, ← hW]
    exact tog_down f mode n m _ _ P' Q' w (by omega) (by omega) (by omega) (by omega) (by omega) (by omega) (by omega) (by omega) (by omega) c
  · rw [← fin_swap, fin_up, ← hV, ← hW]
    exact tog_up f mode n m _ _ P' Q' w (by omega) (by omega) (by omega) (by omega) (by omega) (by omega) (by omega) (by omega) (by omega) (by omega)
end Go.Proofs.Ytheaeclojljecaa
