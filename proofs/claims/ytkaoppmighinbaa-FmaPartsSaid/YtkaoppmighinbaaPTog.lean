/- The contract of package prod's sum of two raised numbers. (Written by gen9.py.) -/
import Derived.Test.YtkaoppmighinbaaRows
import Derived.Test.YtkaoppmighinbaaFmt
import Derived.Test.YtkaoppmighinbaaBits
import Derived.Test.YtkaoppmighinbaaRd
import Derived.Test.YtkaoppmighinbaaAddMath
import Derived.Test.YtkaoppmighinbaaSum
namespace Go.Proofs.Ytkaoppmighinbaa
open Go.RowKit
set_option linter.unusedVariables false
set_option linter.unusedSimpArgs false

set_option maxRecDepth 100000 in
set_option maxHeartbeats 4000000 in
theorem ptog_down (f mode : Int) (n m : Bool) (e1 e2 P Q S : Int) (B : Bool) (w : World)
    (a0 : -1000 ≤ e1) (a1 : e1 ≤ 1000) (b0 : -1000 ≤ e2) (b1 : e2 ≤ 1000) (p0 : 4611686018427387904 ≤ P) (p1 : P ≤ 9223372036854775807) (q0 : 4611686018427387904 ≤ Q) (q1 : Q ≤ 9223372036854775807) (hc : e2 < e1) (HQ : Hid (shV Q (e1 - e2) = S)) (HB : Hid (shO Q (e1 - e2) = B)) (s0 : 0 ≤ S) (s1 : S < 4611686018427387904) :
    Calls Try.prog 41 #[.int .i64 f, .int .i64 mode, .agg #[.bool n, .int .i64 e1, .int .u64 P], .agg #[.bool m, .int .i64 e2, .int .u64 Q]] w fun e w' => e = fuE f mode n m P S e1 B ∧ Grown w w' := by
  have HE := Lib.hid (exc_new ((w.alloc (.cells #[.bool n, .int .i64 e1, .int .u64 P] 52)).alloc (.cells #[.bool m, .int .i64 e2, .int .u64 Q] 52)) 29)
  have HG := Lib.hid (Grown.alloc (Grown.alloc (Grown.alloc (Grown.refl w) #[.bool n, .int .i64 e1, .int .u64 P] 52) #[.bool m, .int .i64 e2, .int .u64 Q] 52) #[.bool false, .bool false, .bool false, .bool false, .bool false] 29)
  rw [show ((w.alloc (.cells #[.bool n, .int .i64 e1, .int .u64 P] 52)).alloc (.cells #[.bool m, .int .i64 e2, .int .u64 Q] 52)).heap.size = w.heap.size + 1 + 1 by simp] at HE
  by_cases hs : n = m
  · subst hs
    have hnn : (n == n) = true := by simp
    go_enter Try.func41, Try.ntmps41
    go_wp2_with (first
      | (go_at_call 68; refine (shift_any _ _ _ (by omega) (by omega) (by omega) (by omega)).mono ?_; rintro e w' ⟨he, mm, rfl⟩; rw [HQ.out, HB.out] at he; subst he)
      | (go_at_call 40; refine (zero_any _ _ _).mono ?_; rintro e w' ⟨rfl, rfl⟩)
      | (go_at_call 30; refine (pack_any _ _ _ _ _ _ _ (by omega) (by omega) (by omega) (by omega)).mono ?_; rintro e W3 ⟨he, hW3⟩; rw [exc_agg] at he; subst he; have HW3 := Lib.hid hW3; clear hW3; have HG3 := Lib.hid (grown_trans HG.out (grown_trans (grown_drewN _ _) HW3.out)); obtain ⟨xb, x0, x1, x2, x3, x4, z0, z1, z2, z3, z4⟩ := HE.out.grown (grown_trans (grown_drewN _ _) HW3.out)))
    (try simp only [Exit.inBlock, Exit.then])
    refine bodyPost_ret (v := .tuple #[.int .u32 (rdV f mode n (valN (clampE e1) (P + S) B)), .agg #[.bool false, .bool false, .bool (rdO f mode n (valN (clampE e1) (P + S) B)), .bool (rdU f (valN (clampE e1) (P + S) B)), .bool (rdX f mode n (valN (clampE e1) (P + S) B))]]) ?_ rfl ⟨(packE_is _ _ _ _).trans (fu_like f mode n P S e1 B).symm, ?_⟩
    · rw [results_tmp_cell rfl]
      go_simp
    · repeat (first | with_reducible exact HG3.out | with_reducible refine Grown.setCell ?_ (by simp <;> omega) _ | with_reducible refine Grown.alloc ?_ _ _ | with_reducible refine grown_more ?_ _)
  · have HS := Lib.hid hs
    have hnn : (n == m) = false := by simpa using hs
    clear hs
    cases B
    · go_enter Try.func41, Try.ntmps41
      go_wp2_with (first
        | (go_at_call 68; refine (shift_any _ _ _ (by omega) (by omega) (by omega) (by omega)).mono ?_; rintro e w' ⟨he, mm, rfl⟩; rw [HQ.out, HB.out] at he; subst he)
        | (go_at_call 40; refine (zero_any _ _ _).mono ?_; rintro e w' ⟨rfl, rfl⟩)
        | (go_at_call 30; refine (pack_any _ _ _ _ _ _ _ (by omega) (by omega) (by omega) (by omega)).mono ?_; rintro e W3 ⟨he, hW3⟩; rw [exc_agg] at he; subst he; have HW3 := Lib.hid hW3; clear hW3; have HG3 := Lib.hid (grown_trans HG.out (grown_trans (grown_drewN _ _) HW3.out)); obtain ⟨xb, x0, x1, x2, x3, x4, z0, z1, z2, z3, z4⟩ := HE.out.grown (grown_trans (grown_drewN _ _) HW3.out)))
      (try simp only [Exit.inBlock, Exit.then])
      refine bodyPost_ret (v := .tuple #[.int .u32 (rdV f mode n (valN (clampE e1) (P - S) false)), .agg #[.bool false, .bool false, .bool (rdO f mode n (valN (clampE e1) (P - S) false)), .bool (rdU f (valN (clampE e1) (P - S) false)), .bool (rdX f mode n (valN (clampE e1) (P - S) false))]]) ?_ rfl ⟨(packE_is _ _ _ _).trans (fu_down f mode n m P S e1 HS.out (by omega)).symm, ?_⟩
      · rw [results_tmp_cell rfl]
        go_simp
      · repeat (first | with_reducible exact HG3.out | with_reducible refine Grown.setCell ?_ (by simp <;> omega) _ | with_reducible refine Grown.alloc ?_ _ _ | with_reducible refine grown_more ?_ _)
    · go_enter Try.func41, Try.ntmps41
      go_wp2_with (first
        | (go_at_call 68; refine (shift_any _ _ _ (by omega) (by omega) (by omega) (by omega)).mono ?_; rintro e w' ⟨he, mm, rfl⟩; rw [HQ.out, HB.out] at he; subst he)
        | (go_at_call 40; refine (zero_any _ _ _).mono ?_; rintro e w' ⟨rfl, rfl⟩)
        | (go_at_call 30; refine (pack_any _ _ _ _ _ _ _ (by omega) (by omega) (by omega) (by omega)).mono ?_; rintro e W3 ⟨he, hW3⟩; rw [exc_agg] at he; subst he; have HW3 := Lib.hid hW3; clear hW3; have HG3 := Lib.hid (grown_trans HG.out (grown_trans (grown_drewN _ _) HW3.out)); obtain ⟨xb, x0, x1, x2, x3, x4, z0, z1, z2, z3, z4⟩ := HE.out.grown (grown_trans (grown_drewN _ _) HW3.out)))
      (try simp only [Exit.inBlock, Exit.then])
      refine bodyPost_ret (v := .tuple #[.int .u32 (rdV f mode n (valN (clampE e1) (P - S - 1) true)), .agg #[.bool false, .bool false, .bool (rdO f mode n (valN (clampE e1) (P - S - 1) true)), .bool (rdU f (valN (clampE e1) (P - S - 1) true)), .bool (rdX f mode n (valN (clampE e1) (P - S - 1) true))]]) ?_ rfl ⟨(packE_is _ _ _ _).trans (fu_more f mode n m P S e1 HS.out).symm, ?_⟩
      · rw [results_tmp_cell rfl]
        go_simp
      · repeat (first | with_reducible exact HG3.out | with_reducible refine Grown.setCell ?_ (by simp <;> omega) _ | with_reducible refine Grown.alloc ?_ _ _ | with_reducible refine grown_more ?_ _)

set_option maxRecDepth 100000 in
set_option maxHeartbeats 4000000 in
theorem ptog_up (f mode : Int) (n m : Bool) (e1 e2 P Q S : Int) (B : Bool) (w : World)
    (a0 : -1000 ≤ e1) (a1 : e1 ≤ 1000) (b0 : -1000 ≤ e2) (b1 : e2 ≤ 1000) (p0 : 4611686018427387904 ≤ P) (p1 : P ≤ 9223372036854775807) (q0 : 4611686018427387904 ≤ Q) (q1 : Q ≤ 9223372036854775807) (hc : e1 < e2) (HQ : Hid (shV P (e2 - e1) = S)) (HB : Hid (shO P (e2 - e1) = B)) (s0 : 0 ≤ S) (s1 : S < 4611686018427387904) :
    Calls Try.prog 41 #[.int .i64 f, .int .i64 mode, .agg #[.bool n, .int .i64 e1, .int .u64 P], .agg #[.bool m, .int .i64 e2, .int .u64 Q]] w fun e w' => e = fuE f mode m n Q S e2 B ∧ Grown w w' := by
  have HE := Lib.hid (exc_new ((w.alloc (.cells #[.bool m, .int .i64 e2, .int .u64 Q] 52)).alloc (.cells #[.bool n, .int .i64 e1, .int .u64 P] 52)) 29)
  have HG := Lib.hid (Grown.alloc (Grown.alloc (Grown.alloc (Grown.refl w) #[.bool m, .int .i64 e2, .int .u64 Q] 52) #[.bool n, .int .i64 e1, .int .u64 P] 52) #[.bool false, .bool false, .bool false, .bool false, .bool false] 29)
  rw [show ((w.alloc (.cells #[.bool m, .int .i64 e2, .int .u64 Q] 52)).alloc (.cells #[.bool n, .int .i64 e1, .int .u64 P] 52)).heap.size = w.heap.size + 1 + 1 by simp] at HE
  by_cases hs : m = n
  · subst hs
    have hnn : (m == m) = true := by simp
    go_enter Try.func41, Try.ntmps41
    go_wp2_with (first
      | (go_at_call 68; refine (shift_any _ _ _ (by omega) (by omega) (by omega) (by omega)).mono ?_; rintro e w' ⟨he, mm, rfl⟩; rw [HQ.out, HB.out] at he; subst he)
      | (go_at_call 40; refine (zero_any _ _ _).mono ?_; rintro e w' ⟨rfl, rfl⟩)
      | (go_at_call 30; refine (pack_any _ _ _ _ _ _ _ (by omega) (by omega) (by omega) (by omega)).mono ?_; rintro e W3 ⟨he, hW3⟩; rw [exc_agg] at he; subst he; have HW3 := Lib.hid hW3; clear hW3; have HG3 := Lib.hid (grown_trans HG.out (grown_trans (grown_drewN _ _) HW3.out)); obtain ⟨xb, x0, x1, x2, x3, x4, z0, z1, z2, z3, z4⟩ := HE.out.grown (grown_trans (grown_drewN _ _) HW3.out)))
    (try simp only [Exit.inBlock, Exit.then])
    refine bodyPost_ret (v := .tuple #[.int .u32 (rdV f mode m (valN (clampE e2) (Q + S) B)), .agg #[.bool false, .bool false, .bool (rdO f mode m (valN (clampE e2) (Q + S) B)), .bool (rdU f (valN (clampE e2) (Q + S) B)), .bool (rdX f mode m (valN (clampE e2) (Q + S) B))]]) ?_ rfl ⟨(packE_is _ _ _ _).trans (fu_like f mode m Q S e2 B).symm, ?_⟩
    · rw [results_tmp_cell rfl]
      go_simp
    · repeat (first | with_reducible exact HG3.out | with_reducible refine Grown.setCell ?_ (by simp <;> omega) _ | with_reducible refine Grown.alloc ?_ _ _ | with_reducible refine grown_more ?_ _)
  · have HS := Lib.hid hs
    have hnn : (m == n) = false := by simpa using hs
    clear hs
    cases B
    · go_enter Try.func41, Try.ntmps41
      go_wp2_with (first
        | (go_at_call 68; refine (shift_any _ _ _ (by omega) (by omega) (by omega) (by omega)).mono ?_; rintro e w' ⟨he, mm, rfl⟩; rw [HQ.out, HB.out] at he; subst he)
        | (go_at_call 40; refine (zero_any _ _ _).mono ?_; rintro e w' ⟨rfl, rfl⟩)
        | (go_at_call 30; refine (pack_any _ _ _ _ _ _ _ (by omega) (by omega) (by omega) (by omega)).mono ?_; rintro e W3 ⟨he, hW3⟩; rw [exc_agg] at he; subst he; have HW3 := Lib.hid hW3; clear hW3; have HG3 := Lib.hid (grown_trans HG.out (grown_trans (grown_drewN _ _) HW3.out)); obtain ⟨xb, x0, x1, x2, x3, x4, z0, z1, z2, z3, z4⟩ := HE.out.grown (grown_trans (grown_drewN _ _) HW3.out)))
      (try simp only [Exit.inBlock, Exit.then])
      refine bodyPost_ret (v := .tuple #[.int .u32 (rdV f mode m (valN (clampE e2) (Q - S) false)), .agg #[.bool false, .bool false, .bool (rdO f mode m (valN (clampE e2) (Q - S) false)), .bool (rdU f (valN (clampE e2) (Q - S) false)), .bool (rdX f mode m (valN (clampE e2) (Q - S) false))]]) ?_ rfl ⟨(packE_is _ _ _ _).trans (fu_down f mode m n Q S e2 HS.out (by omega)).symm, ?_⟩
      · rw [results_tmp_cell rfl]
        go_simp
      · repeat (first | with_reducible exact HG3.out | with_reducible refine Grown.setCell ?_ (by simp <;> omega) _ | with_reducible refine Grown.alloc ?_ _ _ | with_reducible refine grown_more ?_ _)
    · go_enter Try.func41, Try.ntmps41
      go_wp2_with (first
        | (go_at_call 68; refine (shift_any _ _ _ (by omega) (by omega) (by omega) (by omega)).mono ?_; rintro e w' ⟨he, mm, rfl⟩; rw [HQ.out, HB.out] at he; subst he)
        | (go_at_call 40; refine (zero_any _ _ _).mono ?_; rintro e w' ⟨rfl, rfl⟩)
        | (go_at_call 30; refine (pack_any _ _ _ _ _ _ _ (by omega) (by omega) (by omega) (by omega)).mono ?_; rintro e W3 ⟨he, hW3⟩; rw [exc_agg] at he; subst he; have HW3 := Lib.hid hW3; clear hW3; have HG3 := Lib.hid (grown_trans HG.out (grown_trans (grown_drewN _ _) HW3.out)); obtain ⟨xb, x0, x1, x2, x3, x4, z0, z1, z2, z3, z4⟩ := HE.out.grown (grown_trans (grown_drewN _ _) HW3.out)))
      (try simp only [Exit.inBlock, Exit.then])
      refine bodyPost_ret (v := .tuple #[.int .u32 (rdV f mode m (valN (clampE e2) (Q - S - 1) true)), .agg #[.bool false, .bool false, .bool (rdO f mode m (valN (clampE e2) (Q - S - 1) true)), .bool (rdU f (valN (clampE e2) (Q - S - 1) true)), .bool (rdX f mode m (valN (clampE e2) (Q - S - 1) true))]]) ?_ rfl ⟨(packE_is _ _ _ _).trans (fu_more f mode m n Q S e2 HS.out).symm, ?_⟩
      · rw [results_tmp_cell rfl]
        go_simp
      · repeat (first | with_reducible exact HG3.out | with_reducible refine Grown.setCell ?_ (by simp <;> omega) _ | with_reducible refine Grown.alloc ?_ _ _ | with_reducible refine grown_more ?_ _)

set_option maxRecDepth 100000 in
set_option maxHeartbeats 4000000 in
theorem ptog_same (f mode : Int) (n m : Bool) (e1 P Q : Int) (w : World)
    (a0 : -1000 ≤ e1) (a1 : e1 ≤ 1000) (p0 : 4611686018427387904 ≤ P) (p1 : P ≤ 9223372036854775807) (q0 : 4611686018427387904 ≤ Q) (q1 : Q ≤ 9223372036854775807) (hc : Q ≤ P) (HQ : Hid (shV Q 0 = Q)) (HB : Hid (shO Q 0 = false))  :
    Calls Try.prog 41 #[.int .i64 f, .int .i64 mode, .agg #[.bool n, .int .i64 e1, .int .u64 P], .agg #[.bool m, .int .i64 e1, .int .u64 Q]] w fun e w' => e = fuE f mode n m P Q e1 false ∧ Grown w w' := by
  have HE := Lib.hid (exc_new ((w.alloc (.cells #[.bool n, .int .i64 e1, .int .u64 P] 52)).alloc (.cells #[.bool m, .int .i64 e1, .int .u64 Q] 52)) 29)
  have HG := Lib.hid (Grown.alloc (Grown.alloc (Grown.alloc (Grown.refl w) #[.bool n, .int .i64 e1, .int .u64 P] 52) #[.bool m, .int .i64 e1, .int .u64 Q] 52) #[.bool false, .bool false, .bool false, .bool false, .bool false] 29)
  rw [show ((w.alloc (.cells #[.bool n, .int .i64 e1, .int .u64 P] 52)).alloc (.cells #[.bool m, .int .i64 e1, .int .u64 Q] 52)).heap.size = w.heap.size + 1 + 1 by simp] at HE
  by_cases hs : n = m
  · subst hs
    have hnn : (n == n) = true := by simp
    go_enter Try.func41, Try.ntmps41
    go_wp2_with (first
      | (go_at_call 68; refine (shift_any _ _ _ (by omega) (by omega) (by omega) (by omega)).mono ?_; rintro e w' ⟨he, mm, rfl⟩; rw [HQ.out, HB.out] at he; subst he)
      | (go_at_call 40; refine (zero_any _ _ _).mono ?_; rintro e w' ⟨rfl, rfl⟩)
      | (go_at_call 30; refine (pack_any _ _ _ _ _ _ _ (by omega) (by omega) (by omega) (by omega)).mono ?_; rintro e W3 ⟨he, hW3⟩; rw [exc_agg] at he; subst he; have HW3 := Lib.hid hW3; clear hW3; have HG3 := Lib.hid (grown_trans HG.out (grown_trans (grown_drewN _ _) HW3.out)); obtain ⟨xb, x0, x1, x2, x3, x4, z0, z1, z2, z3, z4⟩ := HE.out.grown (grown_trans (grown_drewN _ _) HW3.out)))
    (try simp only [Exit.inBlock, Exit.then])
    refine bodyPost_ret (v := .tuple #[.int .u32 (rdV f mode n (valN (clampE e1) (P + Q) false)), .agg #[.bool false, .bool false, .bool (rdO f mode n (valN (clampE e1) (P + Q) false)), .bool (rdU f (valN (clampE e1) (P + Q) false)), .bool (rdX f mode n (valN (clampE e1) (P + Q) false))]]) ?_ rfl ⟨(packE_is _ _ _ _).trans (fu_like f mode n P Q e1 false).symm, ?_⟩
    · rw [results_tmp_cell rfl]
      go_simp
    · repeat (first | with_reducible exact HG3.out | with_reducible refine Grown.setCell ?_ (by simp <;> omega) _ | with_reducible refine Grown.alloc ?_ _ _ | with_reducible refine grown_more ?_ _)
  · have HS := Lib.hid hs
    have hnn : (n == m) = false := by simpa using hs
    clear hs
    by_cases hq : Q = P
    · subst hq
      go_enter Try.func41, Try.ntmps41
      go_wp2_with (first
        | (go_at_call 68; refine (shift_any _ _ _ (by omega) (by omega) (by omega) (by omega)).mono ?_; rintro e w' ⟨he, mm, rfl⟩; rw [HQ.out, HB.out] at he; subst he)
        | (go_at_call 40; refine (zero_any _ _ _).mono ?_; rintro e w' ⟨rfl, rfl⟩)
        | (go_at_call 30; refine (pack_any _ _ _ _ _ _ _ (by omega) (by omega) (by omega) (by omega)).mono ?_; rintro e W3 ⟨he, hW3⟩; rw [exc_agg] at he; subst he; have HW3 := Lib.hid hW3; clear hW3; have HG3 := Lib.hid (grown_trans HG.out (grown_trans (grown_drewN _ _) HW3.out)); obtain ⟨xb, x0, x1, x2, x3, x4, z0, z1, z2, z3, z4⟩ := HE.out.grown (grown_trans (grown_drewN _ _) HW3.out)))
      (try simp only [Exit.inBlock, Exit.then])
      refine bodyPost_ret (v := .tuple #[.int .u32 (zerI f (mode == 3)), .agg #[.bool false, .bool false, .bool false, .bool false, .bool false]]) ?_ rfl ⟨(excE_is _ _).trans (fu_even f mode n m Q e1 HS.out).symm, ?_⟩
      · rw [results_tmp_cell rfl]
        go_simp
      · repeat (first | with_reducible exact HG.out | with_reducible refine Grown.setCell ?_ (by simp <;> omega) _ | with_reducible refine Grown.alloc ?_ _ _ | with_reducible refine grown_more ?_ _)
    · have hlt : Q < P := by omega
      clear hq hc
      go_enter Try.func41, Try.ntmps41
      go_wp2_with (first
        | (go_at_call 68; refine (shift_any _ _ _ (by omega) (by omega) (by omega) (by omega)).mono ?_; rintro e w' ⟨he, mm, rfl⟩; rw [HQ.out, HB.out] at he; subst he)
        | (go_at_call 40; refine (zero_any _ _ _).mono ?_; rintro e w' ⟨rfl, rfl⟩)
        | (go_at_call 30; refine (pack_any _ _ _ _ _ _ _ (by omega) (by omega) (by omega) (by omega)).mono ?_; rintro e W3 ⟨he, hW3⟩; rw [exc_agg] at he; subst he; have HW3 := Lib.hid hW3; clear hW3; have HG3 := Lib.hid (grown_trans HG.out (grown_trans (grown_drewN _ _) HW3.out)); obtain ⟨xb, x0, x1, x2, x3, x4, z0, z1, z2, z3, z4⟩ := HE.out.grown (grown_trans (grown_drewN _ _) HW3.out)))
      (try simp only [Exit.inBlock, Exit.then])
      refine bodyPost_ret (v := .tuple #[.int .u32 (rdV f mode n (valN (clampE e1) (P - Q) false)), .agg #[.bool false, .bool false, .bool (rdO f mode n (valN (clampE e1) (P - Q) false)), .bool (rdU f (valN (clampE e1) (P - Q) false)), .bool (rdX f mode n (valN (clampE e1) (P - Q) false))]]) ?_ rfl ⟨(packE_is _ _ _ _).trans (fu_down f mode n m P Q e1 HS.out (by omega)).symm, ?_⟩
      · rw [results_tmp_cell rfl]
        go_simp
      · repeat (first | with_reducible exact HG3.out | with_reducible refine Grown.setCell ?_ (by simp <;> omega) _ | with_reducible refine Grown.alloc ?_ _ _ | with_reducible refine grown_more ?_ _)

set_option maxRecDepth 100000 in
set_option maxHeartbeats 4000000 in
theorem ptog_less (f mode : Int) (n m : Bool) (e1 P Q : Int) (w : World)
    (a0 : -1000 ≤ e1) (a1 : e1 ≤ 1000) (p0 : 4611686018427387904 ≤ P) (p1 : P ≤ 9223372036854775807) (q0 : 4611686018427387904 ≤ Q) (q1 : Q ≤ 9223372036854775807) (hc : P < Q) (HQ : Hid (shV P 0 = P)) (HB : Hid (shO P 0 = false))  :
    Calls Try.prog 41 #[.int .i64 f, .int .i64 mode, .agg #[.bool n, .int .i64 e1, .int .u64 P], .agg #[.bool m, .int .i64 e1, .int .u64 Q]] w fun e w' => e = fuE f mode m n Q P e1 false ∧ Grown w w' := by
  have HE := Lib.hid (exc_new ((w.alloc (.cells #[.bool m, .int .i64 e1, .int .u64 Q] 52)).alloc (.cells #[.bool n, .int .i64 e1, .int .u64 P] 52)) 29)
  have HG := Lib.hid (Grown.alloc (Grown.alloc (Grown.alloc (Grown.refl w) #[.bool m, .int .i64 e1, .int .u64 Q] 52) #[.bool n, .int .i64 e1, .int .u64 P] 52) #[.bool false, .bool false, .bool false, .bool false, .bool false] 29)
  rw [show ((w.alloc (.cells #[.bool m, .int .i64 e1, .int .u64 Q] 52)).alloc (.cells #[.bool n, .int .i64 e1, .int .u64 P] 52)).heap.size = w.heap.size + 1 + 1 by simp] at HE
  by_cases hs : m = n
  · subst hs
    have hnn : (m == m) = true := by simp
    go_enter Try.func41, Try.ntmps41
    go_wp2_with (first
      | (go_at_call 68; refine (shift_any _ _ _ (by omega) (by omega) (by omega) (by omega)).mono ?_; rintro e w' ⟨he, mm, rfl⟩; rw [HQ.out, HB.out] at he; subst he)
      | (go_at_call 40; refine (zero_any _ _ _).mono ?_; rintro e w' ⟨rfl, rfl⟩)
      | (go_at_call 30; refine (pack_any _ _ _ _ _ _ _ (by omega) (by omega) (by omega) (by omega)).mono ?_; rintro e W3 ⟨he, hW3⟩; rw [exc_agg] at he; subst he; have HW3 := Lib.hid hW3; clear hW3; have HG3 := Lib.hid (grown_trans HG.out (grown_trans (grown_drewN _ _) HW3.out)); obtain ⟨xb, x0, x1, x2, x3, x4, z0, z1, z2, z3, z4⟩ := HE.out.grown (grown_trans (grown_drewN _ _) HW3.out)))
    (try simp only [Exit.inBlock, Exit.then])
    refine bodyPost_ret (v := .tuple #[.int .u32 (rdV f mode m (valN (clampE e1) (Q + P) false)), .agg #[.bool false, .bool false, .bool (rdO f mode m (valN (clampE e1) (Q + P) false)), .bool (rdU f (valN (clampE e1) (Q + P) false)), .bool (rdX f mode m (valN (clampE e1) (Q + P) false))]]) ?_ rfl ⟨(packE_is _ _ _ _).trans (fu_like f mode m Q P e1 false).symm, ?_⟩
    · rw [results_tmp_cell rfl]
      go_simp
    · repeat (first | with_reducible exact HG3.out | with_reducible refine Grown.setCell ?_ (by simp <;> omega) _ | with_reducible refine Grown.alloc ?_ _ _ | with_reducible refine grown_more ?_ _)
  · have HS := Lib.hid hs
    have hnn : (m == n) = false := by simpa using hs
    clear hs
    go_enter Try.func41, Try.ntmps41
    go_wp2_with (first
      | (go_at_call 68; refine (shift_any _ _ _ (by omega) (by omega) (by omega) (by omega)).mono ?_; rintro e w' ⟨he, mm, rfl⟩; rw [HQ.out, HB.out] at he; subst he)
      | (go_at_call 40; refine (zero_any _ _ _).mono ?_; rintro e w' ⟨rfl, rfl⟩)
      | (go_at_call 30; refine (pack_any _ _ _ _ _ _ _ (by omega) (by omega) (by omega) (by omega)).mono ?_; rintro e W3 ⟨he, hW3⟩; rw [exc_agg] at he; subst he; have HW3 := Lib.hid hW3; clear hW3; have HG3 := Lib.hid (grown_trans HG.out (grown_trans (grown_drewN _ _) HW3.out)); obtain ⟨xb, x0, x1, x2, x3, x4, z0, z1, z2, z3, z4⟩ := HE.out.grown (grown_trans (grown_drewN _ _) HW3.out)))
    (try simp only [Exit.inBlock, Exit.then])
    refine bodyPost_ret (v := .tuple #[.int .u32 (rdV f mode m (valN (clampE e1) (Q - P) false)), .agg #[.bool false, .bool false, .bool (rdO f mode m (valN (clampE e1) (Q - P) false)), .bool (rdU f (valN (clampE e1) (Q - P) false)), .bool (rdX f mode m (valN (clampE e1) (Q - P) false))]]) ?_ rfl ⟨(packE_is _ _ _ _).trans (fu_down f mode m n Q P e1 HS.out (by omega)).symm, ?_⟩
    · rw [results_tmp_cell rfl]
      go_simp
    · repeat (first | with_reducible exact HG3.out | with_reducible refine Grown.setCell ?_ (by simp <;> omega) _ | with_reducible refine Grown.alloc ?_ _ _ | with_reducible refine grown_more ?_ _)

end Go.Proofs.Ytkaoppmighinbaa
