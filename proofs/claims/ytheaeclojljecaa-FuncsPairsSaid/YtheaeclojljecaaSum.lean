/- Contracts of package sum: the sum of two finite ones. (Written by gen5.py.) -/
import Derived.Test.YtheaeclojljecaaRows
import Derived.Test.YtheaeclojljecaaFmt
import Derived.Test.YtheaeclojljecaaRd
import Derived.Test.YtheaeclojljecaaAddMath
namespace Go.Proofs.Ytheaeclojljecaa
open Go.RowKit
set_option linter.unusedVariables false
set_option linter.unusedSimpArgs false

theorem exc_agg (f mode : Int) (n : Bool) (V : Nat) : PackE f mode n V = .returned (.tuple #[.int .u32 (rdV f mode n V), .agg #[.bool false, .bool false, .bool (rdO f mode n V), .bool (rdU f V), .bool (rdX f mode n V)]]) := rfl

set_option maxHeartbeats 400000 in
theorem isNan_any (c : Int) (w : World) :
    Calls Try.prog 87 #[.int .i64 c] w fun e w' => e = .returned (.bool (c == 4 || c == 5)) ∧ w = w' := by
  by_cases h : c = 4
  · subst h
    go_enter Try.func87, Try.ntmps87
    go_wp2
    go_ret
    exact ⟨rfl, rfl⟩
  · have hb : (c == 4) = false := by simpa using h
    clear h
    obtain ⟨b5, h5⟩ : ∃ b5, (c == 5) = b5 := ⟨_, rfl⟩
    have H5 := Lib.hid h5
    cases b5
    all_goals
     go_enter Try.func87, Try.ntmps87
     go_wp2
     go_ret
     exact ⟨ret_bool (by rw [H5.out]; simp [hb]), rfl⟩

set_option maxHeartbeats 400000 in
theorem sunpack_any (f v : Int) (w : World) (h0 : 0 ≤ v) (h1 : v ≤ 4294967295) :
    Calls Try.prog 86 #[.int .i64 f, .int .u32 v] w fun e w' => e = .returned (.agg #[.bool (fS f v), .int .i64 (unE f v), .int .u64 (unM f v)]) ∧ Grown w w' := by
  go_enter Try.func86, Try.ntmps86
  go_wp2_with (go_at_call 66; refine (unpack_any _ _ _ h0 h1).mono ?_; rintro e w' ⟨rfl, m, rfl⟩)
  (try simp only [Exit.inBlock, Exit.then])
  refine bodyPost_ret (v := .agg #[.bool (fS f v), .int .i64 (unE f v), .int .u64 (unM f v)]) ?_ rfl ⟨rfl, ?_⟩
  · rw [results_one rfl]
    go_simp
  · repeat refine Grown.setCell ?_ (by simp <;> omega) _
    exact grown_more (Grown.alloc (Grown.refl _) _ _) _

set_option maxRecDepth 100000 in
set_option maxHeartbeats 4000000 in
theorem sfin_down (f mode : Int) (n m : Bool) (e1 e2 M1 M2 P Q U : Int) (B : Bool) (w : World) (hc : e2 ≤ e1) (a0 : -298 ≤ e1) (a1 : e1 ≤ 400) (b0 : -298 ≤ e2) (b1 : e2 ≤ 400) (m0 : 0 ≤ M1) (m1 : M1 < 16777216) (k0 : 0 ≤ M2) (k1 : M2 < 16777216)
    (hU : (if 32 < e1 - e2 then 32 else e1 - e2) = U) (u0 : 0 ≤ U) (u1 : U ≤ 32) (u2 : U ≤ e1 - e2) (hP : IntKind.u64.wrap (M1 * 2 ^ U.toNat) = P) (p0 : 0 ≤ P) (p1 : P ≤ 1152921504606846975) (HQ : Hid (shV M2 (e1 - U - e2) = Q)) (HB : Hid (shO M2 (e1 - U - e2) = B)) (q0 : 0 ≤ Q) (q1 : Q < 16777216) (room : B = true → Q + 1 ≤ P) :
    Calls Try.prog 88 #[.int .i64 f, .int .i64 mode, .agg #[.bool n, .int .i64 e1, .int .u64 M1], .agg #[.bool m, .int .i64 e2, .int .u64 M2]] w fun e w' => e = fuE f mode n m P Q (e1 - U) B ∧ Grown w w' := by
  have HR := Lib.hid room
  clear room
  have HE := Lib.hid (exc_new ((w.alloc (.cells #[.bool n, .int .i64 e1, .int .u64 M1] 85)).alloc (.cells #[.bool m, .int .i64 e2, .int .u64 M2] 85)) 57)
  have HG := Lib.hid (Grown.alloc (Grown.alloc (Grown.alloc (Grown.refl w) #[.bool n, .int .i64 e1, .int .u64 M1] 85) #[.bool m, .int .i64 e2, .int .u64 M2] 85) #[.bool false, .bool false, .bool false, .bool false, .bool false] 57)
  rw [show ((w.alloc (.cells #[.bool n, .int .i64 e1, .int .u64 M1] 85)).alloc (.cells #[.bool m, .int .i64 e2, .int .u64 M2] 85)).heap.size = w.heap.size + 1 + 1 by simp] at HE
  by_cases hs : n = m
  · subst hs
    have hnn : (n == n) = true := by simp
    go_enter Try.func88, Try.ntmps88
    go_wp2_with (first
        | (go_at_call 73; refine (shift_any _ _ _ (by omega) (by omega) (by omega) (by omega)).mono ?_; rintro e w' ⟨he, mm, rfl⟩; rw [HQ.out, HB.out] at he; subst he)
        | (go_at_call 38; refine (zero_any _ _ _).mono ?_; rintro e w' ⟨rfl, rfl⟩)
        | (go_at_call 78; refine (pack_any _ _ _ _ _ _ _ (by omega) (by omega) (by omega) (by omega)).mono ?_; rintro e W3 ⟨he, hW3⟩; rw [exc_agg] at he; subst he; have HW3 := Lib.hid hW3; clear hW3; have HG3 := Lib.hid (grown_trans HG.out (grown_trans (grown_drewN _ _) HW3.out)); obtain ⟨xb, x0, x1, x2, x3, x4, z0, z1, z2, z3, z4⟩ := HE.out.grown (grown_trans (grown_drewN _ _) HW3.out)))
    (try simp only [Exit.inBlock, Exit.then])
    refine bodyPost_ret (v := .tuple #[.int .u32 (rdV f mode n (valN (clampE (e1 - U)) (P + Q) B)), .agg #[.bool false, .bool false, .bool (rdO f mode n (valN (clampE (e1 - U)) (P + Q) B)), .bool (rdU f (valN (clampE (e1 - U)) (P + Q) B)), .bool (rdX f mode n (valN (clampE (e1 - U)) (P + Q) B))]]) ?_ rfl ⟨(packE_is _ _ _ _).trans (fu_like f mode n P Q (e1 - U) B).symm, ?_⟩
    · rw [results_tmp_cell rfl]
      go_simp
    · repeat refine Grown.setCell ?_ (by simp <;> omega) _
      exact HG3.out
  · have HS := Lib.hid hs
    have hnn : (n == m) = false := by simpa using hs
    clear hs
    cases B
    · clear HR
      rcases Int.lt_trichotomy P Q with hpq | hpq | hpq
      · go_enter Try.func88, Try.ntmps88
        go_wp2_with (first
            | (go_at_call 73; refine (shift_any _ _ _ (by omega) (by omega) (by omega) (by omega)).mono ?_; rintro e w' ⟨he, mm, rfl⟩; rw [HQ.out, HB.out] at he; subst he)
            | (go_at_call 38; refine (zero_any _ _ _).mono ?_; rintro e w' ⟨rfl, rfl⟩)
            | (go_at_call 78; refine (pack_any _ _ _ _ _ _ _ (by omega) (by omega) (by omega) (by omega)).mono ?_; rintro e W3 ⟨he, hW3⟩; rw [exc_agg] at he; subst he; have HW3 := Lib.hid hW3; clear hW3; have HG3 := Lib.hid (grown_trans HG.out (grown_trans (grown_drewN _ _) HW3.out)); obtain ⟨xb, x0, x1, x2, x3, x4, z0, z1, z2, z3, z4⟩ := HE.out.grown (grown_trans (grown_drewN _ _) HW3.out)))
        (try simp only [Exit.inBlock, Exit.then])
        refine bodyPost_ret (v := .tuple #[.int .u32 (rdV f mode m (valN (clampE (e1 - U)) (Q - P) false)), .agg #[.bool false, .bool false, .bool (rdO f mode m (valN (clampE (e1 - U)) (Q - P) false)), .bool (rdU f (valN (clampE (e1 - U)) (Q - P) false)), .bool (rdX f mode m (valN (clampE (e1 - U)) (Q - P) false))]]) ?_ rfl ⟨(packE_is _ _ _ _).trans (fu_up f mode n m P Q (e1 - U) HS.out hpq).symm, ?_⟩
        · rw [results_tmp_cell rfl]
          go_simp
        · repeat refine Grown.setCell ?_ (by simp <;> omega) _
          exact HG3.out
      · subst hpq
        go_enter Try.func88, Try.ntmps88
        go_wp2_with (first
            | (go_at_call 73; refine (shift_any _ _ _ (by omega) (by omega) (by omega) (by omega)).mono ?_; rintro e w' ⟨he, mm, rfl⟩; rw [HQ.out, HB.out] at he; subst he)
            | (go_at_call 38; refine (zero_any _ _ _).mono ?_; rintro e w' ⟨rfl, rfl⟩)
            | (go_at_call 78; refine (pack_any _ _ _ _ _ _ _ (by omega) (by omega) (by omega) (by omega)).mono ?_; rintro e W3 ⟨he, hW3⟩; rw [exc_agg] at he; subst he; have HW3 := Lib.hid hW3; clear hW3; have HG3 := Lib.hid (grown_trans HG.out (grown_trans (grown_drewN _ _) HW3.out)); obtain ⟨xb, x0, x1, x2, x3, x4, z0, z1, z2, z3, z4⟩ := HE.out.grown (grown_trans (grown_drewN _ _) HW3.out)))
        (try simp only [Exit.inBlock, Exit.then])
        refine bodyPost_ret (v := .tuple #[.int .u32 (zerI f (mode == 3)), .agg #[.bool false, .bool false, .bool false, .bool false, .bool false]]) ?_ rfl ⟨(excE_is _ _).trans (fu_even f mode n m P (e1 - U) HS.out).symm, ?_⟩
        · rw [results_tmp_cell rfl]
          go_simp
        · repeat refine Grown.setCell ?_ (by simp <;> omega) _
          exact grown_trans HG.out (grown_drewN _ _)
      · go_enter Try.func88, Try.ntmps88
        go_wp2_with (first
            | (go_at_call 73; refine (shift_any _ _ _ (by omega) (by omega) (by omega) (by omega)).mono ?_; rintro e w' ⟨he, mm, rfl⟩; rw [HQ.out, HB.out] at he; subst he)
            | (go_at_call 38; refine (zero_any _ _ _).mono ?_; rintro e w' ⟨rfl, rfl⟩)
            | (go_at_call 78; refine (pack_any _ _ _ _ _ _ _ (by omega) (by omega) (by omega) (by omega)).mono ?_; rintro e W3 ⟨he, hW3⟩; rw [exc_agg] at he; subst he; have HW3 := Lib.hid hW3; clear hW3; have HG3 := Lib.hid (grown_trans HG.out (grown_trans (grown_drewN _ _) HW3.out)); obtain ⟨xb, x0, x1, x2, x3, x4, z0, z1, z2, z3, z4⟩ := HE.out.grown (grown_trans (grown_drewN _ _) HW3.out)))
        (try simp only [Exit.inBlock, Exit.then])
        refine bodyPost_ret (v := .tuple #[.int .u32 (rdV f mode n (valN (clampE (e1 - U)) (P - Q) false)), .agg #[.bool false, .bool false, .bool (rdO f mode n (valN (clampE (e1 - U)) (P - Q) false)), .bool (rdU f (valN (clampE (e1 - U)) (P - Q) false)), .bool (rdX f mode n (valN (clampE (e1 - U)) (P - Q) false))]]) ?_ rfl ⟨(packE_is _ _ _ _).trans (fu_down f mode n m P Q (e1 - U) HS.out hpq).symm, ?_⟩
        · rw [results_tmp_cell rfl]
          go_simp
        · repeat refine Grown.setCell ?_ (by simp <;> omega) _
          exact HG3.out
    · have room := HR.out rfl
      go_enter Try.func88, Try.ntmps88
      go_wp2_with (first
          | (go_at_call 73; refine (shift_any _ _ _ (by omega) (by omega) (by omega) (by omega)).mono ?_; rintro e w' ⟨he, mm, rfl⟩; rw [HQ.out, HB.out] at he; subst he)
          | (go_at_call 38; refine (zero_any _ _ _).mono ?_; rintro e w' ⟨rfl, rfl⟩)
          | (go_at_call 78; refine (pack_any _ _ _ _ _ _ _ (by omega) (by omega) (by omega) (by omega)).mono ?_; rintro e W3 ⟨he, hW3⟩; rw [exc_agg] at he; subst he; have HW3 := Lib.hid hW3; clear hW3; have HG3 := Lib.hid (grown_trans HG.out (grown_trans (grown_drewN _ _) HW3.out)); obtain ⟨xb, x0, x1, x2, x3, x4, z0, z1, z2, z3, z4⟩ := HE.out.grown (grown_trans (grown_drewN _ _) HW3.out)))
      (try simp only [Exit.inBlock, Exit.then])
      refine bodyPost_ret (v := .tuple #[.int .u32 (rdV f mode n (valN (clampE (e1 - U)) (P - Q - 1) true)), .agg #[.bool false, .bool false, .bool (rdO f mode n (valN (clampE (e1 - U)) (P - Q - 1) true)), .bool (rdU f (valN (clampE (e1 - U)) (P - Q - 1) true)), .bool (rdX f mode n (valN (clampE (e1 - U)) (P - Q - 1) true))]]) ?_ rfl ⟨(packE_is _ _ _ _).trans (fu_more f mode n m P Q (e1 - U) HS.out).symm, ?_⟩
      · rw [results_tmp_cell rfl]
        go_simp
      · repeat refine Grown.setCell ?_ (by simp <;> omega) _
        exact HG3.out

set_option maxRecDepth 100000 in
set_option maxHeartbeats 4000000 in
theorem sfin_up (f mode : Int) (n m : Bool) (e1 e2 M1 M2 P Q U : Int) (B : Bool) (w : World) (hc : e1 < e2) (a0 : -298 ≤ e1) (a1 : e1 ≤ 400) (b0 : -298 ≤ e2) (b1 : e2 ≤ 400) (m0 : 0 ≤ M1) (m1 : M1 < 16777216) (k0 : 0 ≤ M2) (k1 : M2 < 16777216)
    (hU : (if 32 < e2 - e1 then 32 else e2 - e1) = U) (u0 : 0 ≤ U) (u1 : U ≤ 32) (u2 : U ≤ e2 - e1) (hP : IntKind.u64.wrap (M2 * 2 ^ U.toNat) = P) (p0 : 0 ≤ P) (p1 : P ≤ 1152921504606846975) (HQ : Hid (shV M1 (e2 - U - e1) = Q)) (HB : Hid (shO M1 (e2 - U - e1) = B)) (q0 : 0 ≤ Q) (q1 : Q < 16777216) (room : B = true → Q + 1 ≤ P) :
    Calls Try.prog 88 #[.int .i64 f, .int .i64 mode, .agg #[.bool n, .int .i64 e1, .int .u64 M1], .agg #[.bool m, .int .i64 e2, .int .u64 M2]] w fun e w' => e = fuE f mode m n P Q (e2 - U) B ∧ Grown w w' := by
  have HR := Lib.hid room
  clear room
  have HE := Lib.hid (exc_new ((w.alloc (.cells #[.bool m, .int .i64 e2, .int .u64 M2] 85)).alloc (.cells #[.bool n, .int .i64 e1, .int .u64 M1] 85)) 57)
  have HG := Lib.hid (Grown.alloc (Grown.alloc (Grown.alloc (Grown.refl w) #[.bool m, .int .i64 e2, .int .u64 M2] 85) #[.bool n, .int .i64 e1, .int .u64 M1] 85) #[.bool false, .bool false, .bool false, .bool false, .bool false] 57)
  rw [show ((w.alloc (.cells #[.bool m, .int .i64 e2, .int .u64 M2] 85)).alloc (.cells #[.bool n, .int .i64 e1, .int .u64 M1] 85)).heap.size = w.heap.size + 1 + 1 by simp] at HE
  by_cases hs : m = n
  · subst hs
    have hnn : (m == m) = true := by simp
    go_enter Try.func88, Try.ntmps88
    go_wp2_with (first
        | (go_at_call 73; refine (shift_any _ _ _ (by omega) (by omega) (by omega) (by omega)).mono ?_; rintro e w' ⟨he, mm, rfl⟩; rw [HQ.out, HB.out] at he; subst he)
        | (go_at_call 38; refine (zero_any _ _ _).mono ?_; rintro e w' ⟨rfl, rfl⟩)
        | (go_at_call 78; refine (pack_any _ _ _ _ _ _ _ (by omega) (by omega) (by omega) (by omega)).mono ?_; rintro e W3 ⟨he, hW3⟩; rw [exc_agg] at he; subst he; have HW3 := Lib.hid hW3; clear hW3; have HG3 := Lib.hid (grown_trans HG.out (grown_trans (grown_drewN _ _) HW3.out)); obtain ⟨xb, x0, x1, x2, x3, x4, z0, z1, z2, z3, z4⟩ := HE.out.grown (grown_trans (grown_drewN _ _) HW3.out)))
    (try simp only [Exit.inBlock, Exit.then])
    refine bodyPost_ret (v := .tuple #[.int .u32 (rdV f mode m (valN (clampE (e2 - U)) (P + Q) B)), .agg #[.bool false, .bool false, .bool (rdO f mode m (valN (clampE (e2 - U)) (P + Q) B)), .bool (rdU f (valN (clampE (e2 - U)) (P + Q) B)), .bool (rdX f mode m (valN (clampE (e2 - U)) (P + Q) B))]]) ?_ rfl ⟨(packE_is _ _ _ _).trans (fu_like f mode m P Q (e2 - U) B).symm, ?_⟩
    · rw [results_tmp_cell rfl]
      go_simp
    · repeat refine Grown.setCell ?_ (by simp <;> omega) _
      exact HG3.out
  · have HS := Lib.hid hs
    have hnn : (m == n) = false := by simpa using hs
    clear hs
    cases B
    · clear HR
      rcases Int.lt_trichotomy P Q with hpq | hpq | hpq
      · go_enter Try.func88, Try.ntmps88
        go_wp2_with (first
            | (go_at_call 73; refine (shift_any _ _ _ (by omega) (by omega) (by omega) (by omega)).mono ?_; rintro e w' ⟨he, mm, rfl⟩; rw [HQ.out, HB.out] at he; subst he)
            | (go_at_call 38; refine (zero_any _ _ _).mono ?_; rintro e w' ⟨rfl, rfl⟩)
            | (go_at_call 78; refine (pack_any _ _ _ _ _ _ _ (by omega) (by omega) (by omega) (by omega)).mono ?_; rintro e W3 ⟨he, hW3⟩; rw [exc_agg] at he; subst he; have HW3 := Lib.hid hW3; clear hW3; have HG3 := Lib.hid (grown_trans HG.out (grown_trans (grown_drewN _ _) HW3.out)); obtain ⟨xb, x0, x1, x2, x3, x4, z0, z1, z2, z3, z4⟩ := HE.out.grown (grown_trans (grown_drewN _ _) HW3.out)))
        (try simp only [Exit.inBlock, Exit.then])
        refine bodyPost_ret (v := .tuple #[.int .u32 (rdV f mode n (valN (clampE (e2 - U)) (Q - P) false)), .agg #[.bool false, .bool false, .bool (rdO f mode n (valN (clampE (e2 - U)) (Q - P) false)), .bool (rdU f (valN (clampE (e2 - U)) (Q - P) false)), .bool (rdX f mode n (valN (clampE (e2 - U)) (Q - P) false))]]) ?_ rfl ⟨(packE_is _ _ _ _).trans (fu_up f mode m n P Q (e2 - U) HS.out hpq).symm, ?_⟩
        · rw [results_tmp_cell rfl]
          go_simp
        · repeat refine Grown.setCell ?_ (by simp <;> omega) _
          exact HG3.out
      · subst hpq
        go_enter Try.func88, Try.ntmps88
        go_wp2_with (first
            | (go_at_call 73; refine (shift_any _ _ _ (by omega) (by omega) (by omega) (by omega)).mono ?_; rintro e w' ⟨he, mm, rfl⟩; rw [HQ.out, HB.out] at he; subst he)
            | (go_at_call 38; refine (zero_any _ _ _).mono ?_; rintro e w' ⟨rfl, rfl⟩)
            | (go_at_call 78; refine (pack_any _ _ _ _ _ _ _ (by omega) (by omega) (by omega) (by omega)).mono ?_; rintro e W3 ⟨he, hW3⟩; rw [exc_agg] at he; subst he; have HW3 := Lib.hid hW3; clear hW3; have HG3 := Lib.hid (grown_trans HG.out (grown_trans (grown_drewN _ _) HW3.out)); obtain ⟨xb, x0, x1, x2, x3, x4, z0, z1, z2, z3, z4⟩ := HE.out.grown (grown_trans (grown_drewN _ _) HW3.out)))
        (try simp only [Exit.inBlock, Exit.then])
        refine bodyPost_ret (v := .tuple #[.int .u32 (zerI f (mode == 3)), .agg #[.bool false, .bool false, .bool false, .bool false, .bool false]]) ?_ rfl ⟨(excE_is _ _).trans (fu_even f mode m n P (e2 - U) HS.out).symm, ?_⟩
        · rw [results_tmp_cell rfl]
          go_simp
        · repeat refine Grown.setCell ?_ (by simp <;> omega) _
          exact grown_trans HG.out (grown_drewN _ _)
      · go_enter Try.func88, Try.ntmps88
        go_wp2_with (first
            | (go_at_call 73; refine (shift_any _ _ _ (by omega) (by omega) (by omega) (by omega)).mono ?_; rintro e w' ⟨he, mm, rfl⟩; rw [HQ.out, HB.out] at he; subst he)
            | (go_at_call 38; refine (zero_any _ _ _).mono ?_; rintro e w' ⟨rfl, rfl⟩)
            | (go_at_call 78; refine (pack_any _ _ _ _ _ _ _ (by omega) (by omega) (by omega) (by omega)).mono ?_; rintro e W3 ⟨he, hW3⟩; rw [exc_agg] at he; subst he; have HW3 := Lib.hid hW3; clear hW3; have HG3 := Lib.hid (grown_trans HG.out (grown_trans (grown_drewN _ _) HW3.out)); obtain ⟨xb, x0, x1, x2, x3, x4, z0, z1, z2, z3, z4⟩ := HE.out.grown (grown_trans (grown_drewN _ _) HW3.out)))
        (try simp only [Exit.inBlock, Exit.then])
        refine bodyPost_ret (v := .tuple #[.int .u32 (rdV f mode m (valN (clampE (e2 - U)) (P - Q) false)), .agg #[.bool false, .bool false, .bool (rdO f mode m (valN (clampE (e2 - U)) (P - Q) false)), .bool (rdU f (valN (clampE (e2 - U)) (P - Q) false)), .bool (rdX f mode m (valN (clampE (e2 - U)) (P - Q) false))]]) ?_ rfl ⟨(packE_is _ _ _ _).trans (fu_down f mode m n P Q (e2 - U) HS.out hpq).symm, ?_⟩
        · rw [results_tmp_cell rfl]
          go_simp
        · repeat refine Grown.setCell ?_ (by simp <;> omega) _
          exact HG3.out
    · have room := HR.out rfl
      go_enter Try.func88, Try.ntmps88
      go_wp2_with (first
          | (go_at_call 73; refine (shift_any _ _ _ (by omega) (by omega) (by omega) (by omega)).mono ?_; rintro e w' ⟨he, mm, rfl⟩; rw [HQ.out, HB.out] at he; subst he)
          | (go_at_call 38; refine (zero_any _ _ _).mono ?_; rintro e w' ⟨rfl, rfl⟩)
          | (go_at_call 78; refine (pack_any _ _ _ _ _ _ _ (by omega) (by omega) (by omega) (by omega)).mono ?_; rintro e W3 ⟨he, hW3⟩; rw [exc_agg] at he; subst he; have HW3 := Lib.hid hW3; clear hW3; have HG3 := Lib.hid (grown_trans HG.out (grown_trans (grown_drewN _ _) HW3.out)); obtain ⟨xb, x0, x1, x2, x3, x4, z0, z1, z2, z3, z4⟩ := HE.out.grown (grown_trans (grown_drewN _ _) HW3.out)))
      (try simp only [Exit.inBlock, Exit.then])
      refine bodyPost_ret (v := .tuple #[.int .u32 (rdV f mode m (valN (clampE (e2 - U)) (P - Q - 1) true)), .agg #[.bool false, .bool false, .bool (rdO f mode m (valN (clampE (e2 - U)) (P - Q - 1) true)), .bool (rdU f (valN (clampE (e2 - U)) (P - Q - 1) true)), .bool (rdX f mode m (valN (clampE (e2 - U)) (P - Q - 1) true))]]) ?_ rfl ⟨(packE_is _ _ _ _).trans (fu_more f mode m n P Q (e2 - U) HS.out).symm, ?_⟩
      · rw [results_tmp_cell rfl]
        go_simp
      · repeat refine Grown.setCell ?_ (by simp <;> omega) _
        exact HG3.out

/-- The sum of any two finite ones. -/
theorem sfinite_any (f mode : Int) (n m : Bool) (e1 e2 M1 M2 : Int) (w : World) (a0 : -298 ≤ e1) (a1 : e1 ≤ 400) (b0 : -298 ≤ e2) (b1 : e2 ≤ 400) (m0 : 0 ≤ M1) (m1 : M1 < 16777216) (k0 : 0 ≤ M2) (k1 : M2 < 16777216) (h1 : e2 < e1 → ((2 ^ fn f : Nat) : Int) ≤ M1) (h2 : e1 < e2 → ((2 ^ fn f : Nat) : Int) ≤ M2) :
    Calls Try.prog 88 #[.int .i64 f, .int .i64 mode, .agg #[.bool n, .int .i64 e1, .int .u64 M1], .agg #[.bool m, .int .i64 e2, .int .u64 M2]] w fun e w' => e = finE f mode n (amtE e1 M1) m (amtE e2 M2) ∧ Grown w w' := by
  have h128 : (128 : Int) ≤ ((2 ^ fn f : Nat) : Int) := by
    have := fn_bd f
    have h : 2 ^ 7 ≤ 2 ^ fn f := Nat.pow_le_pow_right (by decide) (by omega)
    omega
  by_cases c : e2 ≤ e1
  · obtain ⟨u0, u1, u2⟩ := up_bd e1 e2 c
    obtain ⟨q0, q1⟩ := sh_bd24 M2 (e1 - upI e1 e2 - e2) k0 k1 (by omega)
    have hp := pow2_pos (upI e1 e2).toNat
    have hp2 : (2 : Int) ^ (upI e1 e2).toNat ≤ 2 ^ 32 := pow2_le (by omega)
    have p0 : 0 ≤ M1 * 2 ^ (upI e1 e2).toNat := Int.mul_nonneg m0 (by omega)
    have p1 : M1 * 2 ^ (upI e1 e2).toNat ≤ 16777215 * 2 ^ 32 := Int.mul_le_mul (by omega) hp2 (by omega) (by omega)
    have e := fu_is f mode n m e1 e2 M1 M2 c b0 a1 m0 m1 k0 k1 h1
    rw [← e]
    exact sfin_down f mode n m e1 e2 M1 M2 _ _ (upI e1 e2) _ w c a0 a1 b0 b1 m0 m1 k0 k1 rfl u0 u1 u2 (u64w _ p0 (by omega)) p0 (by omega) rfl rfl q0 q1 (sh_out_room M1 M2 e1 e2 c (by by_cases g : e1 = e2 <;> omega) k0 k1)
  · have c' : e1 ≤ e2 := by omega
    obtain ⟨u0, u1, u2⟩ := up_bd e2 e1 c'
    obtain ⟨q0, q1⟩ := sh_bd24 M1 (e2 - upI e2 e1 - e1) m0 m1 (by omega)
    have hp := pow2_pos (upI e2 e1).toNat
    have hp2 : (2 : Int) ^ (upI e2 e1).toNat ≤ 2 ^ 32 := pow2_le (by omega)
    have p0 : 0 ≤ M2 * 2 ^ (upI e2 e1).toNat := Int.mul_nonneg k0 (by omega)
    have p1 : M2 * 2 ^ (upI e2 e1).toNat ≤ 16777215 * 2 ^ 32 := Int.mul_le_mul (by omega) hp2 (by omega) (by omega)
    have e := fu_is f mode m n e2 e1 M2 M1 c' a0 b1 k0 k1 m0 m1 h2
    rw [← fin_swap, ← e]
    exact sfin_up f mode n m e1 e2 M1 M2 _ _ (upI e2 e1) _ w (by omega) a0 a1 b0 b1 m0 m1 k0 k1 rfl u0 u1 u2 (u64w _ p0 (by omega)) p0 (by omega) rfl rfl q0 q1 (sh_out_room M2 M1 e2 e1 c' (by omega) m0 m1)
end Go.Proofs.Ytheaeclojljecaa
