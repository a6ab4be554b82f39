/- The reference's Pack of exponents that are too great. -/
import Derived.Test.YteifobleigfbaaaGreatRdRef
namespace Go.Proofs.YteifobleigfbaaaGreat
open Go.RowKit
set_option linter.unusedVariables false
set_option linter.unusedSimpArgs false

set_option maxRecDepth 100000 in
set_option maxHeartbeats 80000000 in
theorem rpack_far (f mode : Int) (neg : Bool) (exp sig L K : Int) (more half rest : Bool) (V : Nat) (w : World) (h0 : -9223372036854775808 ≤ exp) (h1 : exp ≤ 9223372036854775807) (sp : 0 < sig) (s1 : sig ≤ 18446744073709551615)
    (hL : Hid (lenI sig = L)) (hr1 : 10000 < exp) (hl0 : 0 ≤ L) (hl1 : L ≤ 64) (c : 1 - bia f ≤ 10000 + L - 1)
    (hK : Hid (dvK sig (10000 + L - 1 - fn f - 10000) = K ∧ dvH sig (10000 + L - 1 - fn f - 10000) = half ∧ dvR sig (10000 + L - 1 - fn f - 10000) = rest)) (k0 : 0 ≤ K) (k1 : K ≤ 18446744073709551615) (H T : Int) (hT : wrap64 (wrap64 (2 ^ min (fe f) 64) - 1) = T) (hH : IntKind.u64.wrap (2 ^ fn f) = H) (hH2 : IntKind.u64.wrap (2 ^ (fn f + 1)) = 2 * H) (t0 : 31 ≤ T) (t1 : T ≤ 255) (m0 : 128 ≤ H) (m1 : H ≤ 8388608) (kH : H ≤ K) (kH2 : K < 2 * H) (HA : Hid (AtR f V (10000 + L - 1 - fn f - lst f) K half (rest || more) (10000 + L - 1))) (HH : Hid (hid f = H)) (HT : Hid (topx f = T)) (HB : Hid (lst f = 1 - bia f - fn f)) :
    Calls Tryz.prog 92 #[.int .i64 f, .int .i64 mode, .bool neg, .int .i64 exp, .int .u64 sig, .bool more] w fun e w' => e = PackE f mode neg V ∧ Grown w w' := by
  obtain ⟨hn0, hn1⟩ := fn_bd f
  obtain ⟨hu0, hu1⟩ := lst_bd f
  obtain ⟨hb0, hb1⟩ := bia_bd f
  have hk := and_one K k0 k1
  have s0 : 0 ≤ sig := by omega
  cases rest <;> cases half <;> cases more
  all_goals
    go_enter Tryz.func92, Tryz.ntmps92
    go_wp2_with (first
        | (go_at_call 49; refine (rzero_any _ _ _).mono ?_; rintro e w' ⟨rfl, rfl⟩)
        | (go_at_call 48; refine (rwidths_any _ _).mono ?_; rintro e w' ⟨rfl, rfl⟩)
        | (go_at_call 95; refine (rbias_any _ _).mono ?_; rintro e w' ⟨rfl, rfl⟩)
        | (go_at_call 131; refine (rlen_any _ _ (by omega) (by omega)).mono ?_; rintro e w' ⟨he, rfl⟩; rw [hL.out] at he; subst he)
        | (go_at_call 132; refine (rdivide_any _ _ _ s0 s1 (by omega) (by omega)).mono ?_; rintro e w' ⟨he, rfl⟩; rw [hK.out.1, hK.out.2.1, hK.out.2.2] at he; subst he)
        | (go_at_call 133; refine (rup_any _ _ _ _ _ _).mono ?_; rintro e w' ⟨rfl, rfl⟩)
        | (go_at_call 134; refine (rover_any _ _ _ _).mono ?_; rintro e w' ⟨rfl, md, rfl⟩)
        | (go_at_call 87; refine (rsign_any _ _ _).mono ?_; rintro e w' ⟨rfl, rfl⟩))
    all_goals try (exfalso; have hq : (K + 1 == 2 * H) = true := (by assumption); rw [beq_iff_eq] at hq; omega)
    all_goals
      try
        refine wp_region_still_tail 17 (by kernel_rfl) (by kernel_rfl) ?_
        simp only [List.take_succ_cons, List.take_zero, List.drop_succ_cons, List.drop_zero]
        change wpStill _ _ (World.drew _) (fun a' => wpList _ _ _ _ a' (World.drew _)) _ _
        repeat (first | still_step | still_call (still_same (rsign_any _ _ _)))
        try refine wpStill_nil ?_
        go_wp2
    all_goals
      (try simp only [Exit.inBlock, Exit.then])
      refine bodyPost_ret (v := .tuple #[.int .u32 (rdV f mode neg V), .agg #[.bool false, .bool false, .bool (rdO f mode neg V), .bool (rdU f V), .bool (rdX f mode neg V)]]) ?_ rfl ⟨packE_is _ _ _ _, by
        repeat refine Grown.setCell ?_ (Nat.le_refl _) _
        first
          | exact grown_more (Grown.alloc (Grown.refl _) _ _) _
          | exact Grown.alloc (Grown.refl _) _ _
          | exact Grown.alloc (Grown.alloc (Grown.refl _) _ _) _ _
          | exact (Grown.alloc (Grown.alloc (Grown.refl _) _ _) _ _).drew⟩
      rw [results_tmp_cell rfl]
      go_simp
    all_goals
      have hA := HA.out
      have hB := HB.out
      simp only [Bool.false_or, Bool.true_or, Bool.or_false, Bool.or_true, Bool.or_self] at hA
      first
        | (have h := rway_over1 (top := 10000 + L - 1 + bia f) true hA (by with_reducible assumption) HH.out HT.out (by omega) (by omega) kH
           with_reducible exact h)
        | (have h := rway_over1 (top := 10000 + L - 1 + bia f) false hA (by with_reducible assumption) HH.out HT.out (by omega) (by omega) kH
           with_reducible exact h)
        | (have h := rway_over2 (top := 10000 + L - 1 - fn f + 1 + fn f + bia f) true hA (by with_reducible assumption) HH.out HT.out (by omega) (by omega) (two_of_beq (by with_reducible assumption))
           with_reducible exact h)
end Go.Proofs.YteifobleigfbaaaGreat
