/- The reference's Pack where the unit is the least one. -/
import Derived.Test.YteifobleigfbaaaGreatRdRef
namespace Go.Proofs.YteifobleigfbaaaGreat
open Go.RowKit
set_option linter.unusedVariables false
set_option linter.unusedSimpArgs false

set_option maxRecDepth 100000 in
set_option maxHeartbeats 80000000 in
theorem rpack_low (f mode : Int) (neg : Bool) (exp sig R L K : Int) (more half rest : Bool) (V : Nat) (w : World) (h0 : -9223372036854775808 ≤ exp) (h1 : exp ≤ 9223372036854775807) (sp : 0 < sig) (s1 : sig ≤ 18446744073709551615)
    (hX : (if exp < -10000 then -10000 else exp) = R) (hL : Hid (lenI sig = L)) (hr0 : -10000 ≤ R) (hr1 : R ≤ 10000) (hl0 : 0 ≤ L) (hl1 : L ≤ 64) (c : R + L - 1 < 1 - bia f)
    (hK : Hid (dvK sig (1 - bia f - fn f - R) = K ∧ dvH sig (1 - bia f - fn f - R) = half ∧ dvR sig (1 - bia f - fn f - R) = rest)) (k0 : 0 ≤ K) (k1 : K ≤ 18446744073709551615) (H T : Int) (hT : wrap64 (wrap64 (2 ^ min (fe f) 64) - 1) = T) (hH : IntKind.u64.wrap (2 ^ fn f) = H) (hH2 : IntKind.u64.wrap (2 ^ (fn f + 1)) = 2 * H) (t0 : 31 ≤ T) (t1 : T ≤ 255) (m0 : 128 ≤ H) (m1 : H ≤ 8388608) (kH : K + 1 ≤ H) (HA : Hid (AtR f V 0 K half (rest || more) (R + L - 1))) (HH : Hid (hid f = H)) (HT : Hid (topx f = T)) (HB : Hid (lst f = 1 - bia f - fn f)) :
    Calls Tryz.prog 92 #[.int .i64 f, .int .i64 mode, .bool neg, .int .i64 exp, .int .u64 sig, .bool more] w fun e w' => e = PackE f mode neg V ∧ Grown w w' := by
  obtain ⟨hn0, hn1⟩ := fn_bd f
  obtain ⟨hu0, hu1⟩ := lst_bd f
  obtain ⟨hb0, hb1⟩ := bia_bd f
  have hk := and_one K k0 k1
  have s0 : 0 ≤ sig := by omega
  cases rest <;> cases half <;> cases more
  all_goals
    go_enter Tryz.func92, Tryz.ntmps92
    go_wp2_with (first
        | (go_at_call 49; refine (rzero_any _ _ _).mono ?_; rintro e w' ⟨rfl, rfl⟩)
        | (go_at_call 48; refine (rwidths_any _ _).mono ?_; rintro e w' ⟨rfl, rfl⟩)
        | (go_at_call 95; refine (rbias_any _ _).mono ?_; rintro e w' ⟨rfl, rfl⟩)
        | (go_at_call 131; refine (rlen_any _ _ (by omega) (by omega)).mono ?_; rintro e w' ⟨he, rfl⟩; rw [hL.out] at he; subst he)
        | (go_at_call 132; refine (rdivide_any _ _ _ s0 s1 (by omega) (by omega)).mono ?_; rintro e w' ⟨he, rfl⟩; rw [hK.out.1, hK.out.2.1, hK.out.2.2] at he; subst he)
        | (go_at_call 133; refine (rup_any _ _ _ _ _ _).mono ?_; rintro e w' ⟨rfl, rfl⟩)
        | (go_at_call 134; refine (rover_any _ _ _ _).mono ?_; rintro e w' ⟨rfl, md, rfl⟩)
        | (go_at_call 87; refine (rsign_any _ _ _).mono ?_; rintro e w' ⟨rfl, rfl⟩))
    all_goals
      first
        | (have hs : H ≤ K + 1 := by assumption
           clear hs
           refine wp_region_still_tail 17 (by kernel_rfl) (by kernel_rfl) ?_)
        | refine wp_region_still_tail 8 (by kernel_rfl) (by kernel_rfl) ?_
      simp only [List.take_succ_cons, List.take_zero, List.drop_succ_cons, List.drop_zero]
      change wpStill _ _ (World.drew _) (fun a' => wpList _ _ _ _ a' (World.drew _)) _ _
      repeat (first | still_step | still_call (still_same (rsign_any _ _ _)))
      try refine wpStill_nil ?_
      go_wp2
    all_goals
      (try simp only [Exit.inBlock, Exit.then])
      refine bodyPost_ret (v := .tuple #[.int .u32 (rdV f mode neg V), .agg #[.bool false, .bool false, .bool (rdO f mode neg V), .bool (rdU f V), .bool (rdX f mode neg V)]]) ?_ rfl ⟨packE_is _ _ _ _, by
        repeat refine Grown.setCell ?_ (Nat.le_refl _) _
        first
          | exact grown_more (Grown.alloc (Grown.refl _) _ _) _
          | exact Grown.alloc (Grown.refl _) _ _
          | exact Grown.alloc (Grown.alloc (Grown.refl _) _ _) _ _
          | exact (Grown.alloc (Grown.alloc (Grown.refl _) _ _) _ _).drew⟩
      rw [results_tmp_cell rfl]
      go_simp
    all_goals
      have hA := HA.out
      have hB := HB.out
      simp only [Bool.false_or, Bool.true_or, Bool.or_false, Bool.or_true, Bool.or_self] at hA
      first
        | (have h := rway_in1 (top := 1) (X := K + 1) true hA (by with_reducible assumption) HH.out HT.out (by simp only [Bool.toNat_true]; omega) (by omega) (by omega) (by with_reducible assumption) (by omega) (by omega)
           simp only [Bool.false_or, Bool.true_or, Bool.or_false, Bool.or_true, Bool.false_and, Bool.true_and, Bool.or_self] at h
           obtain ⟨v1, v2, v3, v4⟩ := h
           try rw [decide_eq_true c] at v3
           refine ⟨?_, v2, ?_, v4⟩
           · with_reducible exact v1
           · first | with_reducible exact v3 | with_reducible exact v3.symm)
        | (have h := rway_lowS (X := K + 1) true hA (by with_reducible assumption) HH.out HT.out (by simp only [Bool.toNat_true]; omega) (by omega) (by with_reducible assumption) (by omega)
           simp only [Bool.false_or, Bool.true_or, Bool.or_false, Bool.or_true, Bool.false_and, Bool.true_and, Bool.or_self] at h
           obtain ⟨v1, v2, v3, v4⟩ := h
           try rw [decide_eq_true c] at v3
           refine ⟨?_, v2, ?_, v4⟩
           · with_reducible exact v1
           · first | with_reducible exact v3 | with_reducible exact v3.symm)
        | (have h := rway_lowS (X := K) false hA (by with_reducible assumption) HH.out HT.out (by simp only [Bool.toNat_false]; omega) (by omega) (by omega) (by omega)
           simp only [Bool.false_or, Bool.true_or, Bool.or_false, Bool.or_true, Bool.false_and, Bool.true_and, Bool.or_self] at h
           obtain ⟨v1, v2, v3, v4⟩ := h
           try rw [decide_eq_true c] at v3
           refine ⟨?_, v2, ?_, v4⟩
           · with_reducible exact v1
           · first | with_reducible exact v3 | with_reducible exact v3.symm)
end Go.Proofs.YteifobleigfbaaaGreat
