/- Contracts of package round: what each call comes to. -/
import Derived.Test.YtheaeclojljecaaBits
import Derived.Test.YtheaeclojljecaaFmt
import Derived.Test.YtheaeclojljecaaMath
import Derived.Lib.Hide
import Derived.Test.YtheaeclojljecaaWorld
namespace Go.Proofs.Ytheaeclojljecaa
open Go.RowKit
set_option linter.unusedVariables false
set_option linter.unusedSimpArgs false

theorem un_zero (f : Int) : unE f 0 = lst f := by
  rcases fmt_cases f with ⟨rfl, hf⟩ | ⟨rfl, hf⟩ | ⟨⟨c0, c1⟩, hf⟩ <;> obtain ⟨e1, e2, e3, e4, e5, e6, e7, e8, e9⟩ := hf
  · decide
  · decide
  · unfold unE fX; rw [e3, e4]; simp

set_option maxHeartbeats 400000 in
theorem leastUnit_any (f : Int) (w : World) :
    Calls Try.prog 93 #[.int .i64 f] w fun e w' => e = .returned (.int .i64 (lst f)) ∧ ∃ m, w' = w.drewN m := by
  have hz : zerI f false = 0 := rfl
  have hu := un_zero f
  go_enter Try.func93, Try.ntmps93
  go_wp2_with (first
    | (go_at_call 38; refine (zero_any _ _ _).mono ?_; rintro e w' ⟨rfl, rfl⟩)
    | (go_at_call 66; refine (unpack_any _ _ _ (by omega) (by omega)).mono ?_; rintro e w' ⟨rfl, m, rfl⟩))
  go_ret
  exact ⟨rfl, _, rfl⟩

set_option maxHeartbeats 400000 in
theorem reach_any (exp sig : Int) (w : World) (h0 : -9223372036854775808 ≤ exp) (h1 : exp ≤ 9223372036854775807) (s0 : 0 ≤ sig) (s1 : sig ≤ 18446744073709551615) :
    Calls Try.prog 94 #[.int .i64 exp, .int .u64 sig] w fun e w' => e = .returned (.int .i64 (reaI exp sig)) ∧ w = w' := by
  by_cases c : sig = 0
  · subst c
    go_enter Try.func94, Try.ntmps94
    go_wp2
    go_ret
    exact ⟨rfl, rfl⟩
  · go_enter Try.func94, Try.ntmps94
    go_wp2
    all_goals
      go_ret
      exact ⟨ret_int (by unfold reaI clampE; rw [if_neg c]; (repeat' split) <;> simp_all <;> omega), rfl⟩

set_option maxHeartbeats 400000 in
theorem split_any (v n : Int) (more : Bool) (w : World) (h0 : 0 ≤ v) (h1 : v ≤ 18446744073709551615) (n0 : -100000 ≤ n) (n1 : n ≤ 100000) :
    Calls Try.prog 96 #[.int .u64 v, .int .i64 n, .bool more] w fun e w' => e = .returned (.tuple #[.int .u64 (spQ v n more / 4), .int .u64 (spQ v n more % 4)]) ∧ ∃ m, w' = w.drewN m := by
  obtain ⟨b0, b1⟩ := shV_bd v (n - 2) h0 h1
  have ho := or_one64 _ b0 b1
  cases hm : shO v (n - 2) <;> cases more
  all_goals
    go_enter Try.func96, Try.ntmps96
    go_wp2_with (first
      | (go_at_call 73; refine (shift_any _ _ _ h0 h1 (by omega) (by omega)).mono ?_; rintro e w' ⟨rfl, m, rfl⟩)
      | (go_at_call 92; refine (cut_any _ _ _ (by omega) (by omega)).mono ?_; rintro e w' ⟨rfl, rfl⟩))
    go_ret2
    exact ⟨by simp only [spQ, hm]; exact ret_vv (by simp) (by simp [cutI]), _, rfl⟩

set_option maxHeartbeats 400000 in
theorem grows_any (mode : Int) (neg : Bool) (k c : Int) (w : World) (k0 : 0 ≤ k) (k1 : k ≤ 18446744073709551615) (c0 : 0 ≤ c) (c1 : c ≤ 3) :
    Calls Try.prog 97 #[.int .i64 mode, .bool neg, .int .u64 k, .int .u64 c] w fun e w' => e = .returned (.bool (growB mode neg k.toNat c.toNat)) ∧ w = w' := by
  obtain ⟨K, rfl⟩ := Int.eq_ofNat_of_zero_le k0
  have h3 : c = 0 ∨ c = 1 ∨ c = 2 ∨ c = 3 := by omega
  rcases h3 with rfl | rfl | rfl | rfl
  all_goals
    go_enter Try.func97, Try.ntmps97
    go_wp2_with (go_at_call 92; refine (cut_any _ _ _ (by omega) (by omega)).mono ?_; rintro e w' ⟨rfl, rfl⟩)
    all_goals
      go_ret
      exact ⟨ret_bool (by simp_all [growB, cutI] <;> rw [Bool.eq_iff_iff, beq_iff_eq, beq_iff_eq] <;> omega), rfl⟩

set_option maxHeartbeats 400000 in
theorem beyond_any (f mode : Int) (neg : Bool) (w : World) :
    Calls Try.prog 99 #[.int .i64 f, .int .i64 mode, .bool neg] w fun e w' => e = .returned (.int .u32 (beyI f mode neg)) ∧ w = w' := by
  cases neg
  all_goals
    go_enter Try.func99, Try.ntmps99
    go_wp2_with (first
      | (go_at_call 98; refine (greatest_any _ _ _).mono ?_; rintro e w' ⟨rfl, rfl⟩)
      | (go_at_call 37; refine (inf_any _ _ _).mono ?_; rintro e w' ⟨rfl, rfl⟩))
    all_goals
      go_ret
      exact ⟨ret_int (by simp_all [beyI, inB]), rfl⟩

set_option maxHeartbeats 1000000 in
theorem pack_low (f mode : Int) (neg : Bool) (exp sig R L Q : Int) (more : Bool) (w : World) (h0 : -9223372036854775808 ≤ exp) (h1 : exp ≤ 9223372036854775807) (sp : 0 < sig) (s1 : sig ≤ 18446744073709551615)
    (hR : Hid (reaI exp sig = R)) (hL : Hid (lenI sig = L)) (hr0 : -10000 ≤ R) (hr1 : R ≤ 10000) (hl0 : 0 ≤ L) (hl1 : L ≤ 64) (c : R + L - 1 - fn f < lst f)
    (hQ : Hid (spQ sig (lst f - R) more = Q)) (q0 : 0 ≤ Q) (q1 : Q ≤ 18446744073709551615) (HA : Hid (AtQ f (valN (clampE exp) sig more) 0 Q (R + L - 1 - fn f))) :
    Calls Try.prog 78 #[.int .i64 f, .int .i64 mode, .bool neg, .int .i64 exp, .int .u64 sig, .bool more] w fun e w' => e = PackE f mode neg (valN (clampE exp) sig more) ∧ Grown w w' := by
  obtain ⟨hn0, hn1⟩ := fn_bd f
  obtain ⟨hu0, hu1⟩ := lst_bd f
  have s0 : 0 ≤ sig := by omega
  go_enter Try.func78, Try.ntmps78
  go_wp2_with (first
      | (go_at_call 38; refine (zero_any _ _ _).mono ?_; rintro e w' ⟨rfl, rfl⟩)
      | (go_at_call 70; refine (widths_any _ _).mono ?_; rintro e w' ⟨rfl, rfl⟩)
      | (go_at_call 93; refine (leastUnit_any _ _).mono ?_; rintro e w' ⟨rfl, m1, rfl⟩)
      | (go_at_call 94; refine (reach_any _ _ _ (by omega) (by omega) (by omega) (by omega)).mono ?_; rintro e w' ⟨he, rfl⟩; rw [hR.out] at he; subst he)
      | (go_at_call 95; refine (len_any _ _ (by omega) (by omega)).mono ?_; rintro e w' ⟨he, rfl⟩; rw [hL.out] at he; subst he)
      | (go_at_call 96; refine (split_any _ _ _ _ s0 s1 (by omega) (by omega)).mono ?_; rintro e w' ⟨he, m2, rfl⟩; rw [hQ.out] at he; subst he)
      | (go_at_call 97; refine (grows_any _ _ _ _ _ (by omega) (by omega) (by omega) (by omega)).mono ?_; rintro e w' ⟨rfl, rfl⟩)
      | (go_at_call 99; refine (beyond_any _ _ _ _).mono ?_; rintro e w' ⟨rfl, rfl⟩)
      | (go_at_call 98; refine (greatest_any _ _ _).mono ?_; rintro e w' ⟨rfl, rfl⟩))
  all_goals
    (try simp only [Exit.inBlock, Exit.then])
    refine bodyPost_ret (v := .tuple #[.int .u32 (rdV f mode neg (valN (clampE exp) sig more)), .agg #[.bool false, .bool false, .bool (rdO f mode neg (valN (clampE exp) sig more)), .bool (rdU f (valN (clampE exp) sig more)), .bool (rdX f mode neg (valN (clampE exp) sig more))]]) ?_ rfl ⟨packE_is _ _ _ _, by
      repeat refine Grown.setCell ?_ (Nat.le_refl _) _
      exact grown_more (Grown.alloc (Grown.refl _) _ _) _⟩
    rw [results_tmp_cell rfl]
    go_simp
    first
      | exact way_over true HA.out (by assumption) (by simp only [Bool.toNat_true]; omega)
      | exact way_over false HA.out (by assumption) (by simp only [Bool.toNat_false]; omega)
      | exact way_in0 true HA.out (by assumption) (by simp only [Bool.toNat_true]; omega) (by omega) (by assumption)
      | exact way_in0 false HA.out (by assumption) (by simp only [Bool.toNat_false]; omega) (by omega) (by assumption)
      | exact way_inL true HA.out (by assumption) (by simp only [Bool.toNat_true]; omega) (by omega) c
      | exact way_inL false HA.out (by assumption) (by simp only [Bool.toNat_false]; omega) (by omega) c
      | exact way_in true HA.out (by assumption) (by simp only [Bool.toNat_true]; omega) (by omega)
      | exact way_in false HA.out (by assumption) (by simp only [Bool.toNat_false]; omega) (by omega)

set_option maxHeartbeats 1000000 in
theorem pack_high (f mode : Int) (neg : Bool) (exp sig R L Q : Int) (more : Bool) (w : World) (h0 : -9223372036854775808 ≤ exp) (h1 : exp ≤ 9223372036854775807) (sp : 0 < sig) (s1 : sig ≤ 18446744073709551615)
    (hR : Hid (reaI exp sig = R)) (hL : Hid (lenI sig = L)) (hr0 : -10000 ≤ R) (hr1 : R ≤ 10000) (hl0 : 0 ≤ L) (hl1 : L ≤ 64) (c : lst f ≤ R + L - 1 - fn f)
    (hQ : Hid (spQ sig ((R + L - 1 - fn f) - R) more = Q)) (q0 : 0 ≤ Q) (q1 : Q ≤ 18446744073709551615) (D : Int) (hD : IntKind.u64.wrap ((R + L - 1 - fn f - lst f) * 2 ^ fn f) = D) (d0 : 0 ≤ D) (d1 : D ≤ 1000000000000) (HA : Hid (AtQ f (valN (clampE exp) sig more) D Q (R + L - 1 - fn f))) :
    Calls Try.prog 78 #[.int .i64 f, .int .i64 mode, .bool neg, .int .i64 exp, .int .u64 sig, .bool more] w fun e w' => e = PackE f mode neg (valN (clampE exp) sig more) ∧ Grown w w' := by
  obtain ⟨hn0, hn1⟩ := fn_bd f
  obtain ⟨hu0, hu1⟩ := lst_bd f
  have s0 : 0 ≤ sig := by omega
  go_enter Try.func78, Try.ntmps78
  go_wp2_with (first
      | (go_at_call 38; refine (zero_any _ _ _).mono ?_; rintro e w' ⟨rfl, rfl⟩)
      | (go_at_call 70; refine (widths_any _ _).mono ?_; rintro e w' ⟨rfl, rfl⟩)
      | (go_at_call 93; refine (leastUnit_any _ _).mono ?_; rintro e w' ⟨rfl, m1, rfl⟩)
      | (go_at_call 94; refine (reach_any _ _ _ (by omega) (by omega) (by omega) (by omega)).mono ?_; rintro e w' ⟨he, rfl⟩; rw [hR.out] at he; subst he)
      | (go_at_call 95; refine (len_any _ _ (by omega) (by omega)).mono ?_; rintro e w' ⟨he, rfl⟩; rw [hL.out] at he; subst he)
      | (go_at_call 96; refine (split_any _ _ _ _ s0 s1 (by omega) (by omega)).mono ?_; rintro e w' ⟨he, m2, rfl⟩; rw [hQ.out] at he; subst he)
      | (go_at_call 97; refine (grows_any _ _ _ _ _ (by omega) (by omega) (by omega) (by omega)).mono ?_; rintro e w' ⟨rfl, rfl⟩)
      | (go_at_call 99; refine (beyond_any _ _ _ _).mono ?_; rintro e w' ⟨rfl, rfl⟩)
      | (go_at_call 98; refine (greatest_any _ _ _).mono ?_; rintro e w' ⟨rfl, rfl⟩))
  all_goals
    (try simp only [Exit.inBlock, Exit.then])
    refine bodyPost_ret (v := .tuple #[.int .u32 (rdV f mode neg (valN (clampE exp) sig more)), .agg #[.bool false, .bool false, .bool (rdO f mode neg (valN (clampE exp) sig more)), .bool (rdU f (valN (clampE exp) sig more)), .bool (rdX f mode neg (valN (clampE exp) sig more))]]) ?_ rfl ⟨packE_is _ _ _ _, by
      repeat refine Grown.setCell ?_ (Nat.le_refl _) _
      exact grown_more (Grown.alloc (Grown.refl _) _ _) _⟩
    rw [results_tmp_cell rfl]
    go_simp
    first
      | exact way_over true HA.out (by assumption) (by simp only [Bool.toNat_true]; omega)
      | exact way_over false HA.out (by assumption) (by simp only [Bool.toNat_false]; omega)
      | exact way_in0 true HA.out (by assumption) (by simp only [Bool.toNat_true]; omega) (by omega) (by assumption)
      | exact way_in0 false HA.out (by assumption) (by simp only [Bool.toNat_false]; omega) (by omega) (by assumption)
      | exact way_inL true HA.out (by assumption) (by simp only [Bool.toNat_true]; omega) (by omega) c
      | exact way_inL false HA.out (by assumption) (by simp only [Bool.toNat_false]; omega) (by omega) c
      | exact way_in true HA.out (by assumption) (by simp only [Bool.toNat_true]; omega) (by omega)
      | exact way_in false HA.out (by assumption) (by simp only [Bool.toNat_false]; omega) (by omega)

set_option maxHeartbeats 1000000 in
theorem pack_tiny (f mode : Int) (neg : Bool) (exp R L Q : Int) (w : World) (h0 : -9223372036854775808 ≤ exp) (h1 : exp ≤ 9223372036854775807)
    (hR : Hid (reaI exp 0 = R)) (hL : Hid (lenI 0 = L)) (hr0 : -10000 ≤ R) (hr1 : R ≤ 10000) (hl0 : 0 ≤ L) (hl1 : L ≤ 64) (c : R + L - 1 - fn f < lst f)
    (hQ : Hid (spQ 0 (lst f - R) true = Q)) (q0 : 0 ≤ Q) (q1 : Q ≤ 18446744073709551615) (HA : Hid (AtQ f (valN (clampE exp) 0 true) 0 Q (R + L - 1 - fn f))) :
    Calls Try.prog 78 #[.int .i64 f, .int .i64 mode, .bool neg, .int .i64 exp, .int .u64 0, .bool true] w fun e w' => e = PackE f mode neg (valN (clampE exp) 0 true) ∧ Grown w w' := by
  obtain ⟨hn0, hn1⟩ := fn_bd f
  obtain ⟨hu0, hu1⟩ := lst_bd f
  have s0 : (0 : Int) ≤ 0 := by omega
  have s1 : (0 : Int) ≤ 18446744073709551615 := by omega
  go_enter Try.func78, Try.ntmps78
  go_wp2_with (first
      | (go_at_call 38; refine (zero_any _ _ _).mono ?_; rintro e w' ⟨rfl, rfl⟩)
      | (go_at_call 70; refine (widths_any _ _).mono ?_; rintro e w' ⟨rfl, rfl⟩)
      | (go_at_call 93; refine (leastUnit_any _ _).mono ?_; rintro e w' ⟨rfl, m1, rfl⟩)
      | (go_at_call 94; refine (reach_any _ _ _ (by omega) (by omega) (by omega) (by omega)).mono ?_; rintro e w' ⟨he, rfl⟩; rw [hR.out] at he; subst he)
      | (go_at_call 95; refine (len_any _ _ (by omega) (by omega)).mono ?_; rintro e w' ⟨he, rfl⟩; rw [hL.out] at he; subst he)
      | (go_at_call 96; refine (split_any _ _ _ _ s0 s1 (by omega) (by omega)).mono ?_; rintro e w' ⟨he, m2, rfl⟩; rw [hQ.out] at he; subst he)
      | (go_at_call 97; refine (grows_any _ _ _ _ _ (by omega) (by omega) (by omega) (by omega)).mono ?_; rintro e w' ⟨rfl, rfl⟩)
      | (go_at_call 99; refine (beyond_any _ _ _ _).mono ?_; rintro e w' ⟨rfl, rfl⟩)
      | (go_at_call 98; refine (greatest_any _ _ _).mono ?_; rintro e w' ⟨rfl, rfl⟩))
  all_goals
    (try simp only [Exit.inBlock, Exit.then])
    refine bodyPost_ret (v := .tuple #[.int .u32 (rdV f mode neg (valN (clampE exp) 0 true)), .agg #[.bool false, .bool false, .bool (rdO f mode neg (valN (clampE exp) 0 true)), .bool (rdU f (valN (clampE exp) 0 true)), .bool (rdX f mode neg (valN (clampE exp) 0 true))]]) ?_ rfl ⟨packE_is _ _ _ _, by
      repeat refine Grown.setCell ?_ (Nat.le_refl _) _
      exact grown_more (Grown.alloc (Grown.refl _) _ _) _⟩
    rw [results_tmp_cell rfl]
    go_simp
    first
      | exact way_over true HA.out (by assumption) (by simp only [Bool.toNat_true]; omega)
      | exact way_over false HA.out (by assumption) (by simp only [Bool.toNat_false]; omega)
      | exact way_in0 true HA.out (by assumption) (by simp only [Bool.toNat_true]; omega) (by omega) (by assumption)
      | exact way_in0 false HA.out (by assumption) (by simp only [Bool.toNat_false]; omega) (by omega) (by assumption)
      | exact way_inL true HA.out (by assumption) (by simp only [Bool.toNat_true]; omega) (by omega) c
      | exact way_inL false HA.out (by assumption) (by simp only [Bool.toNat_false]; omega) (by omega) c
      | exact way_in true HA.out (by assumption) (by simp only [Bool.toNat_true]; omega) (by omega)
      | exact way_in false HA.out (by assumption) (by simp only [Bool.toNat_false]; omega) (by omega)

set_option maxHeartbeats 1000000 in
theorem pack_zero (f mode : Int) (neg : Bool) (exp : Int) (w : World) :
    Calls Try.prog 78 #[.int .i64 f, .int .i64 mode, .bool neg, .int .i64 exp, .int .u64 0, .bool false] w fun e w' => e = PackE f mode neg (valN (clampE exp) 0 false) ∧ Grown w w' := by
  have hv : valN (clampE exp) 0 false = 0 := by unfold valN; simp
  obtain ⟨z1, z2, z3, z4⟩ := rd_zero f mode neg
  have hp : Hid (PackE f mode neg (valN (clampE exp) 0 false) = .returned (.tuple #[.int .u32 (zerI f neg), .agg #[.bool false, .bool false, .bool false, .bool false, .bool false]])) := by
    show _ = _
    rw [hv, ← packE_is, z1, z2, z3, z4]
  clear hv z1 z2 z3 z4
  go_enter Try.func78, Try.ntmps78
  go_wp2_with (first
      | (go_at_call 38; refine (zero_any _ _ _).mono ?_; rintro e w' ⟨rfl, rfl⟩))
  (try simp only [Exit.inBlock, Exit.then])
  refine bodyPost_ret (v := .tuple #[.int .u32 (zerI f neg), .agg #[.bool false, .bool false, .bool false, .bool false, .bool false]]) ?_ rfl ⟨hp.out.symm, ?_⟩
  · rw [results_tmp_cell rfl]
    go_simp
  · repeat refine Grown.setCell ?_ (Nat.le_refl _) _
    exact Grown.alloc (Grown.refl _) _ _

/-- Pack, of whatever it is given. -/
theorem pack_any (f mode : Int) (neg : Bool) (exp sig : Int) (more : Bool) (w : World) (h0 : -9223372036854775808 ≤ exp) (h1 : exp ≤ 9223372036854775807) (s0 : 0 ≤ sig) (s1 : sig ≤ 18446744073709551615) :
    Calls Try.prog 78 #[.int .i64 f, .int .i64 mode, .bool neg, .int .i64 exp, .int .u64 sig, .bool more] w fun e w' => e = PackE f mode neg (valN (clampE exp) sig more) ∧ Grown w w' := by
  have hc := clamp_bd exp
  have hr : -10000 ≤ reaI exp sig ∧ reaI exp sig ≤ 10000 := by unfold reaI; split <;> omega
  have hl0 := len_nonneg sig
  have hl1 := len_le64 sig s0 s1
  by_cases cz : 0 < sig ∨ more = true
  · by_cases c : reaI exp sig + lenI sig - 1 - fn f < lst f
    · obtain ⟨a1, a2, a3, a4, a5⟩ := pack_val f exp sig _ _ (lst f) more s0 s1 cz rfl rfl (.inl ⟨c, rfl⟩)
      have HA : AtQ f (valN (clampE exp) sig more) 0 (spQ sig (lst f - reaI exp sig) more) (reaI exp sig + lenI sig - 1 - fn f) := ⟨by rw [a3, Int.sub_self, Int.zero_mul], a1, a2, a4⟩
      obtain ⟨q0, q1⟩ := spQ_bd sig (lst f - reaI exp sig) more s0 s1
      by_cases cs : 0 < sig
      · exact pack_low f mode neg exp sig _ _ _ more w h0 h1 cs s1 rfl rfl hr.1 hr.2 hl0 hl1 c rfl q0 q1 HA
      · have e1 : sig = 0 := by omega
        have e2 : more = true := cz.resolve_left cs
        subst e1 e2
        exact pack_tiny f mode neg exp _ _ _ w h0 h1 rfl rfl hr.1 hr.2 hl0 hl1 c rfl q0 q1 HA
    · have c' : lst f ≤ reaI exp sig + lenI sig - 1 - fn f := by omega
      have cs : 0 < sig := by
        rcases Int.lt_or_le 0 sig with h | h
        · exact h
        · have e1 : sig = 0 := by omega
          subst e1
          have := lst_bd f
          rw [len_zero] at c'
          rw [show reaI exp 0 = -10000 from rfl] at c'
          omega
      obtain ⟨a1, a2, a3, a4, a5⟩ := pack_val f exp sig _ _ (reaI exp sig + lenI sig - 1 - fn f) more s0 s1 cz rfl rfl (.inr ⟨c', rfl⟩)
      obtain ⟨q0, q1⟩ := spQ_bd sig (reaI exp sig + lenI sig - 1 - fn f - reaI exp sig) more s0 s1
      obtain ⟨d0, d1, d2⟩ := high_bits f _ _ hr.2 hl1 c'
      exact pack_high f mode neg exp sig _ _ _ more w h0 h1 cs s1 rfl rfl hr.1 hr.2 hl0 hl1 c' rfl q0 q1 _ d0 d1 d2 ⟨by rw [a3], a1, a2, a4⟩
  · have e1 : sig = 0 := by omega
    have e2 : more = false := (Bool.not_eq_true more).mp (fun h => cz (.inr h))
    subst e1 e2
    exact pack_zero f mode neg exp w

end Go.Proofs.Ytheaeclojljecaa
