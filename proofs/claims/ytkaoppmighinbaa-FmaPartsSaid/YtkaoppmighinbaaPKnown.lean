/- What the laws of layer 5 ask first; the format that a draw picks; one. -/
import Derived.Test.YtkaoppmighinbaaPFma
import Derived.Test.YtkaoppmighinbaaPLaw
import Derived.Test.YtkaoppmighinbaaNum
import Derived.Test.YtkaoppmighinbaaMild
import Derived.Handy
import Derived.KernelRfl
namespace Go.Proofs.Ytkaoppmighinbaa
open Go.RowKit
set_option linter.unusedVariables false
set_option linter.unusedSimpArgs false

theorem pknown_one : fmaE 2 0 1073741824 1077936128 1065353216 = .returned (.tuple #[.int .u32 1088421888, .agg #[.bool false, .bool false, .bool false, .bool false, .bool false]]) := by kernel_rfl
theorem pknown_two : mulE 0 0 31744 0 = .returned (.tuple #[.int .u32 32256, .agg #[.bool true, .bool false, .bool false, .bool false, .bool false]]) := by kernel_rfl

set_option maxHeartbeats 1000000 in
theorem known5_any (w : World) : Calls Try.prog 8 #[] w fun e w' => e = .returned (.bool true) ∧ Grown w w' := by
  have K1 := Lib.hid pknown_one
  have K2 := Lib.hid pknown_two
  go_enter Try.func8, Try.ntmps8
  go_wp2_with (first
    | (go_at_call 15; refine (pfma_any _ _ _ _ _ _ (by omega) (by omega) (by omega) (by omega) (by omega) (by omega)).mono ?_; rintro e W1 ⟨he, hW1⟩; rw [K1.out] at he; subst he; have HW1 := Lib.hid hW1; clear hW1)
    | (go_at_call 12; refine (pmul_any _ _ _ _ _ (by omega) (by omega) (by omega) (by omega)).mono ?_; rintro e W2 ⟨he, hW2⟩; rw [K2.out] at he; subst he; obtain ⟨z0, z1, z2, z3, z4, z5⟩ := grown_new5 hW2; have HW2 := Lib.hid hW2; clear hW2))
  go_ret
  exact ⟨rfl, Grown.alloc (grown_trans (Grown.alloc HW1.out _ _) HW2.out) _ _⟩

set_option maxHeartbeats 1000000 in
theorem form5_any (k : Int) (w : World) (h0 : 0 ≤ k) (h1 : k ≤ 255) :
    Calls Try.prog 9 #[.int .u8 k] w fun e w' => e = .returned (.int .i64 (k % 3)) ∧ Grown w w' := by
  have hk : k % 3 = 0 ∨ k % 3 = 1 ∨ k % 3 = 2 := by omega
  rcases hk with hk | hk | hk
  all_goals
    go_enter Try.func9, Try.ntmps9
    go_wp2
    go_ret
    exact ⟨by rw [hk]; rfl, Grown.alloc (Grown.refl w) _ _⟩

set_option maxHeartbeats 1000000 in
theorem rone_any (f mode : Int) (w : World) :
    Calls Try.prog 17 #[.int .i64 f, .int .i64 mode, .int .i64 1] w fun e w' => e = .returned (.tuple #[.int .u32 (oneI f), .agg #[.bool false, .bool false, .bool false, .bool false, .bool false]]) ∧ Grown w w' := by
  have HE := Lib.hid (exc_new w 29)
  have HG := Lib.hid (Grown.alloc (Grown.refl w) #[.bool false, .bool false, .bool false, .bool false, .bool false] 29)
  have HP := Lib.hid (one_pack f mode)
  have h1 : IntKind.u64.wrap 1 = 1 := by decide
  go_enter Try.func17, Try.ntmps17
  go_wp2_with (go_at_call 37; refine (rpack_any _ _ _ _ _ _ _ (by omega) (by omega) (by omega) (by omega)).mono ?_; rintro e W1 ⟨he, hW1⟩; rw [HP.out] at he; unfold excE at he; subst he; have HW1 := Lib.hid hW1; clear hW1; obtain ⟨xb, x0, x1, x2, x3, x4, z0, z1, z2, z3, z4⟩ := HE.out.grown HW1.out)
  (try simp only [Exit.inBlock, Exit.then])
  refine bodyPost_ret (v := .tuple #[.int .u32 (oneI f), .agg #[.bool false, .bool false, .bool false, .bool false, .bool false]]) ?_ rfl ⟨rfl, ?_⟩
  · rw [results_tmp_cell rfl]
    go_simp
  · have HGW := Lib.hid (grown_trans HG.out HW1.out)
    repeat (first | with_reducible exact HGW.out | with_reducible refine Grown.setCell ?_ (by simp <;> omega) _ | with_reducible refine Grown.alloc ?_ _ _ | with_reducible refine grown_more ?_ _)

/-- A number that is drawn has no bits above its format's. -/
theorem num_msk_zer (f x : Int) (h0 : 0 ≤ x) (h1 : x ≤ msk f) : 0 ≤ bits .or .u32 x (zerI f true) ∧ bits .or .u32 x (zerI f true) ≤ msk f := by
  have key : ∀ (n : Nat) (b m : Int), b = 2 ^ n → m = 2 ^ (n + 1) - 1 → n ≤ 31 → x ≤ m → 0 ≤ bits .or .u32 x b ∧ bits .or .u32 x b ≤ m := by
    intro n b m hb hm hn hx
    subst hb hm
    have hp := pow2_pos n
    have hp1 : (2 : Int) ^ (n + 1) ≤ 4294967296 := pow2_le (b := 32) (by omega)
    have hpp : (2 : Int) ^ (n + 1) = 2 ^ n + 2 ^ n := by rw [Int.pow_succ]; omega
    rw [u32_or x _ h0 (by omega) (by omega) (by omega)]
    obtain ⟨X, rfl⟩ := Int.eq_ofNat_of_zero_le h0
    rw [pow2_cast] at hx
    rw [pow2_cast, pow2_cast, Int.toNat_natCast, Int.toNat_natCast]
    have : X ||| 2 ^ n < 2 ^ (n + 1) := Nat.or_lt_two_pow (by omega) (Nat.pow_lt_pow_right (by decide) (by omega))
    omega
  rcases fmt_cases f with ⟨rfl, hf⟩ | ⟨rfl, hf⟩ | ⟨⟨c0, c1⟩, hf⟩ <;> obtain ⟨e1, e2, e3, e4, e5, e6, e7, e8, e9⟩ := hf
  · rw [e8] at h1 ⊢; rw [show zerI 0 true = 32768 from e5]; exact key 15 _ _ (by decide) (by decide) (by decide) h1
  · rw [e8] at h1 ⊢; rw [show zerI 1 true = 32768 from e5]; exact key 15 _ _ (by decide) (by decide) (by decide) h1
  · rw [e8] at h1 ⊢; rw [show zerI f true = 2147483648 from e5]; exact key 31 _ _ (by decide) (by decide) (by decide) h1
end Go.Proofs.Ytkaoppmighinbaa
