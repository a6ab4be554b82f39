/- The contract of the draws' numbers: bits of the format, none above it, with memory made. -/
import Derived.Test.YthhaiekcdemlmaaRNum
import Derived.Test.YthhaiekcdemlmaaRFmt
import Derived.KernelRfl
import Derived.Test.YthhaiekcdemlmaaWorld
import Derived.BigRegion
import Derived.Lib.SmallJoins
import Derived.Lib.Hide
import Derived.Handy
namespace Go.Proofs.Ythhaiekcdemlmaa
open Go.RowKit
set_option linter.unusedVariables false
set_option linter.unusedSimpArgs false

/-- A number that is drawn has no bits above its format's. -/
theorem num_msk_zer (f x : Int) (h0 : 0 ≤ x) (h1 : x ≤ msk f) : 0 ≤ bits .or .u32 x (zerI f true) ∧ bits .or .u32 x (zerI f true) ≤ msk f := by
  have key : ∀ (n : Nat) (b m : Int), b = 2 ^ n → m = 2 ^ (n + 1) - 1 → n ≤ 31 → x ≤ m → 0 ≤ bits .or .u32 x b ∧ bits .or .u32 x b ≤ m := by
    intro n b m hb hm hn hx
    subst hb hm
    have hp := pow2_pos n
    have hp1 : (2 : Int) ^ (n + 1) ≤ 4294967296 := pow2_le (b := 32) (by omega)
    have hpp : (2 : Int) ^ (n + 1) = 2 ^ n + 2 ^ n := by rw [Int.pow_succ]; omega
    rw [u32_or x _ h0 (by omega) (by omega) (by omega)]
    obtain ⟨X, rfl⟩ := Int.eq_ofNat_of_zero_le h0
    rw [pow2_cast] at hx
    rw [pow2_cast, pow2_cast, Int.toNat_natCast, Int.toNat_natCast]
    have : X ||| 2 ^ n < 2 ^ (n + 1) := Nat.or_lt_two_pow (by omega) (Nat.pow_lt_pow_right (by decide) (by omega))
    omega
  rcases fmt_cases f with ⟨rfl, hf⟩ | ⟨rfl, hf⟩ | ⟨⟨c0, c1⟩, hf⟩ <;> obtain ⟨e1, e2, e3, e4, e5, e6, e7, e8, e9⟩ := hf
  · rw [e8] at h1 ⊢; rw [show zerI 0 true = 32768 from e5]; exact key 15 _ _ (by decide) (by decide) (by decide) h1
  · rw [e8] at h1 ⊢; rw [show zerI 1 true = 32768 from e5]; exact key 15 _ _ (by decide) (by decide) (by decide) h1
  · rw [e8] at h1 ⊢; rw [show zerI f true = 2147483648 from e5]; exact key 31 _ _ (by decide) (by decide) (by decide) h1

theorem nm1 {f X M : Int} (e8 : msk f = M) (x0 : 0 ≤ X) (x1 : X ≤ 4294967295) : 0 ≤ bits .and .u32 X M ∧ bits .and .u32 X M ≤ msk f := by subst e8; exact mask_word f X x0 x1

theorem nm2 {f X M : Int} (e8 : msk f = M) (x0 : 0 ≤ X) (x1 : X ≤ 4294967295) : 0 ≤ bits .or .u32 (bits .and .u32 X M) (zerI f true) ∧ bits .or .u32 (bits .and .u32 X M) (zerI f true) ≤ msk f := by
  obtain ⟨h0, h1⟩ := nm1 e8 x0 x1
  exact num_msk_zer f _ h0 h1

set_option maxHeartbeats 4000000 in
theorem num_msk (f k : Int) (w : World) (h0 : 0 ≤ k) (h1 : k ≤ 4294967295) :
    Calls Try.prog 8 #[.int .i64 f, .int .u32 k] w fun e w' => (∃ x : Int, e = .returned (.int .u32 x) ∧ 0 ≤ x ∧ x ≤ msk f) ∧ Grown w w' := by
  have k0 : 0 ≤ k % 15 := by omega
  have k1 : k % 15 < 15 := by omega
  rcases fmt_cases f with ⟨rfl, hf⟩ | ⟨rfl, hf⟩ | ⟨⟨c0, c1⟩, hf⟩ <;> obtain ⟨e1, e2, e3, e4, e5, e6, e7, e8, e9⟩ := hf
  all_goals
    go_enter Try.func8, Try.ntmps8
    go_wp2_with (go_at_call 22; refine (rwidths_any _ _).mono ?_; rintro e w' ⟨rfl, rfl⟩)
    have z1 : IntKind.u32.wrap 3072 = 3072 := by decide
    have z2 : IntKind.u32.wrap 9216 = 9216 := by decide
    have z3 : IntKind.u32.wrap 384 = 384 := by decide
    have z4 : IntKind.u32.wrap 1152 = 1152 := by decide
    have z5 : IntKind.u32.wrap 25165824 = 25165824 := by decide
    have z6 : IntKind.u32.wrap 75497472 = 75497472 := by decide
    go_region
    generalize hW : (w.alloc _).drew = W
    have hG : Grown w W := hW ▸ (Grown.alloc (Grown.refl w) _ _).drew
    obtain ⟨X, hX, x0, x1⟩ := word_new hW (k % 15).toNat (by show _ < 15; omega) (by
      intro v hv
      simp only [List.mem_cons, List.not_mem_nil, or_false] at hv
      rcases hv with rfl | rfl | rfl | rfl | rfl | rfl | rfl | rfl | rfl | rfl | rfl | rfl | rfl | rfl | rfl <;> exact is_word _ rfl (by first | omega | decide | (rw [IntKind.wrap_u32]; omega)) (by first | omega | decide | (rw [IntKind.wrap_u32]; omega)))
    clear hW
    go_wp2
    go_quiet ((go_at_call 16; exact quiet_same (rmask_any _ _)))
    go_wp2_with (go_at_call 23; refine (rzero_any _ _ _).mono ?_; rintro e w' ⟨rfl, rfl⟩)
    all_goals
      go_ret
      refine ⟨⟨_, rfl, ?_⟩, grown_more hG _⟩
      first
        | with_reducible exact nm1 (by assumption) x0 x1
        | with_reducible exact nm2 (by assumption) x0 x1
end Go.Proofs.Ythhaiekcdemlmaa
