/- The contract of the reference's keys. -/
import Derived.Test.YtfdfbgmnfiiipaaRFmt
import Derived.Test.YtfdfbgmnfiiipaaWorld
namespace Go.Proofs.Ytfdfbgmnfiiipaa
open Go.RowKit
set_option linter.unusedVariables false
set_option linter.unusedSimpArgs false

/-- A number's place in the line. -/
def keyI (f a : Int) : Int := if fS f a then -1 - a % sgb f else a % sgb f

theorem no_sign (f v : Int) (h0 : 0 ≤ v) (h1 : v ≤ 4294967295) : bits .andNot .u32 (bits .and .u32 v (msk f)) (zerI f true) = v % sgb f := by
  have key : ∀ X : Nat, X < 65536 → X &&& (4294967295 - 32768) = X % 32768 := by
    intro X hX
    have e : X &&& (4294967295 - 32768) = (X &&& (4294967295 - 32768)) % 2 ^ 16 := (Nat.mod_eq_of_lt (Nat.lt_of_le_of_lt Nat.and_le_left hX)).symm
    rw [e, Nat.and_mod_two_pow, Nat.mod_eq_of_lt (a := X) (by omega), show (4294967295 - 32768) % 2 ^ 16 = 2 ^ 15 - 1 from by decide, Nat.and_two_pow_sub_one_eq_mod]
  have key2 : ∀ X : Nat, X &&& (4294967295 - 2147483648) = X % 2147483648 := by
    intro X
    rw [show 4294967295 - 2147483648 = 2 ^ 31 - 1 from by decide, Nat.and_two_pow_sub_one_eq_mod]
  have hz : zerI f true = sgb f := rfl
  rw [hz]
  rcases fmt_cases f with ⟨rfl, hf⟩ | ⟨rfl, hf⟩ | ⟨⟨c0, c1⟩, hf⟩ <;> obtain ⟨e1, e2, e3, e4, e5, e6, e7, e8, e9⟩ := hf <;> rw [e8, e5]
  · rw [and32 v 16 (p := 65536) h0 h1 (by decide) (by decide) (by decide), u32_andNot _ _ (by omega) (by omega) (by decide) (by decide)]
    have := key (v % 65536).toNat (by omega)
    rw [show (32768 : Int).toNat = 32768 from rfl, this]; omega
  · rw [and32 v 16 (p := 65536) h0 h1 (by decide) (by decide) (by decide), u32_andNot _ _ (by omega) (by omega) (by decide) (by decide)]
    have := key (v % 65536).toNat (by omega)
    rw [show (32768 : Int).toNat = 32768 from rfl, this]; omega
  · rw [and32 v 32 (p := 4294967296) h0 h1 (by decide) (by decide) (by decide), u32_andNot _ _ (by omega) (by omega) (by decide) (by decide)]
    have := key2 (v % 4294967296).toNat
    rw [show (2147483648 : Int).toNat = 2147483648 from rfl, this]; omega

set_option maxHeartbeats 1000000 in
theorem rneg_any (f : Int) (v : Int) (w : World) (h0 : 0 ≤ v) (h1 : v ≤ 4294967295) :
    Calls Try.prog 34 #[.int .i64 f, .int .u32 v] w fun e w' => e = .returned (.bool (fS f v)) ∧ ∃ m, w' = w.drewN m := by
  go_enter Try.func34, Try.ntmps34
  go_wp2_with (go_at_call 37; refine (rparts_any _ _ _ h0 h1).mono ?_; rintro e w' ⟨rfl, m, rfl⟩)
  go_ret
  exact ⟨rfl, _, rfl⟩

end Go.Proofs.Ytfdfbgmnfiiipaa
