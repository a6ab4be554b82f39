/- The contract of the draws' numbers: some bits of the format, with memory made. The contract of the draws' mild numbers. -/
import Derived.Test.YtheaeclojljecaaRFmt
import Derived.Test.YtheaeclojljecaaWorld
import Derived.BigRegion
import Derived.Lib.SmallJoins
import Derived.Lib.Hide
import Derived.Handy
import Derived.Deep.QuietTactic
import Derived.BigQuiet
namespace Go.Proofs.Ytheaeclojljecaa
open Go.RowKit
set_option linter.unusedVariables false
set_option linter.unusedSimpArgs false

/-- A mild number's bits, ahead of its sign; with it. -/
def milA (f k : Int) : Int := bia f * hid f - 2 * hid f + k / 8 % (4 * hid f)

def milI (f k : Int) : Int := if k % 7 = 0 then 0 else if k % 2 = 1 then milA f k + sgb f else milA f k

set_option maxHeartbeats 4000000 in
theorem mild_is (f k : Int) (w : World) (h0 : 0 ≤ k) (h1 : k ≤ 4294967295) :
    Calls Try.prog 15 #[.int .i64 f, .int .u32 k] w fun e w' => e = .returned (.int .u32 (milI f k)) ∧ ∃ m, w' = w.drewN m := by
  have h7 : k.tmod 7 = k % 7 := Int.tmod_eq_emod_of_nonneg h0
  by_cases c7 : k % 7 = 0
  · have HM := Lib.hid (show milI f k = 0 from if_pos c7)
    have cb : (k % 7 == 0) = true := by simpa using c7
    clear h7
    go_enter Try.func15, Try.ntmps15
    go_wp2
    go_ret
    exact ⟨ret_int HM.out.symm, 0, rfl⟩
  · have cb : (k % 7 == 0) = false := by simpa using c7
    have HM := Lib.hid (show milI f k = if k % 2 = 1 then milA f k + sgb f else milA f k from if_neg c7)
    clear h7 c7
    have hand : bits .and .u32 k 1 = k % 2 := by
      have := and32 k 1 (m := 1) (p := 2) h0 h1 (by decide) (by decide) (by decide)
      simpa using this
    rcases fmt_cases f with ⟨rfl, hf⟩ | ⟨rfl, hf⟩ | ⟨⟨c0, c1⟩, hf⟩ <;> obtain ⟨e1, e2, e3, e4, e5, e6, e7, e8, e9⟩ := hf
    all_goals
      have HA := Lib.hid (show milA _ k = _ by unfold milA; rw [e9, e3])
      rcases Int.emod_two_eq k with c2 | c2
      all_goals
        have HB := Lib.hid c2
        rw [c2] at hand
        clear c2
        go_enter Try.func15, Try.ntmps15
        go_wp2_with (go_at_call 27; refine (rwidths_any _ _).mono ?_; rintro e w' ⟨rfl, rfl⟩)
        have z1 : IntKind.u32.wrap 2048 = 2048 := by decide
        have z2 : IntKind.u32.wrap 4096 = 4096 := by decide
        have z3 : IntKind.u32.wrap 256 = 256 := by decide
        have z4 : IntKind.u32.wrap 512 = 512 := by decide
        have z5 : IntKind.u32.wrap 16777216 = 16777216 := by decide
        have z6 : IntKind.u32.wrap 33554432 = 33554432 := by decide
        go_quiet (fail)
        clear z1 z2 z3 z4 z5 z6
        go_wp2_with (go_at_call 29; refine (rzero_any _ _ _).mono ?_; rintro e w' ⟨rfl, rfl⟩)
        go_ret
        refine ⟨ret_int ?_, _, rfl⟩
        rw [HM.out, HB.out, HA.out]
        first
          | (rw [if_neg (by decide)]; omega)
          | (rw [if_pos rfl, or_zer _ _ true (by omega) (by rw [e5]; omega)]; rw [show ∀ g, zerI g true = sgb g from fun _ => rfl]; omega)

theorem mil_bd (f k : Int) (h0 : 0 ≤ k) : 0 ≤ milI f k ∧ milI f k ≤ 4294967295 := by
  unfold milI milA
  rcases fmt_cases f with ⟨rfl, hf⟩ | ⟨rfl, hf⟩ | ⟨⟨c0, c1⟩, hf⟩ <;> obtain ⟨e1, e2, e3, e4, e5, e6, e7, e8, e9⟩ := hf
  all_goals
    rw [e9, e3, e5]
    (repeat' split) <;> omega

theorem mild_any (f k : Int) (w : World) (h0 : 0 ≤ k) (h1 : k ≤ 4294967295) :
    Calls Try.prog 15 #[.int .i64 f, .int .u32 k] w fun e w' => (∃ x : Int, e = .returned (.int .u32 x) ∧ 0 ≤ x ∧ x ≤ 4294967295) ∧ Grown w w' :=
  (mild_is f k w h0 h1).mono fun _ _ ⟨he, m, hw⟩ => ⟨⟨_, he, (mil_bd f k h0).1, (mil_bd f k h0).2⟩, by rw [hw]; exact grown_drewN w m⟩
end Go.Proofs.Ytheaeclojljecaa
