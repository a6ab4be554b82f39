/- The walk of FormatHigh. -/
import Derived.Test.YtibhdlpjkciojaaFKnown
namespace Go.Proofs.Ytibhdlpjkciojaa
open Go.RowKit
set_option linter.unusedVariables false
set_option linter.unusedSimpArgs false

theorem high_same (f x y : Int) (hf : f = 0 ∨ f = 1) (h : y % 65536 = x % 65536) :
    clsI f y = clsI f x ∧ fS f y = fS f x ∧ unE f y = unE f x ∧ unM f y = unM f x := by
  have hX : fX f y = fX f x := by
    rcases hf with rfl | rfl
    · rw [show fX 0 y = y / 1024 % 32 from rfl, show fX 0 x = x / 1024 % 32 from rfl]; omega
    · rw [show fX 1 y = y / 128 % 256 from rfl, show fX 1 x = x / 128 % 256 from rfl]; omega
  have hF : fF f y = fF f x := by
    rcases hf with rfl | rfl
    · rw [show fF 0 y = y % 1024 from rfl, show fF 0 x = x % 1024 from rfl]; omega
    · rw [show fF 1 y = y % 128 from rfl, show fF 1 x = x % 128 from rfl]; omega
  have hS : fS f y = fS f x := by
    rcases hf with rfl | rfl
    · rw [show fS 0 y = (y / 32768 % 2 == 1) from rfl, show fS 0 x = (x / 32768 % 2 == 1) from rfl, show y / 32768 % 2 = x / 32768 % 2 by omega]
    · rw [show fS 1 y = (y / 32768 % 2 == 1) from rfl, show fS 1 x = (x / 32768 % 2 == 1) from rfl, show y / 32768 % 2 = x / 32768 % 2 by omega]
  exact ⟨by unfold clsI; rw [hX, hF], hS, by unfold unE; rw [hX], by unfold unM; rw [hX, hF]⟩

theorem high_word (v u : Int) (h0 : 0 ≤ v) (h1 : v ≤ 4294967295) (h2 : 0 ≤ u) (h3 : u ≤ 4294967295) :
    ∃ y, bits .or .u32 (bits .and .u32 v 65535) (u * 65536 % 4294967296) = y ∧ 0 ≤ y ∧ y ≤ 4294967295 ∧ y % 65536 = v % 65536 := by
  have e : u * 65536 % 4294967296 = (u % 65536) * 2 ^ 16 := by
    rw [show (2 : Int) ^ 16 = 65536 from by decide]; omega
  refine ⟨_, rfl, ?_⟩
  rw [and32 v 16 (p := 65536) h0 h1 (by decide) (by decide) (by decide),
    or32' (u % 65536) (v % 65536) 16 (by omega) (by rw [show (2 : Int) ^ 16 = 65536 from by decide]; omega) (by omega) e (by omega)]
  omega

set_option maxHeartbeats 4000000 in
theorem fhigh_walk (a0 a1 : Int) (a2 : Bool) (w0 : (Lit.int .u32 a0).wf = true) (w1 : (Lit.int .u32 a1).wf = true) (w : World) :
    Calls Try.prog 6 #[.int .u32 a0, .int .u32 a1, .bool a2] w fun e w' => e = .returned (.bool true) ∧ Grown w w' := by
  obtain ⟨b0, b1⟩ := bounds_u32 w0
  obtain ⟨b2, b3⟩ := bounds_u32 w1
  clear w0 w1
  obtain ⟨y, hy, y0, y1, y2⟩ := high_word a0 a1 b0 b1 b2 b3
  obtain ⟨p1, p2, p3, p4⟩ := high_same 0 a0 y (.inl rfl) y2
  obtain ⟨r1, r2, r3, r4⟩ := high_same 1 a0 y (.inr rfl) y2
  have m0 : msk 0 = 65535 := by decide
  have m1 : msk 1 = 65535 := by decide
  cases a2
  all_goals
    go_enter Try.func6, Try.ntmps6
    go_wp2_with (first
        | (go_at_call 7; refine (known2_any _).mono ?_; rintro e W1 ⟨rfl, hW1⟩)
        | (go_at_call 17; refine (mask_any _ _).mono ?_; rintro e w' ⟨rfl, rfl⟩)
        | (go_at_call 11; refine (class_any _ _ _ (by omega) (by omega)).mono ?_; rintro e w' ⟨rfl, m, rfl⟩)
        | (go_at_call 9; refine (unpack_any _ _ _ (by omega) (by omega)).mono ?_; rintro e w' ⟨rfl, m, rfl⟩))
    go_ret
    exact ⟨rfl, by first | exact hW1 | exact grown_more hW1 _⟩
end Go.Proofs.Ytibhdlpjkciojaa
