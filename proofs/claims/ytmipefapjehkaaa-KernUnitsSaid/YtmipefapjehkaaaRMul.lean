/- The contract of the reference's Mul. (Written by gen11.py.) What the contract of the reference's Fma leans on. (Written by gen11.py.) -/
import Derived.Test.YtmipefapjehkaaaRd
import Derived.Test.YtmipefapjehkaaaNans
import Derived.Test.YtmipefapjehkaaaAdd
namespace Go.Proofs.Ytmipefapjehkaaa
open Go.RowKit
set_option linter.unusedVariables false
set_option linter.unusedSimpArgs false

theorem nou_inf (f a : Int) : (nouB f a = true ∧ infB f a = false) ∨ (nouB f a = false ∧ infB f a = true) ∨ (nouB f a = false ∧ infB f a = false) := by
  unfold nouB infB
  by_cases h : clsI f a = 0
  · rw [h]; exact .inl ⟨rfl, rfl⟩
  · by_cases g : clsI f a = 3
    · rw [g]; exact .inr (.inl ⟨rfl, rfl⟩)
    · exact .inr (.inr ⟨by simpa using h, by simpa using g⟩)

theorem noP (f a b : Int) (ha : finI f a = true) (hb : finI f b = true) : amtP f a b = 0 ↔ (nouB f a || nouB f b) = true := by
  have h1 := nou_is f a ha
  have h2 := nou_is f b hb
  rw [amt_zero _ _ (unM_bd f a).1] at h1
  rw [amt_zero _ _ (unM_bd f b).1] at h2
  rw [amtP_zero, Bool.or_eq_true, h1, h2]

theorem nan_sig3 (f a b c : Int) : (nanB f a || nanB f b || nanB f c) = false → (sigB f a || sigB f b || sigB f c) = false := by
  unfold nanB sigB
  cases h1 : (clsI f a == 5) <;> cases h2 : (clsI f b == 5) <;> cases h3 : (clsI f c == 5) <;> simp

theorem rspread_prod (s : Bool) (X T : Int) (w : World) (h0 : -298 ≤ X) (h1 : X ≤ 240) (t0 : 0 ≤ T) (t1 : T < 281474976710656) : Calls Try.prog 93 #[.bool s, .int .i64 X, .int .u64 T] w fun e w' => e = .returned (wideV s (amtE X T)) ∧ Grown w w' := by
  rw [← spr_amt X T (by omega)]
  exact spread_any s X T w ((X + 298) / 64).toNat ((X + 298) % 64).toNat (by omega) (by omega) (by omega) t0 (by omega)

theorem nans3_grow (f a c d : Int) (b : Nat) (w : World) (h0 : 0 ≤ a) (h1 : a ≤ 4294967295) (g0 : 0 ≤ c) (g1 : c ≤ 4294967295) (k0 : 0 ≤ d) (k1 : d ≤ 4294967295) (hc : w.cell? ⟨b, 0, none⟩ = some (.int .u32 a)) (hd : w.cell? ⟨b, 1, none⟩ = some (.int .u32 c)) (he : w.cell? ⟨b, 2, none⟩ = some (.int .u32 d)) :
    Calls Try.prog 87 #[.int .i64 f, .slice (some ⟨b, 0, none⟩) 3 3] w fun e w' => e = .returned (.tuple #[.bool (nanB f a || nanB f c || nanB f d), .bool (sigB f a || sigB f c || sigB f d)]) ∧ Grown w w' :=
  (nans3_any f a c d b w h0 h1 g0 g1 k0 k1 hc hd he).mono fun _ _ ⟨h, m, hw⟩ => ⟨h, by rw [hw]; exact grown_drewN w m⟩
end Go.Proofs.Ytmipefapjehkaaa
