/- Contracts of the reference's wide numbers. -/
import Derived.Test.YtdaikgeellpolaaRows
import Derived.Test.YtdaikgeellpolaaRFmt
import Derived.Test.YtdaikgeellpolaaWorld
import Derived.Test.YtdaikgeellpolaaLimbs
import Derived.Lib.Hide
import Derived.Handy
namespace Go.Proofs.Ytdaikgeellpolaa
open Go.RowKit
set_option linter.unusedVariables false
set_option linter.unusedSimpArgs false

/-- One result, in memory. -/
theorem results_cell1 {fn : Func} {p : Tmp} {ty : TypeId} (h : fn.results = #[.cell p ty]) (tmps : Array Value) (P : Program) (w : World) :
    (results fn tmps).run P w = ((asAddr (tmps.getD p undef)).run P w).andThen fun a w₁ => (loadVar ty a).run P w₁ := by
  simp only [results, h]
  simp [Sem.run_bind, Result.andThen]

set_option maxRecDepth 100000 in
set_option maxHeartbeats 8000000 in
theorem spread_any (neg : Bool) (exp sig : Int) (w : World) (A B : Nat) (hA : A < 10) (hB : B < 64) (he : exp + 298 = 64 * A + B) (s0 : 0 ≤ sig) (s1 : sig ≤ 18446744073709551615) :
    Calls Try.prog 34 #[.bool neg, .int .i64 exp, .int .u64 sig] w fun e w' => e = .returned (wideV neg (sprN sig.toNat A B)) ∧ Grown w w' := by
  have hq : (exp + 298) / 64 = A := by omega
  have hr : (exp + 298) % 64 = B := by omega
  have hx0 : -298 ≤ exp := by omega
  have hx1 : exp ≤ 400 := by omega
  have L : Hid (∀ i, limb (sprN sig.toNat A B) i = if i = A then (if B = 0 then sig else IntKind.u64.wrap (sig * 2 ^ B)) else if i = A + 1 then (if B = 0 then 0 else sig / 2 ^ (64 - B)) else 0) := by
    intro i
    obtain ⟨S, rfl⟩ := Int.eq_ofNat_of_zero_le s0
    rw [Int.toNat_natCast]
    split
    · subst i
      rw [spr_at]
      split
      · subst B; simp; omega
      · rw [IntKind.wrap_u64, pow2_cast, ← Int.natCast_mul]; omega
    · split
      · subst i
        rw [spr_next S A B (by omega) hB]
        split
        · subst B; simp; omega
        · rw [spr_div S B (by omega) hB, pow2_cast, ← Int.natCast_ediv]
      · rcases Nat.lt_trichotomy i A with h | h | h
        · exact spr_low S A B i h
        · exact absurd h (by assumption)
        · exact spr_high S A B i (by omega) hB (by omega)
  clear he
  have hA' : A = 0 ∨ A = 1 ∨ A = 2 ∨ A = 3 ∨ A = 4 ∨ A = 5 ∨ A = 6 ∨ A = 7 ∨ A = 8 ∨ A = 9 := by omega
  clear hA
  rcases hA' with rfl | rfl | rfl | rfl | rfl | rfl | rfl | rfl | rfl | rfl
  all_goals
    rcases Nat.eq_zero_or_pos B with hB0 | hB0
    all_goals
      try subst hB0
      go_enter Try.func34, Try.ntmps34
      go_wp2
      (try simp only [Exit.inBlock, Exit.then])
      refine bodyPost_ret (v := wideV neg (sprN sig.toNat _ _)) ?_ rfl ⟨rfl, Grown.alloc (Grown.alloc (Grown.refl _) _ _) _ _⟩
      rw [results_cell1 rfl]
      unfold wideV
      go_simp
    all_goals
      have l := L.out
      simp [l]
      try omega
end Go.Proofs.Ytdaikgeellpolaa
