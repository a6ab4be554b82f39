/- Contracts of the references of package bits: what each call comes to. -/
import Derived.Test.YtheaeclojljecaaGreatRows
import Derived.Test.YtheaeclojljecaaGreatMath
import Derived.WalkKit
import Derived.ProofKit
import Derived.Deep.QuietTactic
import Derived.BigQuiet
import Derived.Lib.Hide
namespace Go.Proofs.YtheaeclojljecaaGreat
open Go.RowKit
set_option linter.unusedVariables false

set_option maxHeartbeats 400000 in
theorem rlen_any (v : Int) (w : World) (h0 : 0 ≤ v) (h1 : v ≤ 18446744073709551615) :
    Calls Tryz.prog 109 #[.int .u64 v] w fun e w' => e = .returned (.int .i64 (lenI v)) ∧ w = w' := by
  go_enter Tryz.func109, Tryz.ntmps109
  go_wp2
  go_loop [0, 3] (fun x n => ∃ X N : Int, x = .int .u64 X ∧ n = .int .i64 N ∧ LenAt v X N 18446744073709551616) (fun x _ => (intOf x).toNat)
  case atStart => exact ⟨v, 0, rfl, rfl, lenAt_start v h0 h1⟩
  case round =>
    obtain ⟨X, N, rfl, rfl, hL⟩ := hrel
    obtain ⟨b0, b1, b2, b3⟩ := lenAt_bd hL h0 h1
    by_cases c : X = 0
    · subst c
      go_wp2
      go_ret
      exact ⟨ret_int (by have := hL.2.2.2; rw [len_zero] at this; omega), rfl⟩
    · go_wp2
      exact ⟨⟨_, _, rfl, rfl, lenAt_half hL (by omega)⟩, by simp [intOf]; omega⟩

set_option maxHeartbeats 400000 in
theorem rshift_any (v n : Int) (w : World) (h0 : 0 ≤ v) (h1 : v ≤ 18446744073709551615) (n0 : -9223372036854775808 ≤ n) (n1 : n ≤ 9223372036854775807) :
    Calls Tryz.prog 124 #[.int .u64 v, .int .i64 n] w fun e w' => e = .returned (.tuple #[.int .u64 (shV v n), .bool (shO v n)]) ∧ w = w' := by
  by_cases c : n < 0
  · by_cases c2 : n < -64
    all_goals
      go_enter Tryz.func124, Tryz.ntmps124
      go_wp2
      go_loop [0, 1, 6] (fun x k o => ∃ M : Int, -64 ≤ M ∧ M < 0 ∧ x = .int .u64 v ∧ k = .int .i64 M ∧ o = .bool false ∧ Alike v n M) (fun _ _ _ => 0)
      case atStart => first | exact ⟨_, by omega, by omega, rfl, rfl, rfl, alike_same v n⟩ | exact ⟨_, by omega, by omega, rfl, rfl, rfl, alike_far v n (-64) h0 h1 (by omega) (by omega)⟩
      case round =>
        obtain ⟨M, m0, m1, rfl, rfl, rfl, hM⟩ := hrel
        go_wp2
        go_loop [0, 1, 6] (fun x k o => ∃ X K : Int, ∃ O : Bool, x = .int .u64 X ∧ k = .int .i64 K ∧ o = .bool O ∧ -64 ≤ K ∧ K ≤ 0 ∧ LeftRel v n M K X O) (fun _ k _ => (-(intOf k)).toNat)
        case atStart => exact ⟨_, _, _, rfl, rfl, rfl, by omega, by omega, leftRel_start hM m1 h0 h1⟩
        case round =>
          obtain ⟨X, K, O, rfl, rfl, rfl, k0, k1, hR⟩ := hrel
          obtain ⟨x0, x1⟩ := leftRel_bd hR
          by_cases ck : K < 0
          · cases O
            all_goals
              go_wp2
              exact ⟨⟨_, _, _, rfl, rfl, rfl, by omega, by omega, leftRel_step hR h0 _ (by simp)⟩, by simp [intOf]; omega⟩
          · go_wp2
            go_ret2
            obtain ⟨e1, e2⟩ := leftRel_end hR (by omega)
            exact ⟨ret_vb e1 e2, rfl⟩
  · by_cases c2 : 64 < n
    all_goals
      go_enter Tryz.func124, Tryz.ntmps124
      go_wp2
      go_loop [0, 1, 6] (fun x k o => ∃ M X K : Int, ∃ O : Bool, x = .int .u64 X ∧ k = .int .i64 K ∧ o = .bool O ∧ 0 ≤ K ∧ K ≤ 64 ∧ RightRel v n M K X O) (fun _ k _ => (intOf k).toNat)
      case atStart => first | exact ⟨_, _, _, _, rfl, rfl, rfl, by omega, by omega, rightRel_start (alike_same v n) (by omega)⟩ | exact ⟨_, _, _, _, rfl, rfl, rfl, by omega, by omega, rightRel_start (alike_far v n 64 h0 h1 (by omega) (by omega)) (by omega)⟩
      case round =>
        obtain ⟨M, X, K, O, rfl, rfl, rfl, k0, k1, hR⟩ := hrel
        obtain ⟨x0, x1⟩ := rightRel_bd hR h0 h1
        have ha := and_one X x0 x1
        by_cases ck : 0 < K
        · cases O
          all_goals
            go_wp2
            exact ⟨⟨_, _, _, _, rfl, rfl, rfl, by omega, by omega, rightRel_step hR _ (by simp)⟩, by simp [intOf]; omega⟩
        · have hK : K = 0 := by omega
          subst hK
          obtain ⟨e1, e2⟩ := rightRel_end hR rfl
          have E1 := Lib.hid e1
          have E2 := Lib.hid e2
          clear e1 e2 ha
          go_wp2
          go_loop [0, 1, 6] (fun x k o => x = .int .u64 X ∧ k = .int .i64 0 ∧ o = .bool O) (fun _ _ _ => 0)
          case atStart => exact ⟨rfl, rfl, rfl⟩
          case round =>
            obtain ⟨rfl, rfl, rfl⟩ := hrel
            go_wp2
            go_ret2
            exact ⟨ret_vb E1.out E2.out, rfl⟩
end Go.Proofs.YtheaeclojljecaaGreat
