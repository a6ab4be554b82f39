/- Contracts of package bits: what each call comes to. -/
import Derived.Test.YtheaeclojljecaaRows
import Derived.Test.YtheaeclojljecaaMath
import Derived.WalkKit
import Derived.ProofKit
import Derived.Deep.QuietTactic
import Derived.BigQuiet
namespace Go.Proofs.Ytheaeclojljecaa
open Go.RowKit
set_option linter.unusedVariables false

set_option maxHeartbeats 400000 in
theorem cut_any (v n : Int) (w : World) (h0 : 0 ≤ v) (h1 : v ≤ 18446744073709551615) :
    Calls Try.prog 92 #[.int .u64 v, .int .i64 n] w fun e w' => e = .returned (.int .u64 (cutI v n)) ∧ w = w' := by
  by_cases c1 : n < 1
  · go_enter Try.func92, Try.ntmps92
    go_wp2
    go_ret
    exact ⟨ret_int (cut_low v n c1), rfl⟩
  · by_cases c2 : 63 < n
    · go_enter Try.func92, Try.ntmps92
      go_wp2
      go_ret
      exact ⟨ret_int (cut_high v n h0 h1 c2), rfl⟩
    · go_enter Try.func92, Try.ntmps92
      go_wp2
      go_ret
      exact ⟨ret_int (cut_mid v n h0 h1 (by omega)), rfl⟩

set_option maxHeartbeats 400000 in
theorem shift_any (v n : Int) (w : World) (h0 : 0 ≤ v) (h1 : v ≤ 18446744073709551615) (n0 : -9223372036854775808 ≤ n) (n1 : n ≤ 9223372036854775807) :
    Calls Try.prog 73 #[.int .u64 v, .int .i64 n] w fun e w' => e = .returned (.tuple #[.int .u64 (shV v n), .bool (shO v n)]) ∧ ∃ m, w' = w.drewN m := by
  by_cases c1 : n ≤ -64
  · go_enter Try.func73, Try.ntmps73
    go_wp2
    go_ret2
    exact ⟨ret_vb (sh_far_v v n h0 h1 (.inl c1)) (sh_far_o v n h0 h1 (.inl c1)), 0, rfl⟩
  · by_cases c2 : 64 ≤ n
    · go_enter Try.func73, Try.ntmps73
      go_wp2
      go_ret2
      exact ⟨ret_vb (sh_far_v v n h0 h1 (.inr c2)) (sh_far_o v n h0 h1 (.inr c2)), 0, rfl⟩
    · by_cases c3 : n < 0
      · go_enter Try.func73, Try.ntmps73
        go_wp2
        go_quiet (fail)
        go_wp2
        go_ret2
        exact ⟨ret_vb (sh_left_v' v n c3) (sh_left_o' v n h0 c3 (by omega)), _, rfl⟩
      · go_enter Try.func73, Try.ntmps73
        go_wp2
        go_quiet ((go_at_call 92; exact quiet_same (cut_any _ _ _ h0 h1)))
        go_wp2
        go_ret2
        exact ⟨ret_vb (sh_right_v v n (by omega)) (sh_right_o v n (by omega)), _, rfl⟩

set_option maxHeartbeats 1000000 in
theorem len_any (v : Int) (w : World) (h0 : 0 ≤ v) (h1 : v ≤ 18446744073709551615) :
    Calls Try.prog 95 #[.int .u64 v] w fun e w' => e = .returned (.int .i64 (lenI v)) ∧ w = w' := by
  go_enter Try.func95, Try.ntmps95
  go_wp2
  go_loop [0, 3, 4] (fun x n s => ∃ X N S : Int, x = .int .u64 X ∧ n = .int .i64 N ∧ s = .int .i64 S ∧
      ((S = 32 ∧ LenAt v X N 18446744073709551616) ∨ (S = 16 ∧ LenAt v X N 4294967296) ∨ (S = 8 ∧ LenAt v X N 65536) ∨ (S = 4 ∧ LenAt v X N 256) ∨ (S = 2 ∧ LenAt v X N 16) ∨ (S = 1 ∧ LenAt v X N 4) ∨ (S = 0 ∧ LenAt v X N 2)))
    (fun _ _ s => (intOf s).toNat)
  case atStart => exact ⟨v, 0, 32, rfl, rfl, rfl, .inl ⟨rfl, lenAt_start v h0 h1⟩⟩
  case round =>
    obtain ⟨X, N, S, rfl, rfl, rfl, hS⟩ := hrel
    rcases hS with ⟨rfl, hL⟩ | ⟨rfl, hL⟩ | ⟨rfl, hL⟩ | ⟨rfl, hL⟩ | ⟨rfl, hL⟩ | ⟨rfl, hL⟩ | ⟨rfl, hL⟩
    all_goals
      obtain ⟨b0, b1, b2, b3⟩ := lenAt_bd hL h0 h1
      go_wp2
    all_goals first
      | (refine ⟨⟨_, _, _, rfl, rfl, rfl, ?_⟩, by simp [intOf]⟩
         first
          | exact .inr (.inl ⟨rfl, lenAt_y 4294967296 32 hL (by assumption) (by decide) (by decide) (by decide)⟩)
          | exact .inr (.inl ⟨rfl, lenAt_n 4294967296 hL (by assumption) (by decide)⟩)
          | exact .inr (.inr (.inl ⟨rfl, lenAt_y 65536 16 hL (by assumption) (by decide) (by decide) (by decide)⟩))
          | exact .inr (.inr (.inl ⟨rfl, lenAt_n 65536 hL (by assumption) (by decide)⟩))
          | exact .inr (.inr (.inr (.inl ⟨rfl, lenAt_y 256 8 hL (by assumption) (by decide) (by decide) (by decide)⟩)))
          | exact .inr (.inr (.inr (.inl ⟨rfl, lenAt_n 256 hL (by assumption) (by decide)⟩)))
          | exact .inr (.inr (.inr (.inr (.inl ⟨rfl, lenAt_y 16 4 hL (by assumption) (by decide) (by decide) (by decide)⟩))))
          | exact .inr (.inr (.inr (.inr (.inl ⟨rfl, lenAt_n 16 hL (by assumption) (by decide)⟩))))
          | exact .inr (.inr (.inr (.inr (.inr (.inl ⟨rfl, lenAt_y 4 2 hL (by assumption) (by decide) (by decide) (by decide)⟩)))))
          | exact .inr (.inr (.inr (.inr (.inr (.inl ⟨rfl, lenAt_n 4 hL (by assumption) (by decide)⟩)))))
          | exact .inr (.inr (.inr (.inr (.inr (.inr ⟨rfl, lenAt_y 2 1 hL (by assumption) (by decide) (by decide) (by decide)⟩)))))
          | exact .inr (.inr (.inr (.inr (.inr (.inr ⟨rfl, lenAt_n 2 hL (by assumption) (by decide)⟩))))))
      | (go_ret; exact ⟨ret_int (lenAt_end hL), rfl⟩)

end Go.Proofs.Ytheaeclojljecaa
