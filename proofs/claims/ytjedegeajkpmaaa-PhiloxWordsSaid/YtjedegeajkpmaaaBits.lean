/- Contracts of package bits: what each call comes to. -/
import Derived.Test.YtjedegeajkpmaaaRows
import Derived.Test.YtjedegeajkpmaaaMath
import Derived.WalkKit
import Derived.ProofKit
import Derived.Deep.QuietTactic
import Derived.BigQuiet
namespace Go.Proofs.Ytjedegeajkpmaaa
open Go.RowKit
set_option linter.unusedVariables false

set_option maxHeartbeats 400000 in
theorem cut_any (v n : Int) (w : World) (h0 : 0 ≤ v) (h1 : v ≤ 18446744073709551615) :
    Calls Try.prog 20 #[.int .u64 v, .int .i64 n] w fun e w' => e = .returned (.int .u64 (cutI v n)) ∧ w = w' := by
  by_cases c1 : n < 1
  · go_enter Try.func20, Try.ntmps20
    go_wp2
    go_ret
    exact ⟨ret_int (cut_low v n c1), rfl⟩
  · by_cases c2 : 63 < n
    · go_enter Try.func20, Try.ntmps20
      go_wp2
      go_ret
      exact ⟨ret_int (cut_high v n h0 h1 c2), rfl⟩
    · go_enter Try.func20, Try.ntmps20
      go_wp2
      go_ret
      exact ⟨ret_int (cut_mid v n h0 h1 (by omega)), rfl⟩

set_option maxHeartbeats 1000000 in
theorem len_any (v : Int) (w : World) (h0 : 0 ≤ v) (h1 : v ≤ 18446744073709551615) :
    Calls Try.prog 19 #[.int .u64 v] w fun e w' => e = .returned (.int .i64 (lenI v)) ∧ w = w' := by
  go_enter Try.func19, Try.ntmps19
  go_wp2
  go_loop [0, 3, 4] (fun x n s => ∃ X N S : Int, x = .int .u64 X ∧ n = .int .i64 N ∧ s = .int .i64 S ∧
      ((S = 32 ∧ LenAt v X N 18446744073709551616) ∨ (S = 16 ∧ LenAt v X N 4294967296) ∨ (S = 8 ∧ LenAt v X N 65536) ∨ (S = 4 ∧ LenAt v X N 256) ∨ (S = 2 ∧ LenAt v X N 16) ∨ (S = 1 ∧ LenAt v X N 4) ∨ (S = 0 ∧ LenAt v X N 2)))
    (fun _ _ s => (intOf s).toNat)
  case atStart => exact ⟨v, 0, 32, rfl, rfl, rfl, .inl ⟨rfl, lenAt_start v h0 h1⟩⟩
  case round =>
    obtain ⟨X, N, S, rfl, rfl, rfl, hS⟩ := hrel
    rcases hS with ⟨rfl, hL⟩ | ⟨rfl, hL⟩ | ⟨rfl, hL⟩ | ⟨rfl, hL⟩ | ⟨rfl, hL⟩ | ⟨rfl, hL⟩ | ⟨rfl, hL⟩
    all_goals
      obtain ⟨b0, b1, b2, b3⟩ := lenAt_bd hL h0 h1
      go_wp2
    all_goals first
      | (refine ⟨⟨_, _, _, rfl, rfl, rfl, ?_⟩, by simp [intOf]⟩
         first
          | exact .inr (.inl ⟨rfl, lenAt_y 4294967296 32 hL (by assumption) (by decide) (by decide) (by decide)⟩)
          | exact .inr (.inl ⟨rfl, lenAt_n 4294967296 hL (by assumption) (by decide)⟩)
          | exact .inr (.inr (.inl ⟨rfl, lenAt_y 65536 16 hL (by assumption) (by decide) (by decide) (by decide)⟩))
          | exact .inr (.inr (.inl ⟨rfl, lenAt_n 65536 hL (by assumption) (by decide)⟩))
          | exact .inr (.inr (.inr (.inl ⟨rfl, lenAt_y 256 8 hL (by assumption) (by decide) (by decide) (by decide)⟩)))
          | exact .inr (.inr (.inr (.inl ⟨rfl, lenAt_n 256 hL (by assumption) (by decide)⟩)))
          | exact .inr (.inr (.inr (.inr (.inl ⟨rfl, lenAt_y 16 4 hL (by assumption) (by decide) (by decide) (by decide)⟩))))
          | exact .inr (.inr (.inr (.inr (.inl ⟨rfl, lenAt_n 16 hL (by assumption) (by decide)⟩))))
          | exact .inr (.inr (.inr (.inr (.inr (.inl ⟨rfl, lenAt_y 4 2 hL (by assumption) (by decide) (by decide) (by decide)⟩)))))
          | exact .inr (.inr (.inr (.inr (.inr (.inl ⟨rfl, lenAt_n 4 hL (by assumption) (by decide)⟩)))))
          | exact .inr (.inr (.inr (.inr (.inr (.inr ⟨rfl, lenAt_y 2 1 hL (by assumption) (by decide) (by decide) (by decide)⟩)))))
          | exact .inr (.inr (.inr (.inr (.inr (.inr ⟨rfl, lenAt_n 2 hL (by assumption) (by decide)⟩))))))
      | (go_ret; exact ⟨ret_int (lenAt_end hL), rfl⟩)

end Go.Proofs.Ytjedegeajkpmaaa
