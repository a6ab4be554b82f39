/- Contracts of the reference's wide numbers: sums of like signs. (Written by gen4.py.) -/
import Derived.Test.YtheaeclojljecaaGreatRows
import Derived.Test.YtheaeclojljecaaGreatRFmt
import Derived.Test.YtheaeclojljecaaGreatWorld
import Derived.Test.YtheaeclojljecaaGreatWide
import Derived.Test.YtheaeclojljecaaGreatLimbs
import Derived.Lib.Hide
import Derived.Handy
import Derived.Deep.QuietTactic
import Derived.BigQuiet
namespace Go.Proofs.YtheaeclojljecaaGreat
open Go.RowKit
set_option linter.unusedVariables false
set_option linter.unusedSimpArgs false

def PlusRel (n m : Bool) (V W : Nat) (w0 : World) (c i : Value) (wr : World) : Prop :=
  ∃ k d : Nat, k ≤ 10 ∧ i = .int .i64 k ∧ c = .int .u64 (carN V W k) ∧ wr = (((w0.alloc (.cells (mixO n V (V + W) k) 77)).alloc (.cells (wideO m W) 77)).alloc (.cells nilO 77)).drewN d

set_option maxRecDepth 100000 in
set_option maxHeartbeats 8000000 in
theorem plus_like (n : Bool) (V W : Nat) (w : World) :
    Calls Tryz.prog 125 #[wideV n V, wideV n W] w fun e w' => e = .returned (wideV n (V + W)) ∧ Grown w w' := by
  unfold wideV
  have hnn : (n != n) = false := by simp
  go_enter Tryz.func125, Tryz.ntmps125
  go_wp2
  clear hnn
  go_loopw [5, 6, 7, 8] (fun c i s d wr => PlusRel n n V W w c i wr) (fun _ i _ _ _ => (10 - intOf i).toNat)
  case atStart => exact ⟨0, 0, by decide, rfl, by rw [car_zero], rfl⟩
  case round =>
    obtain ⟨k, d, hk, rfl, rfl, rfl⟩ := hrel
    have hk' : k = 0 ∨ k = 1 ∨ k = 2 ∨ k = 3 ∨ k = 4 ∨ k = 5 ∨ k = 6 ∨ k = 7 ∨ k = 8 ∨ k = 9 ∨ k = 10 := by omega
    clear hk
    rcases hk' with rfl | rfl | rfl | rfl | rfl | rfl | rfl | rfl | rfl | rfl | rfl
    · have HC := Lib.hid (plus_way _ _ _ _ _ (limb_bd V 0).1 (limb_bd V 0).2 (limb_bd W 0).1 (limb_bd W 0).2 (car_01 V W 0) (car_01 V W 1) (limb_bd (V + W) 0).1 (limb_bd (V + W) 0).2 (car_step V W 0))
      unfold mixO wideO nilO
      simp only [mixL]
      by_cases hs : IntKind.u64.wrap (limb V 0 + limb W 0) < limb V 0
      · have HS := Lib.hid hs
        go_wp2
        go_quiet (fail)
        go_wp2
        exact ⟨⟨1, _, by decide, rfl, is_u64 ((car_is HC.out.2 (car_01 V W 1)).1 (.inl HS.out)), round_world w n n V W (V + W) 0 77 _ _ (by decide) HC.out.1⟩, by simp [intOf]⟩
      · have HS := Lib.hid hs
        have hsb : decide (IntKind.u64.wrap (limb V 0 + limb W 0) < limb V 0) = false := decide_eq_false hs
        clear hs
        by_cases ht : IntKind.u64.wrap (IntKind.u64.wrap (limb V 0 + limb W 0) + carN V W 0) < IntKind.u64.wrap (limb V 0 + limb W 0)
        · have HT := Lib.hid ht
          have htb : decide (IntKind.u64.wrap (IntKind.u64.wrap (limb V 0 + limb W 0) + carN V W 0) < IntKind.u64.wrap (limb V 0 + limb W 0)) = true := decide_eq_true ht
          clear ht
          go_wp2
          go_quiet (fail)
          go_wp2
          exact ⟨⟨1, _, by decide, rfl, is_u64 ((car_is HC.out.2 (car_01 V W 1)).1 (.inr HT.out)), round_world w n n V W (V + W) 0 77 _ _ (by decide) HC.out.1⟩, by simp [intOf]⟩
        · have HT := Lib.hid ht
          have htb : decide (IntKind.u64.wrap (IntKind.u64.wrap (limb V 0 + limb W 0) + carN V W 0) < IntKind.u64.wrap (limb V 0 + limb W 0)) = false := decide_eq_false ht
          clear ht
          go_wp2
          go_quiet (fail)
          go_wp2
          exact ⟨⟨1, _, by decide, rfl, is_u64 ((car_is HC.out.2 (car_01 V W 1)).2 (fun h => h.elim (Int.not_lt.2 HS.out) (Int.not_lt.2 HT.out))), round_world w n n V W (V + W) 0 77 _ _ (by decide) HC.out.1⟩, by simp [intOf]⟩
    · have HC := Lib.hid (plus_way _ _ _ _ _ (limb_bd V 1).1 (limb_bd V 1).2 (limb_bd W 1).1 (limb_bd W 1).2 (car_01 V W 1) (car_01 V W 2) (limb_bd (V + W) 1).1 (limb_bd (V + W) 1).2 (car_step V W 1))
      unfold mixO wideO nilO
      simp only [mixL]
      by_cases hs : IntKind.u64.wrap (limb V 1 + limb W 1) < limb V 1
      · have HS := Lib.hid hs
        go_wp2
        go_quiet (fail)
        go_wp2
        exact ⟨⟨2, _, by decide, rfl, is_u64 ((car_is HC.out.2 (car_01 V W 2)).1 (.inl HS.out)), round_world w n n V W (V + W) 1 77 _ _ (by decide) HC.out.1⟩, by simp [intOf]⟩
      · have HS := Lib.hid hs
        have hsb : decide (IntKind.u64.wrap (limb V 1 + limb W 1) < limb V 1) = false := decide_eq_false hs
        clear hs
        by_cases ht : IntKind.u64.wrap (IntKind.u64.wrap (limb V 1 + limb W 1) + carN V W 1) < IntKind.u64.wrap (limb V 1 + limb W 1)
        · have HT := Lib.hid ht
          have htb : decide (IntKind.u64.wrap (IntKind.u64.wrap (limb V 1 + limb W 1) + carN V W 1) < IntKind.u64.wrap (limb V 1 + limb W 1)) = true := decide_eq_true ht
          clear ht
          go_wp2
          go_quiet (fail)
          go_wp2
          exact ⟨⟨2, _, by decide, rfl, is_u64 ((car_is HC.out.2 (car_01 V W 2)).1 (.inr HT.out)), round_world w n n V W (V + W) 1 77 _ _ (by decide) HC.out.1⟩, by simp [intOf]⟩
        · have HT := Lib.hid ht
          have htb : decide (IntKind.u64.wrap (IntKind.u64.wrap (limb V 1 + limb W 1) + carN V W 1) < IntKind.u64.wrap (limb V 1 + limb W 1)) = false := decide_eq_false ht
          clear ht
          go_wp2
          go_quiet (fail)
          go_wp2
          exact ⟨⟨2, _, by decide, rfl, is_u64 ((car_is HC.out.2 (car_01 V W 2)).2 (fun h => h.elim (Int.not_lt.2 HS.out) (Int.not_lt.2 HT.out))), round_world w n n V W (V + W) 1 77 _ _ (by decide) HC.out.1⟩, by simp [intOf]⟩
    · have HC := Lib.hid (plus_way _ _ _ _ _ (limb_bd V 2).1 (limb_bd V 2).2 (limb_bd W 2).1 (limb_bd W 2).2 (car_01 V W 2) (car_01 V W 3) (limb_bd (V + W) 2).1 (limb_bd (V + W) 2).2 (car_step V W 2))
      unfold mixO wideO nilO
      simp only [mixL]
      by_cases hs : IntKind.u64.wrap (limb V 2 + limb W 2) < limb V 2
      · have HS := Lib.hid hs
        go_wp2
        go_quiet (fail)
        go_wp2
        exact ⟨⟨3, _, by decide, rfl, is_u64 ((car_is HC.out.2 (car_01 V W 3)).1 (.inl HS.out)), round_world w n n V W (V + W) 2 77 _ _ (by decide) HC.out.1⟩, by simp [intOf]⟩
      · have HS := Lib.hid hs
        have hsb : decide (IntKind.u64.wrap (limb V 2 + limb W 2) < limb V 2) = false := decide_eq_false hs
        clear hs
        by_cases ht : IntKind.u64.wrap (IntKind.u64.wrap (limb V 2 + limb W 2) + carN V W 2) < IntKind.u64.wrap (limb V 2 + limb W 2)
        · have HT := Lib.hid ht
          have htb : decide (IntKind.u64.wrap (IntKind.u64.wrap (limb V 2 + limb W 2) + carN V W 2) < IntKind.u64.wrap (limb V 2 + limb W 2)) = true := decide_eq_true ht
          clear ht
          go_wp2
          go_quiet (fail)
          go_wp2
          exact ⟨⟨3, _, by decide, rfl, is_u64 ((car_is HC.out.2 (car_01 V W 3)).1 (.inr HT.out)), round_world w n n V W (V + W) 2 77 _ _ (by decide) HC.out.1⟩, by simp [intOf]⟩
        · have HT := Lib.hid ht
          have htb : decide (IntKind.u64.wrap (IntKind.u64.wrap (limb V 2 + limb W 2) + carN V W 2) < IntKind.u64.wrap (limb V 2 + limb W 2)) = false := decide_eq_false ht
          clear ht
          go_wp2
          go_quiet (fail)
          go_wp2
          exact ⟨⟨3, _, by decide, rfl, is_u64 ((car_is HC.out.2 (car_01 V W 3)).2 (fun h => h.elim (Int.not_lt.2 HS.out) (Int.not_lt.2 HT.out))), round_world w n n V W (V + W) 2 77 _ _ (by decide) HC.out.1⟩, by simp [intOf]⟩
    · have HC := Lib.hid (plus_way _ _ _ _ _ (limb_bd V 3).1 (limb_bd V 3).2 (limb_bd W 3).1 (limb_bd W 3).2 (car_01 V W 3) (car_01 V W 4) (limb_bd (V + W) 3).1 (limb_bd (V + W) 3).2 (car_step V W 3))
      unfold mixO wideO nilO
      simp only [mixL]
      by_cases hs : IntKind.u64.wrap (limb V 3 + limb W 3) < limb V 3
      · have HS := Lib.hid hs
        go_wp2
        go_quiet (fail)
        go_wp2
        exact ⟨⟨4, _, by decide, rfl, is_u64 ((car_is HC.out.2 (car_01 V W 4)).1 (.inl HS.out)), round_world w n n V W (V + W) 3 77 _ _ (by decide) HC.out.1⟩, by simp [intOf]⟩
      · have HS := Lib.hid hs
        have hsb : decide (IntKind.u64.wrap (limb V 3 + limb W 3) < limb V 3) = false := decide_eq_false hs
        clear hs
        by_cases ht : IntKind.u64.wrap (IntKind.u64.wrap (limb V 3 + limb W 3) + carN V W 3) < IntKind.u64.wrap (limb V 3 + limb W 3)
        · have HT := Lib.hid ht
          have htb : decide (IntKind.u64.wrap (IntKind.u64.wrap (limb V 3 + limb W 3) + carN V W 3) < IntKind.u64.wrap (limb V 3 + limb W 3)) = true := decide_eq_true ht
          clear ht
          go_wp2
          go_quiet (fail)
          go_wp2
          exact ⟨⟨4, _, by decide, rfl, is_u64 ((car_is HC.out.2 (car_01 V W 4)).1 (.inr HT.out)), round_world w n n V W (V + W) 3 77 _ _ (by decide) HC.out.1⟩, by simp [intOf]⟩
        · have HT := Lib.hid ht
          have htb : decide (IntKind.u64.wrap (IntKind.u64.wrap (limb V 3 + limb W 3) + carN V W 3) < IntKind.u64.wrap (limb V 3 + limb W 3)) = false := decide_eq_false ht
          clear ht
          go_wp2
          go_quiet (fail)
          go_wp2
          exact ⟨⟨4, _, by decide, rfl, is_u64 ((car_is HC.out.2 (car_01 V W 4)).2 (fun h => h.elim (Int.not_lt.2 HS.out) (Int.not_lt.2 HT.out))), round_world w n n V W (V + W) 3 77 _ _ (by decide) HC.out.1⟩, by simp [intOf]⟩
    · have HC := Lib.hid (plus_way _ _ _ _ _ (limb_bd V 4).1 (limb_bd V 4).2 (limb_bd W 4).1 (limb_bd W 4).2 (car_01 V W 4) (car_01 V W 5) (limb_bd (V + W) 4).1 (limb_bd (V + W) 4).2 (car_step V W 4))
      unfold mixO wideO nilO
      simp only [mixL]
      by_cases hs : IntKind.u64.wrap (limb V 4 + limb W 4) < limb V 4
      · have HS := Lib.hid hs
        go_wp2
        go_quiet (fail)
        go_wp2
        exact ⟨⟨5, _, by decide, rfl, is_u64 ((car_is HC.out.2 (car_01 V W 5)).1 (.inl HS.out)), round_world w n n V W (V + W) 4 77 _ _ (by decide) HC.out.1⟩, by simp [intOf]⟩
      · have HS := Lib.hid hs
        have hsb : decide (IntKind.u64.wrap (limb V 4 + limb W 4) < limb V 4) = false := decide_eq_false hs
        clear hs
        by_cases ht : IntKind.u64.wrap (IntKind.u64.wrap (limb V 4 + limb W 4) + carN V W 4) < IntKind.u64.wrap (limb V 4 + limb W 4)
        · have HT := Lib.hid ht
          have htb : decide (IntKind.u64.wrap (IntKind.u64.wrap (limb V 4 + limb W 4) + carN V W 4) < IntKind.u64.wrap (limb V 4 + limb W 4)) = true := decide_eq_true ht
          clear ht
          go_wp2
          go_quiet (fail)
          go_wp2
          exact ⟨⟨5, _, by decide, rfl, is_u64 ((car_is HC.out.2 (car_01 V W 5)).1 (.inr HT.out)), round_world w n n V W (V + W) 4 77 _ _ (by decide) HC.out.1⟩, by simp [intOf]⟩
        · have HT := Lib.hid ht
          have htb : decide (IntKind.u64.wrap (IntKind.u64.wrap (limb V 4 + limb W 4) + carN V W 4) < IntKind.u64.wrap (limb V 4 + limb W 4)) = false := decide_eq_false ht
          clear ht
          go_wp2
          go_quiet (fail)
          go_wp2
          exact ⟨⟨5, _, by decide, rfl, is_u64 ((car_is HC.out.2 (car_01 V W 5)).2 (fun h => h.elim (Int.not_lt.2 HS.out) (Int.not_lt.2 HT.out))), round_world w n n V W (V + W) 4 77 _ _ (by decide) HC.out.1⟩, by simp [intOf]⟩
    · have HC := Lib.hid (plus_way _ _ _ _ _ (limb_bd V 5).1 (limb_bd V 5).2 (limb_bd W 5).1 (limb_bd W 5).2 (car_01 V W 5) (car_01 V W 6) (limb_bd (V + W) 5).1 (limb_bd (V + W) 5).2 (car_step V W 5))
      unfold mixO wideO nilO
      simp only [mixL]
      by_cases hs : IntKind.u64.wrap (limb V 5 + limb W 5) < limb V 5
      · have HS := Lib.hid hs
        go_wp2
        go_quiet (fail)
        go_wp2
        exact ⟨⟨6, _, by decide, rfl, is_u64 ((car_is HC.out.2 (car_01 V W 6)).1 (.inl HS.out)), round_world w n n V W (V + W) 5 77 _ _ (by decide) HC.out.1⟩, by simp [intOf]⟩
      · have HS := Lib.hid hs
        have hsb : decide (IntKind.u64.wrap (limb V 5 + limb W 5) < limb V 5) = false := decide_eq_false hs
        clear hs
        by_cases ht : IntKind.u64.wrap (IntKind.u64.wrap (limb V 5 + limb W 5) + carN V W 5) < IntKind.u64.wrap (limb V 5 + limb W 5)
        · have HT := Lib.hid ht
          have htb : decide (IntKind.u64.wrap (IntKind.u64.wrap (limb V 5 + limb W 5) + carN V W 5) < IntKind.u64.wrap (limb V 5 + limb W 5)) = true := decide_eq_true ht
          clear ht
          go_wp2
          go_quiet (fail)
          go_wp2
          exact ⟨⟨6, _, by decide, rfl, is_u64 ((car_is HC.out.2 (car_01 V W 6)).1 (.inr HT.out)), round_world w n n V W (V + W) 5 77 _ _ (by decide) HC.out.1⟩, by simp [intOf]⟩
        · have HT := Lib.hid ht
          have htb : decide (IntKind.u64.wrap (IntKind.u64.wrap (limb V 5 + limb W 5) + carN V W 5) < IntKind.u64.wrap (limb V 5 + limb W 5)) = false := decide_eq_false ht
          clear ht
          go_wp2
          go_quiet (fail)
          go_wp2
          exact ⟨⟨6, _, by decide, rfl, is_u64 ((car_is HC.out.2 (car_01 V W 6)).2 (fun h => h.elim (Int.not_lt.2 HS.out) (Int.not_lt.2 HT.out))), round_world w n n V W (V + W) 5 77 _ _ (by decide) HC.out.1⟩, by simp [intOf]⟩
    · have HC := Lib.hid (plus_way _ _ _ _ _ (limb_bd V 6).1 (limb_bd V 6).2 (limb_bd W 6).1 (limb_bd W 6).2 (car_01 V W 6) (car_01 V W 7) (limb_bd (V + W) 6).1 (limb_bd (V + W) 6).2 (car_step V W 6))
      unfold mixO wideO nilO
      simp only [mixL]
      by_cases hs : IntKind.u64.wrap (limb V 6 + limb W 6) < limb V 6
      · have HS := Lib.hid hs
        go_wp2
        go_quiet (fail)
        go_wp2
        exact ⟨⟨7, _, by decide, rfl, is_u64 ((car_is HC.out.2 (car_01 V W 7)).1 (.inl HS.out)), round_world w n n V W (V + W) 6 77 _ _ (by decide) HC.out.1⟩, by simp [intOf]⟩
      · have HS := Lib.hid hs
        have hsb : decide (IntKind.u64.wrap (limb V 6 + limb W 6) < limb V 6) = false := decide_eq_false hs
        clear hs
        by_cases ht : IntKind.u64.wrap (IntKind.u64.wrap (limb V 6 + limb W 6) + carN V W 6) < IntKind.u64.wrap (limb V 6 + limb W 6)
        · have HT := Lib.hid ht
          have htb : decide (IntKind.u64.wrap (IntKind.u64.wrap (limb V 6 + limb W 6) + carN V W 6) < IntKind.u64.wrap (limb V 6 + limb W 6)) = true := decide_eq_true ht
          clear ht
          go_wp2
          go_quiet (fail)
          go_wp2
          exact ⟨⟨7, _, by decide, rfl, is_u64 ((car_is HC.out.2 (car_01 V W 7)).1 (.inr HT.out)), round_world w n n V W (V + W) 6 77 _ _ (by decide) HC.out.1⟩, by simp [intOf]⟩
        · have HT := Lib.hid ht
          have htb : decide (IntKind.u64.wrap (IntKind.u64.wrap (limb V 6 + limb W 6) + carN V W 6) < IntKind.u64.wrap (limb V 6 + limb W 6)) = false := decide_eq_false ht
          clear ht
          go_wp2
          go_quiet (fail)
          go_wp2
          exact ⟨⟨7, _, by decide, rfl, is_u64 ((car_is HC.out.2 (car_01 V W 7)).2 (fun h => h.elim (Int.not_lt.2 HS.out) (Int.not_lt.2 HT.out))), round_world w n n V W (V + W) 6 77 _ _ (by decide) HC.out.1⟩, by simp [intOf]⟩
    · have HC := Lib.hid (plus_way _ _ _ _ _ (limb_bd V 7).1 (limb_bd V 7).2 (limb_bd W 7).1 (limb_bd W 7).2 (car_01 V W 7) (car_01 V W 8) (limb_bd (V + W) 7).1 (limb_bd (V + W) 7).2 (car_step V W 7))
      unfold mixO wideO nilO
      simp only [mixL]
      by_cases hs : IntKind.u64.wrap (limb V 7 + limb W 7) < limb V 7
      · have HS := Lib.hid hs
        go_wp2
        go_quiet (fail)
        go_wp2
        exact ⟨⟨8, _, by decide, rfl, is_u64 ((car_is HC.out.2 (car_01 V W 8)).1 (.inl HS.out)), round_world w n n V W (V + W) 7 77 _ _ (by decide) HC.out.1⟩, by simp [intOf]⟩
      · have HS := Lib.hid hs
        have hsb : decide (IntKind.u64.wrap (limb V 7 + limb W 7) < limb V 7) = false := decide_eq_false hs
        clear hs
        by_cases ht : IntKind.u64.wrap (IntKind.u64.wrap (limb V 7 + limb W 7) + carN V W 7) < IntKind.u64.wrap (limb V 7 + limb W 7)
        · have HT := Lib.hid ht
          have htb : decide (IntKind.u64.wrap (IntKind.u64.wrap (limb V 7 + limb W 7) + carN V W 7) < IntKind.u64.wrap (limb V 7 + limb W 7)) = true := decide_eq_true ht
          clear ht
          go_wp2
          go_quiet (fail)
          go_wp2
          exact ⟨⟨8, _, by decide, rfl, is_u64 ((car_is HC.out.2 (car_01 V W 8)).1 (.inr HT.out)), round_world w n n V W (V + W) 7 77 _ _ (by decide) HC.out.1⟩, by simp [intOf]⟩
        · have HT := Lib.hid ht
          have htb : decide (IntKind.u64.wrap (IntKind.u64.wrap (limb V 7 + limb W 7) + carN V W 7) < IntKind.u64.wrap (limb V 7 + limb W 7)) = false := decide_eq_false ht
          clear ht
          go_wp2
          go_quiet (fail)
          go_wp2
          exact ⟨⟨8, _, by decide, rfl, is_u64 ((car_is HC.out.2 (car_01 V W 8)).2 (fun h => h.elim (Int.not_lt.2 HS.out) (Int.not_lt.2 HT.out))), round_world w n n V W (V + W) 7 77 _ _ (by decide) HC.out.1⟩, by simp [intOf]⟩
    · have HC := Lib.hid (plus_way _ _ _ _ _ (limb_bd V 8).1 (limb_bd V 8).2 (limb_bd W 8).1 (limb_bd W 8).2 (car_01 V W 8) (car_01 V W 9) (limb_bd (V + W) 8).1 (limb_bd (V + W) 8).2 (car_step V W 8))
      unfold mixO wideO nilO
      simp only [mixL]
      by_cases hs : IntKind.u64.wrap (limb V 8 + limb W 8) < limb V 8
      · have HS := Lib.hid hs
        go_wp2
        go_quiet (fail)
        go_wp2
        exact ⟨⟨9, _, by decide, rfl, is_u64 ((car_is HC.out.2 (car_01 V W 9)).1 (.inl HS.out)), round_world w n n V W (V + W) 8 77 _ _ (by decide) HC.out.1⟩, by simp [intOf]⟩
      · have HS := Lib.hid hs
        have hsb : decide (IntKind.u64.wrap (limb V 8 + limb W 8) < limb V 8) = false := decide_eq_false hs
        clear hs
        by_cases ht : IntKind.u64.wrap (IntKind.u64.wrap (limb V 8 + limb W 8) + carN V W 8) < IntKind.u64.wrap (limb V 8 + limb W 8)
        · have HT := Lib.hid ht
          have htb : decide (IntKind.u64.wrap (IntKind.u64.wrap (limb V 8 + limb W 8) + carN V W 8) < IntKind.u64.wrap (limb V 8 + limb W 8)) = true := decide_eq_true ht
          clear ht
          go_wp2
          go_quiet (fail)
          go_wp2
          exact ⟨⟨9, _, by decide, rfl, is_u64 ((car_is HC.out.2 (car_01 V W 9)).1 (.inr HT.out)), round_world w n n V W (V + W) 8 77 _ _ (by decide) HC.out.1⟩, by simp [intOf]⟩
        · have HT := Lib.hid ht
          have htb : decide (IntKind.u64.wrap (IntKind.u64.wrap (limb V 8 + limb W 8) + carN V W 8) < IntKind.u64.wrap (limb V 8 + limb W 8)) = false := decide_eq_false ht
          clear ht
          go_wp2
          go_quiet (fail)
          go_wp2
          exact ⟨⟨9, _, by decide, rfl, is_u64 ((car_is HC.out.2 (car_01 V W 9)).2 (fun h => h.elim (Int.not_lt.2 HS.out) (Int.not_lt.2 HT.out))), round_world w n n V W (V + W) 8 77 _ _ (by decide) HC.out.1⟩, by simp [intOf]⟩
    · have HC := Lib.hid (plus_way _ _ _ _ _ (limb_bd V 9).1 (limb_bd V 9).2 (limb_bd W 9).1 (limb_bd W 9).2 (car_01 V W 9) (car_01 V W 10) (limb_bd (V + W) 9).1 (limb_bd (V + W) 9).2 (car_step V W 9))
      unfold mixO wideO nilO
      simp only [mixL]
      by_cases hs : IntKind.u64.wrap (limb V 9 + limb W 9) < limb V 9
      · have HS := Lib.hid hs
        go_wp2
        go_quiet (fail)
        go_wp2
        exact ⟨⟨10, _, by decide, rfl, is_u64 ((car_is HC.out.2 (car_01 V W 10)).1 (.inl HS.out)), round_world w n n V W (V + W) 9 77 _ _ (by decide) HC.out.1⟩, by simp [intOf]⟩
      · have HS := Lib.hid hs
        have hsb : decide (IntKind.u64.wrap (limb V 9 + limb W 9) < limb V 9) = false := decide_eq_false hs
        clear hs
        by_cases ht : IntKind.u64.wrap (IntKind.u64.wrap (limb V 9 + limb W 9) + carN V W 9) < IntKind.u64.wrap (limb V 9 + limb W 9)
        · have HT := Lib.hid ht
          have htb : decide (IntKind.u64.wrap (IntKind.u64.wrap (limb V 9 + limb W 9) + carN V W 9) < IntKind.u64.wrap (limb V 9 + limb W 9)) = true := decide_eq_true ht
          clear ht
          go_wp2
          go_quiet (fail)
          go_wp2
          exact ⟨⟨10, _, by decide, rfl, is_u64 ((car_is HC.out.2 (car_01 V W 10)).1 (.inr HT.out)), round_world w n n V W (V + W) 9 77 _ _ (by decide) HC.out.1⟩, by simp [intOf]⟩
        · have HT := Lib.hid ht
          have htb : decide (IntKind.u64.wrap (IntKind.u64.wrap (limb V 9 + limb W 9) + carN V W 9) < IntKind.u64.wrap (limb V 9 + limb W 9)) = false := decide_eq_false ht
          clear ht
          go_wp2
          go_quiet (fail)
          go_wp2
          exact ⟨⟨10, _, by decide, rfl, is_u64 ((car_is HC.out.2 (car_01 V W 10)).2 (fun h => h.elim (Int.not_lt.2 HS.out) (Int.not_lt.2 HT.out))), round_world w n n V W (V + W) 9 77 _ _ (by decide) HC.out.1⟩, by simp [intOf]⟩
    · unfold mixO wideO nilO
      simp only [mixL]
      go_wp2
      (try simp only [Exit.inBlock, Exit.then])
      refine bodyPost_ret (v := wideV n (V + W)) ?_ rfl ⟨rfl, ?_⟩
      · rw [results_one rfl]
        unfold wideV
        go_simp
      · repeat refine Grown.setCell ?_ (by simp <;> omega) _
        exact grown_more (Grown.alloc (Grown.alloc (Grown.alloc (Grown.refl _) _ _) _ _) _ _) _
end Go.Proofs.YtheaeclojljecaaGreat
