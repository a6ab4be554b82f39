/- Contracts of the reference's wide numbers: differences, the greater one ahead. (Written by gen4.py.) Contracts of the reference's wide numbers: rounded. -/
import Derived.Test.YtheaeclojljecaaGreatRows
import Derived.Test.YtheaeclojljecaaGreatRFmt
import Derived.Test.YtheaeclojljecaaGreatWorld
import Derived.Test.YtheaeclojljecaaGreatWideE
import Derived.Test.YtheaeclojljecaaGreatLimbs
import Derived.Lib.Hide
import Derived.Handy
import Derived.Deep.QuietTactic
import Derived.BigQuiet
import Derived.Test.YtheaeclojljecaaGreatRRdT
namespace Go.Proofs.YtheaeclojljecaaGreat
open Go.RowKit
set_option linter.unusedVariables false
set_option linter.unusedSimpArgs false

set_option maxRecDepth 100000 in
set_option maxHeartbeats 8000000 in
theorem minus_down (n m : Bool) (V W D : Nat) (w : World) (hD : W + D = V) (hlt : ¬ V < W) (hV : V < 2 ^ (64 * 10)) (hW : W < 2 ^ (64 * 10)) :
    Calls Tryz.prog 146 #[wideV n V, wideV m W] w fun e w' => e = .returned (wideV n D) ∧ Grown w w' := by
  have HD := Lib.hid hD
  have HV := Lib.hid hV
  have HW := Lib.hid hW
  have hsd := set_drewN
  clear hD hV hW
  unfold wideV
  go_enter Tryz.func146, Tryz.ntmps146
  go_wp2_with (go_at_call 149; refine (below_is n m V W _ HV.out HW.out).mono ?_; rintro e w' ⟨rfl, g, rfl⟩)
  clear hsd
  go_loopw [5, 6, 7, 8, 9] (fun c i s d b wr => MinusRel n m V W D (wideO n V) (wideO m W) w c i wr) (fun _ i _ _ _ _ => (10 - intOf i).toNat)
  case atStart => exact ⟨0, g, by decide, rfl, by rw [car_zero], rfl⟩
  case round =>
    obtain ⟨k, d, hk, rfl, rfl, rfl⟩ := hrel
    clear hlt
    have hk' : k = 0 ∨ k = 1 ∨ k = 2 ∨ k = 3 ∨ k = 4 ∨ k = 5 ∨ k = 6 ∨ k = 7 ∨ k = 8 ∨ k = 9 ∨ k = 10 := by omega
    clear hk
    rcases hk' with rfl | rfl | rfl | rfl | rfl | rfl | rfl | rfl | rfl | rfl | rfl
    · have HC := Lib.hid (minus_way (limb V 0) (limb W 0) (carN W D 0) (limb D 0) (carN W D 1) (limb_bd V 0).1 (limb_bd V 0).2 (limb_bd W 0).1 (limb_bd W 0).2 (car_01 W D 0) (car_01 W D 1) (limb_bd D 0).1 (limb_bd D 0).2 (by have e := car_step W D 0; rw [HD.out] at e; exact e))
      unfold mixO wideO nilO
      simp only [mixL]
      by_cases hs : limb V 0 < limb W 0
      · have HS := Lib.hid hs
        go_wp2
        go_quiet (fail)
        go_wp2
        go_quiet (fail)
        go_wp2
        exact ⟨⟨1, _, by decide, rfl, is_u64 ((car_is HC.out.2 (car_01 W D 1)).1 (.inl HS.out)), round_world5 w n m V W D 0 (wideO n V) (wideO m W) 77 _ _ (by decide) HC.out.1⟩, by simp [intOf]⟩
      · have HS := Lib.hid hs
        have hsb : decide (limb V 0 < limb W 0) = false := decide_eq_false hs
        clear hs
        by_cases ht : IntKind.u64.wrap (limb V 0 - limb W 0) < carN W D 0
        · have HT := Lib.hid ht
          have htb : decide (IntKind.u64.wrap (limb V 0 - limb W 0) < carN W D 0) = true := decide_eq_true ht
          clear ht
          go_wp2
          go_quiet (fail)
          go_wp2
          go_quiet (fail)
          go_wp2
          exact ⟨⟨1, _, by decide, rfl, is_u64 ((car_is HC.out.2 (car_01 W D 1)).1 (.inr HT.out)), round_world5 w n m V W D 0 (wideO n V) (wideO m W) 77 _ _ (by decide) HC.out.1⟩, by simp [intOf]⟩
        · have HT := Lib.hid ht
          have htb : decide (IntKind.u64.wrap (limb V 0 - limb W 0) < carN W D 0) = false := decide_eq_false ht
          clear ht
          go_wp2
          go_quiet (fail)
          go_wp2
          go_quiet (fail)
          go_wp2
          exact ⟨⟨1, _, by decide, rfl, is_u64 ((car_is HC.out.2 (car_01 W D 1)).2 (fun h => h.elim (Int.not_lt.2 HS.out) (Int.not_lt.2 HT.out))), round_world5 w n m V W D 0 (wideO n V) (wideO m W) 77 _ _ (by decide) HC.out.1⟩, by simp [intOf]⟩
    · have HC := Lib.hid (minus_way (limb V 1) (limb W 1) (carN W D 1) (limb D 1) (carN W D 2) (limb_bd V 1).1 (limb_bd V 1).2 (limb_bd W 1).1 (limb_bd W 1).2 (car_01 W D 1) (car_01 W D 2) (limb_bd D 1).1 (limb_bd D 1).2 (by have e := car_step W D 1; rw [HD.out] at e; exact e))
      unfold mixO wideO nilO
      simp only [mixL]
      by_cases hs : limb V 1 < limb W 1
      · have HS := Lib.hid hs
        go_wp2
        go_quiet (fail)
        go_wp2
        go_quiet (fail)
        go_wp2
        exact ⟨⟨2, _, by decide, rfl, is_u64 ((car_is HC.out.2 (car_01 W D 2)).1 (.inl HS.out)), round_world5 w n m V W D 1 (wideO n V) (wideO m W) 77 _ _ (by decide) HC.out.1⟩, by simp [intOf]⟩
      · have HS := Lib.hid hs
        have hsb : decide (limb V 1 < limb W 1) = false := decide_eq_false hs
        clear hs
        by_cases ht : IntKind.u64.wrap (limb V 1 - limb W 1) < carN W D 1
        · have HT := Lib.hid ht
          have htb : decide (IntKind.u64.wrap (limb V 1 - limb W 1) < carN W D 1) = true := decide_eq_true ht
          clear ht
          go_wp2
          go_quiet (fail)
          go_wp2
          go_quiet (fail)
          go_wp2
          exact ⟨⟨2, _, by decide, rfl, is_u64 ((car_is HC.out.2 (car_01 W D 2)).1 (.inr HT.out)), round_world5 w n m V W D 1 (wideO n V) (wideO m W) 77 _ _ (by decide) HC.out.1⟩, by simp [intOf]⟩
        · have HT := Lib.hid ht
          have htb : decide (IntKind.u64.wrap (limb V 1 - limb W 1) < carN W D 1) = false := decide_eq_false ht
          clear ht
          go_wp2
          go_quiet (fail)
          go_wp2
          go_quiet (fail)
          go_wp2
          exact ⟨⟨2, _, by decide, rfl, is_u64 ((car_is HC.out.2 (car_01 W D 2)).2 (fun h => h.elim (Int.not_lt.2 HS.out) (Int.not_lt.2 HT.out))), round_world5 w n m V W D 1 (wideO n V) (wideO m W) 77 _ _ (by decide) HC.out.1⟩, by simp [intOf]⟩
    · have HC := Lib.hid (minus_way (limb V 2) (limb W 2) (carN W D 2) (limb D 2) (carN W D 3) (limb_bd V 2).1 (limb_bd V 2).2 (limb_bd W 2).1 (limb_bd W 2).2 (car_01 W D 2) (car_01 W D 3) (limb_bd D 2).1 (limb_bd D 2).2 (by have e := car_step W D 2; rw [HD.out] at e; exact e))
      unfold mixO wideO nilO
      simp only [mixL]
      by_cases hs : limb V 2 < limb W 2
      · have HS := Lib.hid hs
        go_wp2
        go_quiet (fail)
        go_wp2
        go_quiet (fail)
        go_wp2
        exact ⟨⟨3, _, by decide, rfl, is_u64 ((car_is HC.out.2 (car_01 W D 3)).1 (.inl HS.out)), round_world5 w n m V W D 2 (wideO n V) (wideO m W) 77 _ _ (by decide) HC.out.1⟩, by simp [intOf]⟩
      · have HS := Lib.hid hs
        have hsb : decide (limb V 2 < limb W 2) = false := decide_eq_false hs
        clear hs
        by_cases ht : IntKind.u64.wrap (limb V 2 - limb W 2) < carN W D 2
        · have HT := Lib.hid ht
          have htb : decide (IntKind.u64.wrap (limb V 2 - limb W 2) < carN W D 2) = true := decide_eq_true ht
          clear ht
          go_wp2
          go_quiet (fail)
          go_wp2
          go_quiet (fail)
          go_wp2
          exact ⟨⟨3, _, by decide, rfl, is_u64 ((car_is HC.out.2 (car_01 W D 3)).1 (.inr HT.out)), round_world5 w n m V W D 2 (wideO n V) (wideO m W) 77 _ _ (by decide) HC.out.1⟩, by simp [intOf]⟩
        · have HT := Lib.hid ht
          have htb : decide (IntKind.u64.wrap (limb V 2 - limb W 2) < carN W D 2) = false := decide_eq_false ht
          clear ht
          go_wp2
          go_quiet (fail)
          go_wp2
          go_quiet (fail)
          go_wp2
          exact ⟨⟨3, _, by decide, rfl, is_u64 ((car_is HC.out.2 (car_01 W D 3)).2 (fun h => h.elim (Int.not_lt.2 HS.out) (Int.not_lt.2 HT.out))), round_world5 w n m V W D 2 (wideO n V) (wideO m W) 77 _ _ (by decide) HC.out.1⟩, by simp [intOf]⟩
    · have HC := Lib.hid (minus_way (limb V 3) (limb W 3) (carN W D 3) (limb D 3) (carN W D 4) (limb_bd V 3).1 (limb_bd V 3).2 (limb_bd W 3).1 (limb_bd W 3).2 (car_01 W D 3) (car_01 W D 4) (limb_bd D 3).1 (limb_bd D 3).2 (by have e := car_step W D 3; rw [HD.out] at e; exact e))
      unfold mixO wideO nilO
      simp only [mixL]
      by_cases hs : limb V 3 < limb W 3
      · have HS := Lib.hid hs
        go_wp2
        go_quiet (fail)
        go_wp2
        go_quiet (fail)
        go_wp2
        exact ⟨⟨4, _, by decide, rfl, is_u64 ((car_is HC.out.2 (car_01 W D 4)).1 (.inl HS.out)), round_world5 w n m V W D 3 (wideO n V) (wideO m W) 77 _ _ (by decide) HC.out.1⟩, by simp [intOf]⟩
      · have HS := Lib.hid hs
        have hsb : decide (limb V 3 < limb W 3) = false := decide_eq_false hs
        clear hs
        by_cases ht : IntKind.u64.wrap (limb V 3 - limb W 3) < carN W D 3
        · have HT := Lib.hid ht
          have htb : decide (IntKind.u64.wrap (limb V 3 - limb W 3) < carN W D 3) = true := decide_eq_true ht
          clear ht
          go_wp2
          go_quiet (fail)
          go_wp2
          go_quiet (fail)
          go_wp2
          exact ⟨⟨4, _, by decide, rfl, is_u64 ((car_is HC.out.2 (car_01 W D 4)).1 (.inr HT.out)), round_world5 w n m V W D 3 (wideO n V) (wideO m W) 77 _ _ (by decide) HC.out.1⟩, by simp [intOf]⟩
        · have HT := Lib.hid ht
          have htb : decide (IntKind.u64.wrap (limb V 3 - limb W 3) < carN W D 3) = false := decide_eq_false ht
          clear ht
          go_wp2
          go_quiet (fail)
          go_wp2
          go_quiet (fail)
          go_wp2
          exact ⟨⟨4, _, by decide, rfl, is_u64 ((car_is HC.out.2 (car_01 W D 4)).2 (fun h => h.elim (Int.not_lt.2 HS.out) (Int.not_lt.2 HT.out))), round_world5 w n m V W D 3 (wideO n V) (wideO m W) 77 _ _ (by decide) HC.out.1⟩, by simp [intOf]⟩
    · have HC := Lib.hid (minus_way (limb V 4) (limb W 4) (carN W D 4) (limb D 4) (carN W D 5) (limb_bd V 4).1 (limb_bd V 4).2 (limb_bd W 4).1 (limb_bd W 4).2 (car_01 W D 4) (car_01 W D 5) (limb_bd D 4).1 (limb_bd D 4).2 (by have e := car_step W D 4; rw [HD.out] at e; exact e))
      unfold mixO wideO nilO
      simp only [mixL]
      by_cases hs : limb V 4 < limb W 4
      · have HS := Lib.hid hs
        go_wp2
        go_quiet (fail)
        go_wp2
        go_quiet (fail)
        go_wp2
        exact ⟨⟨5, _, by decide, rfl, is_u64 ((car_is HC.out.2 (car_01 W D 5)).1 (.inl HS.out)), round_world5 w n m V W D 4 (wideO n V) (wideO m W) 77 _ _ (by decide) HC.out.1⟩, by simp [intOf]⟩
      · have HS := Lib.hid hs
        have hsb : decide (limb V 4 < limb W 4) = false := decide_eq_false hs
        clear hs
        by_cases ht : IntKind.u64.wrap (limb V 4 - limb W 4) < carN W D 4
        · have HT := Lib.hid ht
          have htb : decide (IntKind.u64.wrap (limb V 4 - limb W 4) < carN W D 4) = true := decide_eq_true ht
          clear ht
          go_wp2
          go_quiet (fail)
          go_wp2
          go_quiet (fail)
          go_wp2
          exact ⟨⟨5, _, by decide, rfl, is_u64 ((car_is HC.out.2 (car_01 W D 5)).1 (.inr HT.out)), round_world5 w n m V W D 4 (wideO n V) (wideO m W) 77 _ _ (by decide) HC.out.1⟩, by simp [intOf]⟩
        · have HT := Lib.hid ht
          have htb : decide (IntKind.u64.wrap (limb V 4 - limb W 4) < carN W D 4) = false := decide_eq_false ht
          clear ht
          go_wp2
          go_quiet (fail)
          go_wp2
          go_quiet (fail)
          go_wp2
          exact ⟨⟨5, _, by decide, rfl, is_u64 ((car_is HC.out.2 (car_01 W D 5)).2 (fun h => h.elim (Int.not_lt.2 HS.out) (Int.not_lt.2 HT.out))), round_world5 w n m V W D 4 (wideO n V) (wideO m W) 77 _ _ (by decide) HC.out.1⟩, by simp [intOf]⟩
    · have HC := Lib.hid (minus_way (limb V 5) (limb W 5) (carN W D 5) (limb D 5) (carN W D 6) (limb_bd V 5).1 (limb_bd V 5).2 (limb_bd W 5).1 (limb_bd W 5).2 (car_01 W D 5) (car_01 W D 6) (limb_bd D 5).1 (limb_bd D 5).2 (by have e := car_step W D 5; rw [HD.out] at e; exact e))
      unfold mixO wideO nilO
      simp only [mixL]
      by_cases hs : limb V 5 < limb W 5
      · have HS := Lib.hid hs
        go_wp2
        go_quiet (fail)
        go_wp2
        go_quiet (fail)
        go_wp2
        exact ⟨⟨6, _, by decide, rfl, is_u64 ((car_is HC.out.2 (car_01 W D 6)).1 (.inl HS.out)), round_world5 w n m V W D 5 (wideO n V) (wideO m W) 77 _ _ (by decide) HC.out.1⟩, by simp [intOf]⟩
      · have HS := Lib.hid hs
        have hsb : decide (limb V 5 < limb W 5) = false := decide_eq_false hs
        clear hs
        by_cases ht : IntKind.u64.wrap (limb V 5 - limb W 5) < carN W D 5
        · have HT := Lib.hid ht
          have htb : decide (IntKind.u64.wrap (limb V 5 - limb W 5) < carN W D 5) = true := decide_eq_true ht
          clear ht
          go_wp2
          go_quiet (fail)
          go_wp2
          go_quiet (fail)
          go_wp2
          exact ⟨⟨6, _, by decide, rfl, is_u64 ((car_is HC.out.2 (car_01 W D 6)).1 (.inr HT.out)), round_world5 w n m V W D 5 (wideO n V) (wideO m W) 77 _ _ (by decide) HC.out.1⟩, by simp [intOf]⟩
        · have HT := Lib.hid ht
          have htb : decide (IntKind.u64.wrap (limb V 5 - limb W 5) < carN W D 5) = false := decide_eq_false ht
          clear ht
          go_wp2
          go_quiet (fail)
          go_wp2
          go_quiet (fail)
          go_wp2
          exact ⟨⟨6, _, by decide, rfl, is_u64 ((car_is HC.out.2 (car_01 W D 6)).2 (fun h => h.elim (Int.not_lt.2 HS.out) (Int.not_lt.2 HT.out))), round_world5 w n m V W D 5 (wideO n V) (wideO m W) 77 _ _ (by decide) HC.out.1⟩, by simp [intOf]⟩
    · have HC := Lib.hid (minus_way (limb V 6) (limb W 6) (carN W D 6) (limb D 6) (carN W D 7) (limb_bd V 6).1 (limb_bd V 6).2 (limb_bd W 6).1 (limb_bd W 6).2 (car_01 W D 6) (car_01 W D 7) (limb_bd D 6).1 (limb_bd D 6).2 (by have e := car_step W D 6; rw [HD.out] at e; exact e))
      unfold mixO wideO nilO
      simp only [mixL]
      by_cases hs : limb V 6 < limb W 6
      · have HS := Lib.hid hs
        go_wp2
        go_quiet (fail)
        go_wp2
        go_quiet (fail)
        go_wp2
        exact ⟨⟨7, _, by decide, rfl, is_u64 ((car_is HC.out.2 (car_01 W D 7)).1 (.inl HS.out)), round_world5 w n m V W D 6 (wideO n V) (wideO m W) 77 _ _ (by decide) HC.out.1⟩, by simp [intOf]⟩
      · have HS := Lib.hid hs
        have hsb : decide (limb V 6 < limb W 6) = false := decide_eq_false hs
        clear hs
        by_cases ht : IntKind.u64.wrap (limb V 6 - limb W 6) < carN W D 6
        · have HT := Lib.hid ht
          have htb : decide (IntKind.u64.wrap (limb V 6 - limb W 6) < carN W D 6) = true := decide_eq_true ht
          clear ht
          go_wp2
          go_quiet (fail)
          go_wp2
          go_quiet (fail)
          go_wp2
          exact ⟨⟨7, _, by decide, rfl, is_u64 ((car_is HC.out.2 (car_01 W D 7)).1 (.inr HT.out)), round_world5 w n m V W D 6 (wideO n V) (wideO m W) 77 _ _ (by decide) HC.out.1⟩, by simp [intOf]⟩
        · have HT := Lib.hid ht
          have htb : decide (IntKind.u64.wrap (limb V 6 - limb W 6) < carN W D 6) = false := decide_eq_false ht
          clear ht
          go_wp2
          go_quiet (fail)
          go_wp2
          go_quiet (fail)
          go_wp2
          exact ⟨⟨7, _, by decide, rfl, is_u64 ((car_is HC.out.2 (car_01 W D 7)).2 (fun h => h.elim (Int.not_lt.2 HS.out) (Int.not_lt.2 HT.out))), round_world5 w n m V W D 6 (wideO n V) (wideO m W) 77 _ _ (by decide) HC.out.1⟩, by simp [intOf]⟩
    · have HC := Lib.hid (minus_way (limb V 7) (limb W 7) (carN W D 7) (limb D 7) (carN W D 8) (limb_bd V 7).1 (limb_bd V 7).2 (limb_bd W 7).1 (limb_bd W 7).2 (car_01 W D 7) (car_01 W D 8) (limb_bd D 7).1 (limb_bd D 7).2 (by have e := car_step W D 7; rw [HD.out] at e; exact e))
      unfold mixO wideO nilO
      simp only [mixL]
      by_cases hs : limb V 7 < limb W 7
      · have HS := Lib.hid hs
        go_wp2
        go_quiet (fail)
        go_wp2
        go_quiet (fail)
        go_wp2
        exact ⟨⟨8, _, by decide, rfl, is_u64 ((car_is HC.out.2 (car_01 W D 8)).1 (.inl HS.out)), round_world5 w n m V W D 7 (wideO n V) (wideO m W) 77 _ _ (by decide) HC.out.1⟩, by simp [intOf]⟩
      · have HS := Lib.hid hs
        have hsb : decide (limb V 7 < limb W 7) = false := decide_eq_false hs
        clear hs
        by_cases ht : IntKind.u64.wrap (limb V 7 - limb W 7) < carN W D 7
        · have HT := Lib.hid ht
          have htb : decide (IntKind.u64.wrap (limb V 7 - limb W 7) < carN W D 7) = true := decide_eq_true ht
          clear ht
          go_wp2
          go_quiet (fail)
          go_wp2
          go_quiet (fail)
          go_wp2
          exact ⟨⟨8, _, by decide, rfl, is_u64 ((car_is HC.out.2 (car_01 W D 8)).1 (.inr HT.out)), round_world5 w n m V W D 7 (wideO n V) (wideO m W) 77 _ _ (by decide) HC.out.1⟩, by simp [intOf]⟩
        · have HT := Lib.hid ht
          have htb : decide (IntKind.u64.wrap (limb V 7 - limb W 7) < carN W D 7) = false := decide_eq_false ht
          clear ht
          go_wp2
          go_quiet (fail)
          go_wp2
          go_quiet (fail)
          go_wp2
          exact ⟨⟨8, _, by decide, rfl, is_u64 ((car_is HC.out.2 (car_01 W D 8)).2 (fun h => h.elim (Int.not_lt.2 HS.out) (Int.not_lt.2 HT.out))), round_world5 w n m V W D 7 (wideO n V) (wideO m W) 77 _ _ (by decide) HC.out.1⟩, by simp [intOf]⟩
    · have HC := Lib.hid (minus_way (limb V 8) (limb W 8) (carN W D 8) (limb D 8) (carN W D 9) (limb_bd V 8).1 (limb_bd V 8).2 (limb_bd W 8).1 (limb_bd W 8).2 (car_01 W D 8) (car_01 W D 9) (limb_bd D 8).1 (limb_bd D 8).2 (by have e := car_step W D 8; rw [HD.out] at e; exact e))
      unfold mixO wideO nilO
      simp only [mixL]
      by_cases hs : limb V 8 < limb W 8
      · have HS := Lib.hid hs
        go_wp2
        go_quiet (fail)
        go_wp2
        go_quiet (fail)
        go_wp2
        exact ⟨⟨9, _, by decide, rfl, is_u64 ((car_is HC.out.2 (car_01 W D 9)).1 (.inl HS.out)), round_world5 w n m V W D 8 (wideO n V) (wideO m W) 77 _ _ (by decide) HC.out.1⟩, by simp [intOf]⟩
      · have HS := Lib.hid hs
        have hsb : decide (limb V 8 < limb W 8) = false := decide_eq_false hs
        clear hs
        by_cases ht : IntKind.u64.wrap (limb V 8 - limb W 8) < carN W D 8
        · have HT := Lib.hid ht
          have htb : decide (IntKind.u64.wrap (limb V 8 - limb W 8) < carN W D 8) = true := decide_eq_true ht
          clear ht
          go_wp2
          go_quiet (fail)
          go_wp2
          go_quiet (fail)
          go_wp2
          exact ⟨⟨9, _, by decide, rfl, is_u64 ((car_is HC.out.2 (car_01 W D 9)).1 (.inr HT.out)), round_world5 w n m V W D 8 (wideO n V) (wideO m W) 77 _ _ (by decide) HC.out.1⟩, by simp [intOf]⟩
        · have HT := Lib.hid ht
          have htb : decide (IntKind.u64.wrap (limb V 8 - limb W 8) < carN W D 8) = false := decide_eq_false ht
          clear ht
          go_wp2
          go_quiet (fail)
          go_wp2
          go_quiet (fail)
          go_wp2
          exact ⟨⟨9, _, by decide, rfl, is_u64 ((car_is HC.out.2 (car_01 W D 9)).2 (fun h => h.elim (Int.not_lt.2 HS.out) (Int.not_lt.2 HT.out))), round_world5 w n m V W D 8 (wideO n V) (wideO m W) 77 _ _ (by decide) HC.out.1⟩, by simp [intOf]⟩
    · have HC := Lib.hid (minus_way (limb V 9) (limb W 9) (carN W D 9) (limb D 9) (carN W D 10) (limb_bd V 9).1 (limb_bd V 9).2 (limb_bd W 9).1 (limb_bd W 9).2 (car_01 W D 9) (car_01 W D 10) (limb_bd D 9).1 (limb_bd D 9).2 (by have e := car_step W D 9; rw [HD.out] at e; exact e))
      unfold mixO wideO nilO
      simp only [mixL]
      by_cases hs : limb V 9 < limb W 9
      · have HS := Lib.hid hs
        go_wp2
        go_quiet (fail)
        go_wp2
        go_quiet (fail)
        go_wp2
        exact ⟨⟨10, _, by decide, rfl, is_u64 ((car_is HC.out.2 (car_01 W D 10)).1 (.inl HS.out)), round_world5 w n m V W D 9 (wideO n V) (wideO m W) 77 _ _ (by decide) HC.out.1⟩, by simp [intOf]⟩
      · have HS := Lib.hid hs
        have hsb : decide (limb V 9 < limb W 9) = false := decide_eq_false hs
        clear hs
        by_cases ht : IntKind.u64.wrap (limb V 9 - limb W 9) < carN W D 9
        · have HT := Lib.hid ht
          have htb : decide (IntKind.u64.wrap (limb V 9 - limb W 9) < carN W D 9) = true := decide_eq_true ht
          clear ht
          go_wp2
          go_quiet (fail)
          go_wp2
          go_quiet (fail)
          go_wp2
          exact ⟨⟨10, _, by decide, rfl, is_u64 ((car_is HC.out.2 (car_01 W D 10)).1 (.inr HT.out)), round_world5 w n m V W D 9 (wideO n V) (wideO m W) 77 _ _ (by decide) HC.out.1⟩, by simp [intOf]⟩
        · have HT := Lib.hid ht
          have htb : decide (IntKind.u64.wrap (limb V 9 - limb W 9) < carN W D 9) = false := decide_eq_false ht
          clear ht
          go_wp2
          go_quiet (fail)
          go_wp2
          go_quiet (fail)
          go_wp2
          exact ⟨⟨10, _, by decide, rfl, is_u64 ((car_is HC.out.2 (car_01 W D 10)).2 (fun h => h.elim (Int.not_lt.2 HS.out) (Int.not_lt.2 HT.out))), round_world5 w n m V W D 9 (wideO n V) (wideO m W) 77 _ _ (by decide) HC.out.1⟩, by simp [intOf]⟩
    · unfold mixO wideO nilO
      simp only [mixL]
      go_wp2
      (try simp only [Exit.inBlock, Exit.then])
      refine bodyPost_ret (v := wideV n D) ?_ rfl ⟨rfl, ?_⟩
      · rw [results_one rfl]
        unfold wideV
        go_simp
      · repeat refine Grown.setCell ?_ (by simp <;> omega) _
        exact grown_more (Grown.alloc (Grown.alloc (Grown.alloc (Grown.alloc (Grown.alloc (Grown.refl _) _ _) _ _) _ _) _ _) _ _) _

theorem ten_cases {i : Nat} (h : i < 10) : i = 0 ∨ i = 1 ∨ i = 2 ∨ i = 3 ∨ i = 4 ∨ i = 5 ∨ i = 6 ∨ i = 7 ∨ i = 8 ∨ i = 9 := by omega

theorem wide_cells (w : World) (n : Bool) (V : Nat) (t u : TypeId) (E : Array Value) (i : Nat) (h : i < 10) :
    ((w.alloc (.cells (wideO n V) t)).alloc (.cells E u)).cell? ⟨w.heap.size, 1 + i, none⟩ = some (.int .u64 (limb V i)) := by
  rcases ten_cases h with rfl | rfl | rfl | rfl | rfl | rfl | rfl | rfl | rfl | rfl <;> (unfold wideO; go_simp)

def MoreRel (V j : Nat) (b0 : Bool) (W : World) (m i : Value) (wr : World) : Prop :=
  ∃ (q d : Nat) (mq : Bool), q ≤ j ∧ i = .int .i64 q ∧ m = .bool mq ∧ mq = (b0 || lowB V q) ∧ wr = W.drewN d

theorem more_next {V q : Nat} {b0 mq : Bool} (h : mq = (b0 || lowB V q)) : (mq || (limb V q != 0)) = (b0 || lowB V (q + 1)) := by
  rw [h, low_next, Bool.or_assoc]

set_option maxRecDepth 100000 in
set_option maxHeartbeats 4000000 in
theorem rounded_any (f mode : Int) (n : Bool) (V : Nat) (w : World) (hV : FitN V 10) (h0 : V ≠ 0) :
    Calls Tryz.prog 127 #[.int .i64 f, .int .i64 mode, wideV n V] w fun e w' => e = PackE f mode n (upN V) ∧ Grown w w' := by
  have H0 := Lib.hid h0
  clear h0
  unfold wideV
  go_enter Tryz.func127, Tryz.ntmps127
  go_wp2
  have hcell := Lib.hid (wide_cells w n V 77 41 #[.bool false, .bool false, .bool false, .bool false, .bool false])
  have hnum : ((w.alloc (.cells (wideO n V) 77)).alloc (.cells #[.bool false, .bool false, .bool false, .bool false, .bool false] 41)).cell? ⟨w.heap.size, 0, none⟩ = some (.bool n) := by
    unfold wideO; go_simp
  unfold wideO at hcell hnum
  have HE := Lib.hid (exc_new (w.alloc (.cells (wideO n V) 77)) 41)
  rw [show (w.alloc (.cells (wideO n V) 77)).heap.size = w.heap.size + 1 by simp] at HE
  unfold wideO at HE
  generalize hW : ((w.alloc _).alloc _) = W at hcell hnum HE ⊢
  have HG := Lib.hid (show Grown w W by rw [← hW]; exact Grown.alloc (Grown.alloc (Grown.refl _) _ _) _ _)
  clear hW
  go_loopw [8] (fun i wr => ∃ k d : Nat, k ≤ 9 ∧ i = .int .i64 k ∧ wr = W.drewN d ∧ FitN V (k + 1)) (fun i _ => (intOf i).toNat)
  case atStart => exact ⟨9, 0, by decide, rfl, rfl, hV⟩
  case round =>
    obtain ⟨k, d, hk, rfl, rfl, hV⟩ := hrel
    have hc := hcell.out k (by omega)
    have HN := Lib.hid hnum
    clear hnum
    have k0 : (0 : Int) ≤ (k : Int) := by omega
    have k1 : (k : Int) < 10 := by omega
    have k2 : (k : Int).toNat = k := by omega
    by_cases h : limb V k = 0
    · have hz := Lib.hid (fit_less V k hV h)
      by_cases k0' : k = 0
      · subst k0'
        exact absurd (fit_zero V hz.out) H0.out
      · obtain ⟨j, rfl⟩ : ∃ j, k = j + 1 := ⟨k - 1, by omega⟩
        go_wp2
        go_roundw
        case rel => exact ⟨j, _, by omega, by go_num, rfl, hz.out⟩
        case measure => simp [intOf]
    · have hb : (limb V k == 0) = false := by simpa using h
      have HH := Lib.hid h
      obtain ⟨hl0, hl1⟩ := top_len V k h
      clear h
      obtain ⟨L, hL⟩ : ∃ L, lenI (limb V k) = L := ⟨_, rfl⟩
      rw [hL] at hl0 hl1
      have HL := Lib.hid hL
      clear hL
      obtain ⟨hx0, hx1⟩ := limb_bd V k
      have hx2 : 0 < limb V k := by have := HH.out; omega
      by_cases k0' : k = 0
      · subst k0'
        have HP := Lib.hid (top_last f mode n V hV)
        have hn := HN.out
        clear hb
        go_wp2_with (first
          | (go_at_call 109; refine (rlen_any _ _ (by omega) (by omega)).mono ?_; rintro e w' ⟨he, rfl⟩; rw [HL.out] at he; subst he)
          | (go_at_call 88; refine (rpack_any _ _ _ _ _ _ _ (by omega) (by omega) (by omega) (by omega)).mono ?_; rintro e W3 ⟨he, hW3⟩; rw [HP.out, ← packE_is] at he; subst he; have HW3 := Lib.hid hW3; clear hW3; have HG3 := Lib.hid (grown_trans HG.out (grown_trans (grown_drewN W _) HW3.out)); obtain ⟨xb, x0, x1, x2, x3, x4, z0, z1, z2, z3, z4⟩ := HE.out.grown (grown_trans (grown_drewN W _) HW3.out)))
        (try simp only [Exit.inBlock, Exit.then])
        refine bodyPost_ret (v := .tuple #[.int .u32 (rdV f mode n (upN V)), .agg #[.bool false, .bool false, .bool (rdO f mode n (upN V)), .bool (rdU f (upN V)), .bool (rdX f mode n (upN V))]]) ?_ rfl ⟨packE_is _ _ _ _, by
          repeat refine Grown.setCell ?_ (by simp <;> omega) _
          exact HG3.out⟩
        rw [results_tmp_cell rfl]
        go_simp
      · obtain ⟨j, rfl⟩ : ∃ j, k = j + 1 := ⟨k - 1, by omega⟩
        have hc' := hcell.out j (by omega)
        obtain ⟨hy0, hy1⟩ := limb_bd V j
        have HV := Lib.hid hV
        clear hV hb
        by_cases hL64 : L = 64
        · subst hL64
          obtain ⟨b0, hb0⟩ : ∃ b0, (limb V j != 0) = b0 := ⟨_, rfl⟩
          have HB := Lib.hid hb0
          go_wp2_with (go_at_call 109; refine (rlen_any _ _ (by omega) (by omega)).mono ?_; rintro e w' ⟨he, rfl⟩; rw [HL.out] at he; subst he)
          have hw1 : IntKind.i64.wrap (((j + 1 : Nat) : Int) - 1) = (j : Int) := by rw [IntKind.wrap_i64]; omega
          have hw2 : IntKind.i64.wrap ((j : Int) + 1 - 1) = (j : Int) := by rw [IntKind.wrap_i64]; omega
          go_quiet (fail)
          clear hw1 hw2
          go_wp2
          go_loopw [12, 15] (fun m i wr => MoreRel V j b0 W m i wr) (fun _ i _ => (((j : Nat) : Int) - intOf i).toNat)
          case atStart => exact ⟨0, _, b0, by omega, rfl, rfl, by rw [low_zero, Bool.or_false], rfl⟩
          case round =>
            obtain ⟨q, d, mq, hq, rfl, rfl, hmq, rfl⟩ := hrel
            have HM := Lib.hid hmq
            clear hmq
            have hcq := hcell.out q (by omega)
            have q0 : (0 : Int) ≤ (q : Int) := by omega
            have q1 : (q : Int) < 10 := by omega
            have q2 : (q : Int).toNat = q := by omega
            by_cases hqj : q < j
            · have hqj' : (q : Int) < (j : Int) := by omega
              have HX := Lib.hid (more_next HM.out)
              cases mq
              all_goals
                go_wp2
                go_roundw
                case rel => exact ⟨q + 1, _, _, by omega, by go_num, rfl, by simpa using HX.out, rfl⟩
                case measure => simp [intOf]; omega
            · have hqj' : ¬ (q : Int) < (j : Int) := by omega
              obtain rfl : q = j := by omega
              have hn := HN.out
              have HP := Lib.hid (top_full f mode n V q (by omega) HV.out HH.out HL.out (64 * ((q : Int) + 1) - 298) rfl mq (by rw [HM.out, HB.out]))
              go_wp2_with (go_at_call 88; refine (rpack_any _ _ _ _ _ _ _ (by omega) (by omega) (by omega) (by omega)).mono ?_; rintro e W3 ⟨he, hW3⟩; rw [HP.out, ← packE_is] at he; subst he; have HW3 := Lib.hid hW3; clear hW3; have HG3 := Lib.hid (grown_trans HG.out (grown_trans (grown_drewN W _) HW3.out)); obtain ⟨xb, x0, x1, x2, x3, x4, z0, z1, z2, z3, z4⟩ := HE.out.grown (grown_trans (grown_drewN W _) HW3.out))
              (try simp only [Exit.inBlock, Exit.then])
              refine bodyPost_ret (v := .tuple #[.int .u32 (rdV f mode n (upN V)), .agg #[.bool false, .bool false, .bool (rdO f mode n (upN V)), .bool (rdU f (upN V)), .bool (rdX f mode n (upN V))]]) ?_ rfl ⟨packE_is _ _ _ _, by
                repeat refine Grown.setCell ?_ (by simp <;> omega) _
                exact HG3.out⟩
              rw [results_tmp_cell rfl]
              go_simp
        · have hl2 : L < 64 := by omega
          have hb64 : (L == 64) = false := by simpa using hL64
          clear hL64
          obtain ⟨S, hS⟩ : ∃ S, bits BinOp.or IntKind.u64 (IntKind.u64.wrap (limb V (j + 1) * 2 ^ (64 - L).toNat)) (limb V j / 2 ^ L.toNat) = S := ⟨_, rfl⟩
          have HS := Lib.hid hS
          obtain ⟨hS0, hS1⟩ : 0 ≤ S ∧ S ≤ 18446744073709551615 := by rw [← hS]; exact bounds_u64 (wf_bits _ _ _ _)
          obtain ⟨b0, hb0⟩ : ∃ b0, (IntKind.u64.wrap (limb V j * 2 ^ (64 - L).toNat) != 0) = b0 := ⟨_, rfl⟩
          have HB := Lib.hid hb0
          go_wp2_with (go_at_call 109; refine (rlen_any _ _ (by omega) (by omega)).mono ?_; rintro e w' ⟨he, rfl⟩; rw [HL.out] at he; subst he)
          have hw1 : IntKind.i64.wrap (((j + 1 : Nat) : Int) - 1) = (j : Int) := by rw [IntKind.wrap_i64]; omega
          have hw2 : IntKind.i64.wrap ((j : Int) + 1 - 1) = (j : Int) := by rw [IntKind.wrap_i64]; omega
          go_quiet (fail)
          clear hw1 hw2
          go_wp2
          go_loopw [12, 15] (fun m i wr => MoreRel V j b0 W m i wr) (fun _ i _ => (((j : Nat) : Int) - intOf i).toNat)
          case atStart => exact ⟨0, _, b0, by omega, rfl, rfl, by rw [low_zero, Bool.or_false], rfl⟩
          case round =>
            obtain ⟨q, d, mq, hq, rfl, rfl, hmq, rfl⟩ := hrel
            have HM := Lib.hid hmq
            clear hmq
            have hcq := hcell.out q (by omega)
            have q0 : (0 : Int) ≤ (q : Int) := by omega
            have q1 : (q : Int) < 10 := by omega
            have q2 : (q : Int).toNat = q := by omega
            by_cases hqj : q < j
            · have hqj' : (q : Int) < (j : Int) := by omega
              have HX := Lib.hid (more_next HM.out)
              cases mq
              all_goals
                go_wp2
                go_roundw
                case rel => exact ⟨q + 1, _, _, by omega, by go_num, rfl, by simpa using HX.out, rfl⟩
                case measure => simp [intOf]; omega
            · have hqj' : ¬ (q : Int) < (j : Int) := by omega
              obtain rfl : q = j := by omega
              have hn := HN.out
              have HP := Lib.hid (top_part f mode n V q L (by omega) HV.out HH.out HL.out (64 * ((q : Int) + 1) - 298 - (64 - L)) rfl S HS.out.symm mq (by rw [HM.out, HB.out]))
              go_wp2_with (go_at_call 88; refine (rpack_any _ _ _ _ _ _ _ (by omega) (by omega) (by omega) (by omega)).mono ?_; rintro e W3 ⟨he, hW3⟩; rw [HP.out, ← packE_is] at he; subst he; have HW3 := Lib.hid hW3; clear hW3; have HG3 := Lib.hid (grown_trans HG.out (grown_trans (grown_drewN W _) HW3.out)); obtain ⟨xb, x0, x1, x2, x3, x4, z0, z1, z2, z3, z4⟩ := HE.out.grown (grown_trans (grown_drewN W _) HW3.out))
              (try simp only [Exit.inBlock, Exit.then])
              refine bodyPost_ret (v := .tuple #[.int .u32 (rdV f mode n (upN V)), .agg #[.bool false, .bool false, .bool (rdO f mode n (upN V)), .bool (rdU f (upN V)), .bool (rdX f mode n (upN V))]]) ?_ rfl ⟨packE_is _ _ _ _, by
                repeat refine Grown.setCell ?_ (by simp <;> omega) _
                exact HG3.out⟩
              rw [results_tmp_cell rfl]
              go_simp
end Go.Proofs.YtheaeclojljecaaGreat
