/- Contracts of the reference's wide numbers: differences. (Written by gen4.py.) -/
import Derived.Test.YtheaeclojljecaaGreatRows
import Derived.Test.YtheaeclojljecaaGreatRFmt
import Derived.Test.YtheaeclojljecaaGreatWorld
import Derived.Test.YtheaeclojljecaaGreatWide
import Derived.Test.YtheaeclojljecaaGreatLimbs
import Derived.Lib.Hide
import Derived.Handy
import Derived.Deep.QuietTactic
import Derived.BigQuiet
namespace Go.Proofs.YtheaeclojljecaaGreat
open Go.RowKit
set_option linter.unusedVariables false
set_option linter.unusedSimpArgs false

def MinusRel (n m : Bool) (V W D : Nat) (E F : Array Value) (w0 : World) (c i : Value) (wr : World) : Prop :=
  ∃ k d : Nat, k ≤ 10 ∧ i = .int .i64 k ∧ c = .int .u64 (carN W D k) ∧ wr = (((((w0.alloc (.cells (mixO n V D k) 77)).alloc (.cells (wideO m W) 77)).alloc (.cells nilO 77)).alloc (.cells E 77)).alloc (.cells F 77)).drewN d

set_option maxRecDepth 100000 in
set_option maxHeartbeats 8000000 in
theorem minus_up (n m : Bool) (V W D : Nat) (w : World) (hD : V + D = W) (hlt : V < W) (hV : V < 2 ^ (64 * 10)) (hW : W < 2 ^ (64 * 10)) :
    Calls Tryz.prog 146 #[wideV n V, wideV m W] w fun e w' => e = .returned (wideV m D) ∧ Grown w w' := by
  have HD := Lib.hid hD
  have HV := Lib.hid hV
  have HW := Lib.hid hW
  have hsd := set_drewN
  clear hD hV hW
  unfold wideV
  go_enter Tryz.func146, Tryz.ntmps146
  go_wp2_with (go_at_call 149; refine (below_is n m V W _ HV.out HW.out).mono ?_; rintro e w' ⟨rfl, g, rfl⟩)
  clear hsd
  go_loopw [5, 6, 7, 8, 9] (fun c i s d b wr => MinusRel m n W V D (wideO n V) (wideO m W) w c i wr) (fun _ i _ _ _ _ => (10 - intOf i).toNat)
  case atStart => exact ⟨0, g, by decide, rfl, by rw [car_zero], rfl⟩
  case round =>
    obtain ⟨k, d, hk, rfl, rfl, rfl⟩ := hrel
    clear hlt
    have hk' : k = 0 ∨ k = 1 ∨ k = 2 ∨ k = 3 ∨ k = 4 ∨ k = 5 ∨ k = 6 ∨ k = 7 ∨ k = 8 ∨ k = 9 ∨ k = 10 := by omega
    clear hk
    rcases hk' with rfl | rfl | rfl | rfl | rfl | rfl | rfl | rfl | rfl | rfl | rfl
    · have HC := Lib.hid (minus_way (limb W 0) (limb V 0) (carN V D 0) (limb D 0) (carN V D 1) (limb_bd W 0).1 (limb_bd W 0).2 (limb_bd V 0).1 (limb_bd V 0).2 (car_01 V D 0) (car_01 V D 1) (limb_bd D 0).1 (limb_bd D 0).2 (by have e := car_step V D 0; rw [HD.out] at e; exact e))
      unfold mixO wideO nilO
      simp only [mixL]
      by_cases hs : limb W 0 < limb V 0
      · have HS := Lib.hid hs
        go_wp2
        go_quiet (fail)
        go_wp2
        go_quiet (fail)
        go_wp2
        exact ⟨⟨1, _, by decide, rfl, is_u64 ((car_is HC.out.2 (car_01 V D 1)).1 (.inl HS.out)), round_world5 w m n W V D 0 (wideO n V) (wideO m W) 77 _ _ (by decide) HC.out.1⟩, by simp [intOf]⟩
      · have HS := Lib.hid hs
        have hsb : decide (limb W 0 < limb V 0) = false := decide_eq_false hs
        clear hs
        by_cases ht : IntKind.u64.wrap (limb W 0 - limb V 0) < carN V D 0
        · have HT := Lib.hid ht
          have htb : decide (IntKind.u64.wrap (limb W 0 - limb V 0) < carN V D 0) = true := decide_eq_true ht
          clear ht
          go_wp2
          go_quiet (fail)
          go_wp2
          go_quiet (fail)
          go_wp2
          exact ⟨⟨1, _, by decide, rfl, is_u64 ((car_is HC.out.2 (car_01 V D 1)).1 (.inr HT.out)), round_world5 w m n W V D 0 (wideO n V) (wideO m W) 77 _ _ (by decide) HC.out.1⟩, by simp [intOf]⟩
        · have HT := Lib.hid ht
          have htb : decide (IntKind.u64.wrap (limb W 0 - limb V 0) < carN V D 0) = false := decide_eq_false ht
          clear ht
          go_wp2
          go_quiet (fail)
          go_wp2
          go_quiet (fail)
          go_wp2
          exact ⟨⟨1, _, by decide, rfl, is_u64 ((car_is HC.out.2 (car_01 V D 1)).2 (fun h => h.elim (Int.not_lt.2 HS.out) (Int.not_lt.2 HT.out))), round_world5 w m n W V D 0 (wideO n V) (wideO m W) 77 _ _ (by decide) HC.out.1⟩, by simp [intOf]⟩
    · have HC := Lib.hid (minus_way (limb W 1) (limb V 1) (carN V D 1) (limb D 1) (carN V D 2) (limb_bd W 1).1 (limb_bd W 1).2 (limb_bd V 1).1 (limb_bd V 1).2 (car_01 V D 1) (car_01 V D 2) (limb_bd D 1).1 (limb_bd D 1).2 (by have e := car_step V D 1; rw [HD.out] at e; exact e))
      unfold mixO wideO nilO
      simp only [mixL]
      by_cases hs : limb W 1 < limb V 1
      · have HS := Lib.hid hs
        go_wp2
        go_quiet (fail)
        go_wp2
        go_quiet (fail)
        go_wp2
        exact ⟨⟨2, _, by decide, rfl, is_u64 ((car_is HC.out.2 (car_01 V D 2)).1 (.inl HS.out)), round_world5 w m n W V D 1 (wideO n V) (wideO m W) 77 _ _ (by decide) HC.out.1⟩, by simp [intOf]⟩
      · have HS := Lib.hid hs
        have hsb : decide (limb W 1 < limb V 1) = false := decide_eq_false hs
        clear hs
        by_cases ht : IntKind.u64.wrap (limb W 1 - limb V 1) < carN V D 1
        · have HT := Lib.hid ht
          have htb : decide (IntKind.u64.wrap (limb W 1 - limb V 1) < carN V D 1) = true := decide_eq_true ht
          clear ht
          go_wp2
          go_quiet (fail)
          go_wp2
          go_quiet (fail)
          go_wp2
          exact ⟨⟨2, _, by decide, rfl, is_u64 ((car_is HC.out.2 (car_01 V D 2)).1 (.inr HT.out)), round_world5 w m n W V D 1 (wideO n V) (wideO m W) 77 _ _ (by decide) HC.out.1⟩, by simp [intOf]⟩
        · have HT := Lib.hid ht
          have htb : decide (IntKind.u64.wrap (limb W 1 - limb V 1) < carN V D 1) = false := decide_eq_false ht
          clear ht
          go_wp2
          go_quiet (fail)
          go_wp2
          go_quiet (fail)
          go_wp2
          exact ⟨⟨2, _, by decide, rfl, is_u64 ((car_is HC.out.2 (car_01 V D 2)).2 (fun h => h.elim (Int.not_lt.2 HS.out) (Int.not_lt.2 HT.out))), round_world5 w m n W V D 1 (wideO n V) (wideO m W) 77 _ _ (by decide) HC.out.1⟩, by simp [intOf]⟩
    · have HC := Lib.hid (minus_way (limb W 2) (limb V 2) (carN V D 2) (limb D 2) (carN V D 3) (limb_bd W 2).1 (limb_bd W 2).2 (limb_bd V 2).1 (limb_bd V 2).2 (car_01 V D 2) (car_01 V D 3) (limb_bd D 2).1 (limb_bd D 2).2 (by have e := car_step V D 2; rw [HD.out] at e; exact e))
      unfold mixO wideO nilO
      simp only [mixL]
      by_cases hs : limb W 2 < limb V 2
      · have HS := Lib.hid hs
        go_wp2
        go_quiet (fail)
        go_wp2
        go_quiet (fail)
        go_wp2
        exact ⟨⟨3, _, by decide, rfl, is_u64 ((car_is HC.out.2 (car_01 V D 3)).1 (.inl HS.out)), round_world5 w m n W V D 2 (wideO n V) (wideO m W) 77 _ _ (by decide) HC.out.1⟩, by simp [intOf]⟩
      · have HS := Lib.hid hs
        have hsb : decide (limb W 2 < limb V 2) = false := decide_eq_false hs
        clear hs
        by_cases ht : IntKind.u64.wrap (limb W 2 - limb V 2) < carN V D 2
        · have HT := Lib.hid ht
          have htb : decide (IntKind.u64.wrap (limb W 2 - limb V 2) < carN V D 2) = true := decide_eq_true ht
          clear ht
          go_wp2
          go_quiet (fail)
          go_wp2
          go_quiet (fail)
          go_wp2
          exact ⟨⟨3, _, by decide, rfl, is_u64 ((car_is HC.out.2 (car_01 V D 3)).1 (.inr HT.out)), round_world5 w m n W V D 2 (wideO n V) (wideO m W) 77 _ _ (by decide) HC.out.1⟩, by simp [intOf]⟩
        · have HT := Lib.hid ht
          have htb : decide (IntKind.u64.wrap (limb W 2 - limb V 2) < carN V D 2) = false := decide_eq_false ht
          clear ht
          go_wp2
          go_quiet (fail)
          go_wp2
          go_quiet (fail)
          go_wp2
          exact ⟨⟨3, _, by decide, rfl, is_u64 ((car_is HC.out.2 (car_01 V D 3)).2 (fun h => h.elim (Int.not_lt.2 HS.out) (Int.not_lt.2 HT.out))), round_world5 w m n W V D 2 (wideO n V) (wideO m W) 77 _ _ (by decide) HC.out.1⟩, by simp [intOf]⟩
    · have HC := Lib.hid (minus_way (limb W 3) (limb V 3) (carN V D 3) (limb D 3) (carN V D 4) (limb_bd W 3).1 (limb_bd W 3).2 (limb_bd V 3).1 (limb_bd V 3).2 (car_01 V D 3) (car_01 V D 4) (limb_bd D 3).1 (limb_bd D 3).2 (by have e := car_step V D 3; rw [HD.out] at e; exact e))
      unfold mixO wideO nilO
      simp only [mixL]
      by_cases hs : limb W 3 < limb V 3
      · have HS := Lib.hid hs
        go_wp2
        go_quiet (fail)
        go_wp2
        go_quiet (fail)
        go_wp2
        exact ⟨⟨4, _, by decide, rfl, is_u64 ((car_is HC.out.2 (car_01 V D 4)).1 (.inl HS.out)), round_world5 w m n W V D 3 (wideO n V) (wideO m W) 77 _ _ (by decide) HC.out.1⟩, by simp [intOf]⟩
      · have HS := Lib.hid hs
        have hsb : decide (limb W 3 < limb V 3) = false := decide_eq_false hs
        clear hs
        by_cases ht : IntKind.u64.wrap (limb W 3 - limb V 3) < carN V D 3
        · have HT := Lib.hid ht
          have htb : decide (IntKind.u64.wrap (limb W 3 - limb V 3) < carN V D 3) = true := decide_eq_true ht
          clear ht
          go_wp2
          go_quiet (fail)
          go_wp2
          go_quiet (fail)
          go_wp2
          exact ⟨⟨4, _, by decide, rfl, is_u64 ((car_is HC.out.2 (car_01 V D 4)).1 (.inr HT.out)), round_world5 w m n W V D 3 (wideO n V) (wideO m W) 77 _ _ (by decide) HC.out.1⟩, by simp [intOf]⟩
        · have HT := Lib.hid ht
          have htb : decide (IntKind.u64.wrap (limb W 3 - limb V 3) < carN V D 3) = false := decide_eq_false ht
          clear ht
          go_wp2
          go_quiet (fail)
          go_wp2
          go_quiet (fail)
          go_wp2
          exact ⟨⟨4, _, by decide, rfl, is_u64 ((car_is HC.out.2 (car_01 V D 4)).2 (fun h => h.elim (Int.not_lt.2 HS.out) (Int.not_lt.2 HT.out))), round_world5 w m n W V D 3 (wideO n V) (wideO m W) 77 _ _ (by decide) HC.out.1⟩, by simp [intOf]⟩
    · have HC := Lib.hid (minus_way (limb W 4) (limb V 4) (carN V D 4) (limb D 4) (carN V D 5) (limb_bd W 4).1 (limb_bd W 4).2 (limb_bd V 4).1 (limb_bd V 4).2 (car_01 V D 4) (car_01 V D 5) (limb_bd D 4).1 (limb_bd D 4).2 (by have e := car_step V D 4; rw [HD.out] at e; exact e))
      unfold mixO wideO nilO
      simp only [mixL]
      by_cases hs : limb W 4 < limb V 4
      · have HS := Lib.hid hs
        go_wp2
        go_quiet (fail)
        go_wp2
        go_quiet (fail)
        go_wp2
        exact ⟨⟨5, _, by decide, rfl, is_u64 ((car_is HC.out.2 (car_01 V D 5)).1 (.inl HS.out)), round_world5 w m n W V D 4 (wideO n V) (wideO m W) 77 _ _ (by decide) HC.out.1⟩, by simp [intOf]⟩
      · have HS := Lib.hid hs
        have hsb : decide (limb W 4 < limb V 4) = false := decide_eq_false hs
        clear hs
        by_cases ht : IntKind.u64.wrap (limb W 4 - limb V 4) < carN V D 4
        · have HT := Lib.hid ht
          have htb : decide (IntKind.u64.wrap (limb W 4 - limb V 4) < carN V D 4) = true := decide_eq_true ht
          clear ht
          go_wp2
          go_quiet (fail)
          go_wp2
          go_quiet (fail)
          go_wp2
          exact ⟨⟨5, _, by decide, rfl, is_u64 ((car_is HC.out.2 (car_01 V D 5)).1 (.inr HT.out)), round_world5 w m n W V D 4 (wideO n V) (wideO m W) 77 _ _ (by decide) HC.out.1⟩, by simp [intOf]⟩
        · have HT := Lib.hid ht
          have htb : decide (IntKind.u64.wrap (limb W 4 - limb V 4) < carN V D 4) = false := decide_eq_false ht
          clear ht
          go_wp2
          go_quiet (fail)
          go_wp2
          go_quiet (fail)
          go_wp2
          exact ⟨⟨5, _, by decide, rfl, is_u64 ((car_is HC.out.2 (car_01 V D 5)).2 (fun h => h.elim (Int.not_lt.2 HS.out) (Int.not_lt.2 HT.out))), round_world5 w m n W V D 4 (wideO n V) (wideO m W) 77 _ _ (by decide) HC.out.1⟩, by simp [intOf]⟩
    · have HC := Lib.hid (minus_way (limb W 5) (limb V 5) (carN V D 5) (limb D 5) (carN V D 6) (limb_bd W 5).1 (limb_bd W 5).2 (limb_bd V 5).1 (limb_bd V 5).2 (car_01 V D 5) (car_01 V D 6) (limb_bd D 5).1 (limb_bd D 5).2 (by have e := car_step V D 5; rw [HD.out] at e; exact e))
      unfold mixO wideO nilO
      simp only [mixL]
      by_cases hs : limb W 5 < limb V 5
      · have HS := Lib.hid hs
        go_wp2
        go_quiet (fail)
        go_wp2
        go_quiet (fail)
        go_wp2
        exact ⟨⟨6, _, by decide, rfl, is_u64 ((car_is HC.out.2 (car_01 V D 6)).1 (.inl HS.out)), round_world5 w m n W V D 5 (wideO n V) (wideO m W) 77 _ _ (by decide) HC.out.1⟩, by simp [intOf]⟩
      · have HS := Lib.hid hs
        have hsb : decide (limb W 5 < limb V 5) = false := decide_eq_false hs
        clear hs
        by_cases ht : IntKind.u64.wrap (limb W 5 - limb V 5) < carN V D 5
        · have HT := Lib.hid ht
          have htb : decide (IntKind.u64.wrap (limb W 5 - limb V 5) < carN V D 5) = true := decide_eq_true ht
          clear ht
          go_wp2
          go_quiet (fail)
          go_wp2
          go_quiet (fail)
          go_wp2
          exact ⟨⟨6, _, by decide, rfl, is_u64 ((car_is HC.out.2 (car_01 V D 6)).1 (.inr HT.out)), round_world5 w m n W V D 5 (wideO n V) (wideO m W) 77 _ _ (by decide) HC.out.1⟩, by simp [intOf]⟩
        · have HT := Lib.hid ht
          have htb : decide (IntKind.u64.wrap (limb W 5 - limb V 5) < carN V D 5) = false := decide_eq_false ht
          clear ht
          go_wp2
          go_quiet (fail)
          go_wp2
          go_quiet (fail)
          go_wp2
          exact ⟨⟨6, _, by decide, rfl, is_u64 ((car_is HC.out.2 (car_01 V D 6)).2 (fun h => h.elim (Int.not_lt.2 HS.out) (Int.not_lt.2 HT.out))), round_world5 w m n W V D 5 (wideO n V) (wideO m W) 77 _ _ (by decide) HC.out.1⟩, by simp [intOf]⟩
    · have HC := Lib.hid (minus_way (limb W 6) (limb V 6) (carN V D 6) (limb D 6) (carN V D 7) (limb_bd W 6).1 (limb_bd W 6).2 (limb_bd V 6).1 (limb_bd V 6).2 (car_01 V D 6) (car_01 V D 7) (limb_bd D 6).1 (limb_bd D 6).2 (by have e := car_step V D 6; rw [HD.out] at e; exact e))
      unfold mixO wideO nilO
      simp only [mixL]
      by_cases hs : limb W 6 < limb V 6
      · have HS := Lib.hid hs
        go_wp2
        go_quiet (fail)
        go_wp2
        go_quiet (fail)
        go_wp2
        exact ⟨⟨7, _, by decide, rfl, is_u64 ((car_is HC.out.2 (car_01 V D 7)).1 (.inl HS.out)), round_world5 w m n W V D 6 (wideO n V) (wideO m W) 77 _ _ (by decide) HC.out.1⟩, by simp [intOf]⟩
      · have HS := Lib.hid hs
        have hsb : decide (limb W 6 < limb V 6) = false := decide_eq_false hs
        clear hs
        by_cases ht : IntKind.u64.wrap (limb W 6 - limb V 6) < carN V D 6
        · have HT := Lib.hid ht
          have htb : decide (IntKind.u64.wrap (limb W 6 - limb V 6) < carN V D 6) = true := decide_eq_true ht
          clear ht
          go_wp2
          go_quiet (fail)
          go_wp2
          go_quiet (fail)
          go_wp2
          exact ⟨⟨7, _, by decide, rfl, is_u64 ((car_is HC.out.2 (car_01 V D 7)).1 (.inr HT.out)), round_world5 w m n W V D 6 (wideO n V) (wideO m W) 77 _ _ (by decide) HC.out.1⟩, by simp [intOf]⟩
        · have HT := Lib.hid ht
          have htb : decide (IntKind.u64.wrap (limb W 6 - limb V 6) < carN V D 6) = false := decide_eq_false ht
          clear ht
          go_wp2
          go_quiet (fail)
          go_wp2
          go_quiet (fail)
          go_wp2
          exact ⟨⟨7, _, by decide, rfl, is_u64 ((car_is HC.out.2 (car_01 V D 7)).2 (fun h => h.elim (Int.not_lt.2 HS.out) (Int.not_lt.2 HT.out))), round_world5 w m n W V D 6 (wideO n V) (wideO m W) 77 _ _ (by decide) HC.out.1⟩, by simp [intOf]⟩
    · have HC := Lib.hid (minus_way (limb W 7) (limb V 7) (carN V D 7) (limb D 7) (carN V D 8) (limb_bd W 7).1 (limb_bd W 7).2 (limb_bd V 7).1 (limb_bd V 7).2 (car_01 V D 7) (car_01 V D 8) (limb_bd D 7).1 (limb_bd D 7).2 (by have e := car_step V D 7; rw [HD.out] at e; exact e))
      unfold mixO wideO nilO
      simp only [mixL]
      by_cases hs : limb W 7 < limb V 7
      · have HS := Lib.hid hs
        go_wp2
        go_quiet (fail)
        go_wp2
        go_quiet (fail)
        go_wp2
        exact ⟨⟨8, _, by decide, rfl, is_u64 ((car_is HC.out.2 (car_01 V D 8)).1 (.inl HS.out)), round_world5 w m n W V D 7 (wideO n V) (wideO m W) 77 _ _ (by decide) HC.out.1⟩, by simp [intOf]⟩
      · have HS := Lib.hid hs
        have hsb : decide (limb W 7 < limb V 7) = false := decide_eq_false hs
        clear hs
        by_cases ht : IntKind.u64.wrap (limb W 7 - limb V 7) < carN V D 7
        · have HT := Lib.hid ht
          have htb : decide (IntKind.u64.wrap (limb W 7 - limb V 7) < carN V D 7) = true := decide_eq_true ht
          clear ht
          go_wp2
          go_quiet (fail)
          go_wp2
          go_quiet (fail)
          go_wp2
          exact ⟨⟨8, _, by decide, rfl, is_u64 ((car_is HC.out.2 (car_01 V D 8)).1 (.inr HT.out)), round_world5 w m n W V D 7 (wideO n V) (wideO m W) 77 _ _ (by decide) HC.out.1⟩, by simp [intOf]⟩
        · have HT := Lib.hid ht
          have htb : decide (IntKind.u64.wrap (limb W 7 - limb V 7) < carN V D 7) = false := decide_eq_false ht
          clear ht
          go_wp2
          go_quiet (fail)
          go_wp2
          go_quiet (fail)
          go_wp2
          exact ⟨⟨8, _, by decide, rfl, is_u64 ((car_is HC.out.2 (car_01 V D 8)).2 (fun h => h.elim (Int.not_lt.2 HS.out) (Int.not_lt.2 HT.out))), round_world5 w m n W V D 7 (wideO n V) (wideO m W) 77 _ _ (by decide) HC.out.1⟩, by simp [intOf]⟩
    · have HC := Lib.hid (minus_way (limb W 8) (limb V 8) (carN V D 8) (limb D 8) (carN V D 9) (limb_bd W 8).1 (limb_bd W 8).2 (limb_bd V 8).1 (limb_bd V 8).2 (car_01 V D 8) (car_01 V D 9) (limb_bd D 8).1 (limb_bd D 8).2 (by have e := car_step V D 8; rw [HD.out] at e; exact e))
      unfold mixO wideO nilO
      simp only [mixL]
      by_cases hs : limb W 8 < limb V 8
      · have HS := Lib.hid hs
        go_wp2
        go_quiet (fail)
        go_wp2
        go_quiet (fail)
        go_wp2
        exact ⟨⟨9, _, by decide, rfl, is_u64 ((car_is HC.out.2 (car_01 V D 9)).1 (.inl HS.out)), round_world5 w m n W V D 8 (wideO n V) (wideO m W) 77 _ _ (by decide) HC.out.1⟩, by simp [intOf]⟩
      · have HS := Lib.hid hs
        have hsb : decide (limb W 8 < limb V 8) = false := decide_eq_false hs
        clear hs
        by_cases ht : IntKind.u64.wrap (limb W 8 - limb V 8) < carN V D 8
        · have HT := Lib.hid ht
          have htb : decide (IntKind.u64.wrap (limb W 8 - limb V 8) < carN V D 8) = true := decide_eq_true ht
          clear ht
          go_wp2
          go_quiet (fail)
          go_wp2
          go_quiet (fail)
          go_wp2
          exact ⟨⟨9, _, by decide, rfl, is_u64 ((car_is HC.out.2 (car_01 V D 9)).1 (.inr HT.out)), round_world5 w m n W V D 8 (wideO n V) (wideO m W) 77 _ _ (by decide) HC.out.1⟩, by simp [intOf]⟩
        · have HT := Lib.hid ht
          have htb : decide (IntKind.u64.wrap (limb W 8 - limb V 8) < carN V D 8) = false := decide_eq_false ht
          clear ht
          go_wp2
          go_quiet (fail)
          go_wp2
          go_quiet (fail)
          go_wp2
          exact ⟨⟨9, _, by decide, rfl, is_u64 ((car_is HC.out.2 (car_01 V D 9)).2 (fun h => h.elim (Int.not_lt.2 HS.out) (Int.not_lt.2 HT.out))), round_world5 w m n W V D 8 (wideO n V) (wideO m W) 77 _ _ (by decide) HC.out.1⟩, by simp [intOf]⟩
    · have HC := Lib.hid (minus_way (limb W 9) (limb V 9) (carN V D 9) (limb D 9) (carN V D 10) (limb_bd W 9).1 (limb_bd W 9).2 (limb_bd V 9).1 (limb_bd V 9).2 (car_01 V D 9) (car_01 V D 10) (limb_bd D 9).1 (limb_bd D 9).2 (by have e := car_step V D 9; rw [HD.out] at e; exact e))
      unfold mixO wideO nilO
      simp only [mixL]
      by_cases hs : limb W 9 < limb V 9
      · have HS := Lib.hid hs
        go_wp2
        go_quiet (fail)
        go_wp2
        go_quiet (fail)
        go_wp2
        exact ⟨⟨10, _, by decide, rfl, is_u64 ((car_is HC.out.2 (car_01 V D 10)).1 (.inl HS.out)), round_world5 w m n W V D 9 (wideO n V) (wideO m W) 77 _ _ (by decide) HC.out.1⟩, by simp [intOf]⟩
      · have HS := Lib.hid hs
        have hsb : decide (limb W 9 < limb V 9) = false := decide_eq_false hs
        clear hs
        by_cases ht : IntKind.u64.wrap (limb W 9 - limb V 9) < carN V D 9
        · have HT := Lib.hid ht
          have htb : decide (IntKind.u64.wrap (limb W 9 - limb V 9) < carN V D 9) = true := decide_eq_true ht
          clear ht
          go_wp2
          go_quiet (fail)
          go_wp2
          go_quiet (fail)
          go_wp2
          exact ⟨⟨10, _, by decide, rfl, is_u64 ((car_is HC.out.2 (car_01 V D 10)).1 (.inr HT.out)), round_world5 w m n W V D 9 (wideO n V) (wideO m W) 77 _ _ (by decide) HC.out.1⟩, by simp [intOf]⟩
        · have HT := Lib.hid ht
          have htb : decide (IntKind.u64.wrap (limb W 9 - limb V 9) < carN V D 9) = false := decide_eq_false ht
          clear ht
          go_wp2
          go_quiet (fail)
          go_wp2
          go_quiet (fail)
          go_wp2
          exact ⟨⟨10, _, by decide, rfl, is_u64 ((car_is HC.out.2 (car_01 V D 10)).2 (fun h => h.elim (Int.not_lt.2 HS.out) (Int.not_lt.2 HT.out))), round_world5 w m n W V D 9 (wideO n V) (wideO m W) 77 _ _ (by decide) HC.out.1⟩, by simp [intOf]⟩
    · unfold mixO wideO nilO
      simp only [mixL]
      go_wp2
      (try simp only [Exit.inBlock, Exit.then])
      refine bodyPost_ret (v := wideV m D) ?_ rfl ⟨rfl, ?_⟩
      · rw [results_one rfl]
        unfold wideV
        go_simp
      · repeat refine Grown.setCell ?_ (by simp <;> omega) _
        exact grown_more (Grown.alloc (Grown.alloc (Grown.alloc (Grown.alloc (Grown.alloc (Grown.refl _) _ _) _ _) _ _) _ _) _ _) _
end Go.Proofs.YtheaeclojljecaaGreat
