/- What KernShapes asks of its answers. (Written by gen55.py.) -/
import Derived.Test.YtmipefapjehkaaaFrame
import Derived.Test.YtmipefapjehkaaaSeatT
import Derived.Test.YtmipefapjehkaaaKern
import Derived.Test.YtmipefapjehkaaaKeTurn
import Derived.BigQuiet
namespace Go.Proofs.Ytmipefapjehkaaa
open Go Go.RowKit
set_option linter.unusedVariables false
set_option linter.unusedSimpArgs false

/-- A fact that no walk sees. -/
structure Kept (p : Prop) : Type where
  out : p

theorem kcode_any (b : Bool) (w : World) : Calls Try.prog 25 #[.bool b] w fun e w' => e = .returned (.int .i64 (if b then 0 else 21)) ∧ w = w' := by
  cases b
  all_goals
    go_enter Try.func25, Try.ntmps25
    go_wp2
    go_ret
    exact ⟨rfl, rfl⟩

theorem kcode_no (w : World) : Calls Try.prog 25 #[.bool false] w fun e w' => e = .returned (.int .i64 21) ∧ w = w' := kcode_any false w

theorem kcode_yes (w : World) : Calls Try.prog 25 #[.bool true] w fun e w' => e = .returned (.int .i64 0) ∧ w = w' := kcode_any true w

set_option maxHeartbeats 1000000 in
theorem kok_any (E R C : Int) (F : Int) (ad : Option Addr) (n c : Nat) (rows cols : Int) (w : World) (h : (E = 0 ∧ R = rows ∧ C = cols ∧ (n : Int) = rows * cols ∧ 0 ≤ rows ∧ rows ≤ 4096 ∧ 0 ≤ cols ∧ cols ≤ 4096) ∨ (E = 21 ∧ n = 0)) :
    Calls Try.prog 24 #[.int .i64 E, .int .i64 E, .agg #[.int .i64 R, .int .i64 C, .int .i64 F, .slice ad n c], .int .i64 rows, .int .i64 cols] w fun e w' => e = .returned (.bool true) ∧ Grown w w' := by
  rcases h with ⟨rfl, rfl, rfl, h, h1, h2, h3, h4⟩ | ⟨rfl, rfl⟩
  · have hp := ten_mul R C 4096 4096 h1 h2 h3 h4
    obtain ⟨P, hP⟩ : ∃ P, R * C = P := ⟨_, rfl⟩
    have hw : IntKind.i64.wrap (R * C) = P := by rw [hP] at hp ⊢; rw [IntKind.wrap_i64]; omega
    rw [hP] at h
    have hn : ((n : Int) == P) = true := beq_iff_eq.2 h
    clear h hP hp h1 h2 h3 h4
    go_enter Try.func24, Try.ntmps24
    go_wp2
    go_ret
    exact ⟨rfl, gr⟩
  · go_enter Try.func24, Try.ntmps24
    go_wp2
    go_ret
    exact ⟨rfl, gr⟩

/-- A product's shape, or why there is none. -/
theorem prod_shape (a b : PT) (ta tb : Bool) (ha : a.right = true) (hb : b.right = true) :
    prodX a b ta tb = (if (prodK a ta == prodM b tb) then 0 else 21) ∧
    ((prodX a b ta tb = 0 ∧ (prodT a b ta tb).R = prodM a ta ∧ (prodT a b ta tb).C = prodK b tb ∧ ((prodT a b ta tb).n : Int) = prodM a ta * prodK b tb ∧ 0 ≤ prodM a ta ∧ prodM a ta ≤ 4096 ∧ 0 ≤ prodK b tb ∧ prodK b tb ≤ 4096) ∨ (prodX a b ta tb = 21 ∧ (prodT a b ta tb).n = 0)) := by
  have e : prodOk a b ta tb = (prodK a ta == prodM b tb) := by unfold prodOk; rw [ha, hb]; rfl
  obtain ⟨⟨h1, h2, h3, h4⟩, _⟩ := rightB_yes ha
  obtain ⟨⟨h5, h6, h7, h8⟩, _⟩ := rightB_yes hb
  have m1 : 0 ≤ prodM a ta ∧ prodM a ta ≤ 4096 := by unfold prodM; split <;> exact ⟨by assumption, by assumption⟩
  have m2 : 0 ≤ prodK b tb ∧ prodK b tb ≤ 4096 := by unfold prodK; split <;> exact ⟨by assumption, by assumption⟩
  unfold prodX prodT
  rw [e]
  cases c : (prodK a ta == prodM b tb)
  · exact ⟨rfl, .inr ⟨rfl, rfl⟩⟩
  · refine ⟨rfl, .inl ⟨rfl, rfl, rfl, ?_, m1.1, m1.2, m2.1, m2.2⟩⟩
    show (((prodM a ta).toNat * (prodK b tb).toNat : Nat) : Int) = _
    rw [Int.natCast_mul, Int.toNat_of_nonneg m1.1, Int.toNat_of_nonneg m2.1]
end Go.Proofs.Ytmipefapjehkaaa
