/- The walk of ChanceParts. -/
import Derived.Test.YtfdfbgmnfiiipaaHKnown
import Derived.Test.YtfdfbgmnfiiipaaChaLaw
namespace Go.Proofs.Ytfdfbgmnfiiipaa
open Go.RowKit
set_option linter.unusedVariables false
set_option linter.unusedSimpArgs false

def HPRel (w : World) (i : Value) (W : World) : Prop := ∃ k : Int, 0 ≤ k ∧ k ≤ 70000 ∧ i = .int .u32 k ∧ Grown w W

set_option maxRecDepth 100000 in
set_option maxHeartbeats 8000000 in
theorem hparts_walk (a0 : Bool) (a1 a2 : Int) (w1 : (Lit.int .u32 a1).wf = true) (w2 : (Lit.int .u8 a2).wf = true) (w : World) :
    Calls Try.prog 6 #[.bool a0, .int .u32 a1, .int .u8 a2] w fun e w' => e = .returned (.bool true) ∧ Grown w w' := by
  obtain ⟨b0, b1⟩ := bounds_u32 w1
  obtain ⟨b2, b3⟩ := bounds_u8 w2
  clear w1 w2
  have e1 : bits .and .u32 a1 8388607 = a1 % 8388608 := and32 a1 23 b0 b1 (by decide) (by decide) (by decide)
  obtain ⟨m, hm⟩ : ∃ m, a1 % 8388608 = m := ⟨_, rfl⟩
  have m0 : 0 ≤ m ∧ m < 8388608 := by omega
  obtain ⟨m0, m1⟩ := m0
  rw [hm] at e1
  have e2 : bits .or .u32 1065353216 m = 1065353216 + m := or32 127 m 23 m0 (by omega) (by omega) (by omega) (by omega)
  obtain ⟨y, hy⟩ : ∃ y : Int, 1065353216 + m = y := ⟨_, rfl⟩
  rw [hy] at e2
  have y0 : 0 ≤ y ∧ y < 2147483648 := by omega
  obtain ⟨y0, y1⟩ := y0
  have e3 : bits .and .u32 y 65535 = y % 65536 := and32 y 16 y0 (by omega) (by decide) (by decide) (by decide)
  have e4 : bits .or .u32 y 2147483648 = y + 2147483648 := or_zer 2 y true y0 y1
  have HQ := Lib.hid (fun i (i0 : 0 ≤ i) => cha_parts false m i y m0 m1 i0 (by rw [← hy]; show _ = 0 + 1065353216 + m; omega))
  have HR := Lib.hid (fun i (i0 : 0 ≤ i) => cha_parts true m i (y + 2147483648) m0 m1 i0 (by rw [← hy]; show _ = 2147483648 + 1065353216 + m; omega))
  have hr : (y + 2147483648) % 65536 = y % 65536 := by omega
  rw [hr] at HR
  have r0 : 0 ≤ y % 65536 ∧ y % 65536 < 65536 := by omega
  obtain ⟨R, hR⟩ : ∃ R, y % 65536 = R := ⟨_, rfl⟩
  rw [hR] at HQ HR e3 r0
  obtain ⟨r0, r1⟩ := r0
  have z1 : 0 ≤ y / 65536 ∧ y / 65536 ≤ 32767 := by omega
  have z2 : 0 ≤ (y + 2147483648) / 65536 ∧ (y + 2147483648) / 65536 ≤ 65535 := by omega
  obtain ⟨z1, z3⟩ := z1
  obtain ⟨z2, z4⟩ := z2
  have hu : a2 % 4294967296 = a2 := by omega
  have HG := Lib.hid (Grown.refl w)
  clear hm hr hR hy
  cases a0
  all_goals
    go_enter Try.func6, Try.ntmps6
    go_wp2_with (go_at_call 7; refine (known11_any _).mono ?_; rintro e W1 ⟨rfl, hW⟩; replace HG := Lib.hid (show Grown w W1 from grown_trans HG.out hW); clear hW)
    go_loopw [10] (fun i wr => HPRel w i wr) (fun i _ => (70000 - intOf i).toNat)
    case atStart => exact ⟨a2, by omega, by omega, rfl, HG.out⟩
    case round =>
      rename World => wr1
      clear HG
      obtain ⟨i, i0, i1, rfl, hG⟩ := hrel
      have HG := Lib.hid hG
      clear hG
      by_cases c : i < 65536
      · have hq := HQ.out i i0
        have hr := HR.out i i0
        have s1 : IntKind.u32.wrap (i * 65536) = i * 65536 := by rw [IntKind.wrap_u32]; omega
        by_cases c2 : i < R
        all_goals
          first | (rw [if_pos c2] at hq hr) | (rw [if_neg c2] at hq hr)
          have HQ2 := Lib.hid hq
          have HR2 := Lib.hid hr
          clear hq hr
          go_wp2_with (go_at_call 10; refine (hnarrow_any _ _ _ _ (by omega) (by omega) (by omega) (by omega)).mono ?_; rintro e W5 ⟨he, hW⟩; (first | rw [HQ2.out] at he | rw [HR2.out] at he); subst he; replace HG := Lib.hid (show Grown w W5 from grown_trans (by repeat (first | with_reducible exact HG.out | with_reducible refine Grown.setCell ?_ (by simp <;> omega) _ | with_reducible refine Grown.alloc ?_ _ _ | with_reducible refine grown_more ?_ _ | with_reducible refine Grown.drew ?_)) hW); clear hW)
          go_roundw
          case rel => exact ⟨i + 4099, by omega, by omega, by go_num, HG.out⟩
          case measure => simp [intOf]; omega
      · go_wp2
        go_ret
        exact ⟨rfl, HG.out⟩
end Go.Proofs.Ytfdfbgmnfiiipaa
