/- The reference's FromInt of small whole numbers; such numbers without their signs. -/
import Derived.Test.YtianheeefhemhaaRows
import Derived.Test.YtianheeefhemhaaQuoBack
import Derived.Test.YtianheeefhemhaaRRdT
import Derived.Test.YtianheeefhemhaaRKey
import Derived.Test.YtianheeefhemhaaWorld
namespace Go.Proofs.Ytianheeefhemhaa
open Go.RowKit
set_option linter.unusedVariables false
set_option linter.unusedSimpArgs false

/-- Of nought. -/
theorem from_zero (f mode : Int) : PackE f mode false (valN (clampE 0) 0 false) = excE 0 false := by
  rw [show valN (clampE 0) 0 false = 0 by unfold valN; simp]
  exact pack_zero_is f mode false

/-- Of a number that isn't nought. -/
theorem from_int (f mode : Int) (s : Bool) (n : Nat) (z e : Int) (M : Nat) (h : IsInt f s n z M e) : PackE f mode s (valN (clampE 0) (n : Int) false) = excE z false := by
  obtain ⟨E, hE⟩ : ∃ E : Nat, E = 10100 := ⟨_, rfl⟩
  rw [toNat_val 0 (n : Int) false n E (by rw [clamp_in _ (by omega) (by omega)]; omega) rfl, Bool.toNat_false, Nat.add_zero]
  exact int_pack f mode s n z e M h E hE

/-- Without its sign it is the number without a sign. -/
theorem int_abs (f : Int) (s : Bool) (n : Nat) (z e : Int) (M : Nat) (h : IsInt f s n z M e) : IsInt f false n (z % sgb f) M e ∧ bits .andNot .u32 z (zerI f true) = z % sgb f := by
  have hp := parts_sum f z h.lo h.hi
  have hm := h.hi
  have hl := h.lo
  have hF := fF_bd f z
  have hX := fX_bd f z
  have hlt := fin_lt f z h.fin
  have ht := topx_pos f
  have key : z % sgb f = fX f z * hid f + fF f z ∧ bits .and .u32 z (msk f) = z := by
    rw [h.sgn] at hp
    unfold zerI at hp
    rcases fmt_cases f with ⟨rfl, hf⟩ | ⟨rfl, hf⟩ | ⟨⟨c0, c1⟩, hf⟩ <;> obtain ⟨e1, e2, e3, e4, e5, e6, e7, e8, e9⟩ := hf
    all_goals
      rw [e3] at hp hF ⊢
      rw [e4] at hlt
      rw [e5] at hp ⊢
      rw [e8] at hm ⊢
      refine ⟨?_, ?_⟩
      · cases s <;> simp at hp <;> omega
      · first
          | (rw [and32 _ 16 (p := 65536) (by omega) (by omega) (by decide) (by decide) (by decide)]; omega)
          | (rw [and32 _ 32 (p := 4294967296) (by omega) (by omega) (by decide) (by decide) (by decide)]; omega)
  obtain ⟨p1, p2, p3, p4, p5, p6, p7⟩ := parts_make f false (fX f z) (fF f z) (z % sgb f) hX.1 hlt hF.1 hF.2 (by rw [show zerI f false = 0 from rfl]; omega)
  have hc : clsI f (z % sgb f) = clsI f z := by unfold clsI; rw [p1, p2]
  have hE : unE f (z % sgb f) = unE f z := by unfold unE; rw [p1]
  have hM : unM f (z % sgb f) = unM f z := by unfold unM; rw [p1, p2]
  refine ⟨⟨p4, p5, p6, p7, p3, ?_, ?_, by rw [hM, h.man], by rw [hE, h.ex], h.pos, h.e0, h.e1, h.amt⟩, ?_⟩
  · have := h.nan; unfold nanB at *; rw [hc]; exact this
  · have := h.inf; unfold infB at *; rw [hc]; exact this
  · have := no_sign f z h.lo h.top
    rw [key.2] at this
    exact this

set_option maxHeartbeats 1000000 in
theorem rfrom_any (f mode v z : Int) (w : World) (v0 : -14 ≤ v) (v1 : v ≤ 14) (h1 : v < 0 → PackE f mode true (valN (clampE 0) (-v) false) = excE z false) (h2 : 0 ≤ v → PackE f mode false (valN (clampE 0) v false) = excE z false) :
    Calls Try.prog 15 #[.int .i64 f, .int .i64 mode, .int .i64 v] w fun e w' => e = .returned (.tuple #[.int .u32 z, .agg #[.bool false, .bool false, .bool false, .bool false, .bool false]]) ∧ Grown w w' := by
  have HE := Lib.hid (exc_new w 29)
  have HG := Lib.hid (Grown.alloc (Grown.refl w) #[.bool false, .bool false, .bool false, .bool false, .bool false] 29)
  have H1 := Lib.hid h1
  have H2 := Lib.hid h2
  clear h1 h2
  by_cases c : v < 0
  · have HP := Lib.hid (H1.out c)
    have hw : IntKind.u64.wrap (-IntKind.u64.wrap v) = -v := by rw [IntKind.wrap_u64, IntKind.wrap_u64]; omega
    have hw2 : IntKind.u64.wrap v = 18446744073709551616 + v := by rw [IntKind.wrap_u64]; omega
    have hw3 : IntKind.u64.wrap (-(18446744073709551616 + v)) = -v := by rw [IntKind.wrap_u64]; omega
    go_enter Try.func15, Try.ntmps15
    go_wp2_with fail
    refine (rpack_any _ _ _ _ (-v) _ _ (by omega) (by omega) (by omega) (by omega)).mono ?_
    rintro e W1 ⟨he, hW1⟩
    rw [HP.out] at he
    unfold excE at he
    subst he
    have HW1 := Lib.hid hW1
    clear hW1
    obtain ⟨xb, x0, x1, x2, x3, x4, z0, z1, z2, z3, z4⟩ := HE.out.grown HW1.out
    go_wp2
    (try simp only [Exit.inBlock, Exit.then])
    refine bodyPost_ret (v := .tuple #[.int .u32 z, .agg #[.bool false, .bool false, .bool false, .bool false, .bool false]]) ?_ rfl ⟨rfl, ?_⟩
    · rw [results_tmp_cell rfl]
      go_simp
    · have HGW := Lib.hid (grown_trans HG.out HW1.out)
      repeat (first | with_reducible exact HGW.out | with_reducible refine Grown.setCell ?_ (by simp <;> omega) _ | with_reducible refine Grown.alloc ?_ _ _ | with_reducible refine grown_more ?_ _)
  · have HP := Lib.hid (H2.out (by omega))
    have hw2 : IntKind.u64.wrap v = v := by rw [IntKind.wrap_u64]; omega
    go_enter Try.func15, Try.ntmps15
    go_wp2_with fail
    refine (rpack_any _ _ _ _ v _ _ (by omega) (by omega) (by omega) (by omega)).mono ?_
    rintro e W1 ⟨he, hW1⟩
    rw [HP.out] at he
    unfold excE at he
    subst he
    have HW1 := Lib.hid hW1
    clear hW1
    obtain ⟨xb, x0, x1, x2, x3, x4, z0, z1, z2, z3, z4⟩ := HE.out.grown HW1.out
    go_wp2
    (try simp only [Exit.inBlock, Exit.then])
    refine bodyPost_ret (v := .tuple #[.int .u32 z, .agg #[.bool false, .bool false, .bool false, .bool false, .bool false]]) ?_ rfl ⟨rfl, ?_⟩
    · rw [results_tmp_cell rfl]
      go_simp
    · have HGW := Lib.hid (grown_trans HG.out HW1.out)
      repeat (first | with_reducible exact HGW.out | with_reducible refine Grown.setCell ?_ (by simp <;> omega) _ | with_reducible refine Grown.alloc ?_ _ _ | with_reducible refine grown_more ?_ _)
end Go.Proofs.Ytianheeefhemhaa
