/- The contracts of the reference's Compare, Less, Min, Max. -/
import Derived.Test.YtheaeclojljecaaNans
import Derived.KernelRfl
import Derived.StillTailTactics
namespace Go.Proofs.Ytheaeclojljecaa
open Go.RowKit
set_option linter.unusedVariables false
set_option linter.unusedSimpArgs false

theorem one_new (W : World) (a : Value) (u : TypeId) : (W.alloc (.cells #[a] u)).cell? ⟨W.heap.size, 0, none⟩ = some a := by go_simp

theorem two_new (W : World) (a b : Value) (u : TypeId) :
    (W.alloc (.cells #[a, b] u)).cell? ⟨W.heap.size, 0, none⟩ = some a ∧ (W.alloc (.cells #[a, b] u)).cell? ⟨W.heap.size, 1, none⟩ = some b := by
  refine ⟨?_, ?_⟩ <;> go_simp

set_option maxHeartbeats 4000000 in
theorem rcompare_any (f a b : Int) (w : World) (a0 : 0 ≤ a) (a1 : a ≤ 4294967295) (b0 : 0 ≤ b) (b1 : b ≤ 4294967295) :
    Calls Try.prog 33 #[.int .i64 f, .int .u32 a, .int .u32 b] w fun e w' => e = .returned (.tuple #[.int .i64 (cmpC f a b), .bool (cmpO f a b)]) ∧ Grown w w' := by
  obtain ⟨NN, hNN⟩ : ∃ NN, (nanB f a || nanB f b) = NN := ⟨_, rfl⟩
  obtain ⟨SS, hSS⟩ : ∃ SS, (sigB f a || sigB f b) = SS := ⟨_, rfl⟩
  obtain ⟨ZA, hZA⟩ : ∃ ZA, nouB f a = ZA := ⟨_, rfl⟩
  obtain ⟨ZB, hZB⟩ : ∃ ZB, nouB f b = ZB := ⟨_, rfl⟩
  obtain ⟨x, hx⟩ : ∃ x, keyI f a = x := ⟨_, rfl⟩
  obtain ⟨y, hy⟩ : ∃ y, keyI f b = y := ⟨_, rfl⟩
  have HM := Lib.hid (show Ending.returned (.tuple #[.int .i64 (cmpC f a b), .bool (cmpO f a b)]) = .returned (.tuple #[.int .i64 (if NN = true then 0 else if (ZA && ZB) = true then 0 else if x < y then -1 else if y < x then 1 else 0), .bool (!NN)]) by
    unfold cmpC cmpO; rw [hNN, hZA, hZB, hx, hy])
  have HNN := Lib.hid hNN
  have HSS := Lib.hid hSS
  have HZA := Lib.hid hZA
  have HZB := Lib.hid hZB
  have HXa := Lib.hid hx
  have HXb := Lib.hid hy
  clear hNN hSS hZA hZB hx hy
  have HC := Lib.hid (two_new w (.int .u32 a) (.int .u32 b) 22)
  have HG := Lib.hid (Grown.alloc (Grown.refl w) #[.int .u32 a, .int .u32 b] 22)
  cases NN
  case true =>
    go_enter Try.func33, Try.ntmps33
    go_wp2_with fail
    generalize (w.alloc _) = W4 at HC HG ⊢
    obtain ⟨y0, y1⟩ := HC.out
    refine (nans2_any f a b _ _ a0 a1 b0 b1 y0 y1).mono ?_
    rintro e w' ⟨he, dm, rfl⟩
    rw [HNN.out, HSS.out] at he
    subst he
    clear y0 y1
    go_wp2
    go_ret2
    exact ⟨(show _ from HM.out).symm ▸ rfl, grown_more HG.out _⟩
  case false =>
    have hcase : (ZA = true ∧ ZB = true) ∨ (ZA = true ∧ ZB = false) ∨ ZA = false := by cases ZA <;> cases ZB <;> simp
    rcases hcase with ⟨rfl, rfl⟩ | hz
    · go_enter Try.func33, Try.ntmps33
      go_wp2_with fail
      generalize (w.alloc _) = W4 at HC HG ⊢
      obtain ⟨y0, y1⟩ := HC.out
      refine (nans2_any f a b _ _ a0 a1 b0 b1 y0 y1).mono ?_
      rintro e w' ⟨he, dm, rfl⟩
      rw [HNN.out, HSS.out] at he
      subst he
      clear y0 y1
      go_wp2_with (go_at_call 54; refine (rnouB_any _ _ _ (by omega) (by omega)).mono ?_; rintro e w' ⟨he, dm, rfl⟩; (first | rw [HZA.out] at he | rw [HZB.out] at he); subst he)
      go_ret2
      exact ⟨(show _ from HM.out).symm ▸ rfl, by repeat (first | with_reducible exact HG.out | with_reducible refine grown_more ?_ _)⟩
    · have hk : x < y ∨ (¬ x < y ∧ y < x) ∨ (¬ x < y ∧ ¬ y < x) := by omega
      rcases hz with ⟨rfl, rfl⟩ | rfl
      · rcases hk with k1 | ⟨k1, k2⟩ | ⟨k1, k2⟩
        · have HQ := Lib.hid (HM.out.trans (show _ = Ending.returned (.tuple #[.int .i64 (-1), .bool true]) by simp [*]))
          go_enter Try.func33, Try.ntmps33
          go_wp2_with fail
          generalize (w.alloc _) = W4 at HC HG ⊢
          obtain ⟨y0, y1⟩ := HC.out
          refine (nans2_any f a b _ _ a0 a1 b0 b1 y0 y1).mono ?_
          rintro e w' ⟨he, dm, rfl⟩
          rw [HNN.out, HSS.out] at he
          subst he
          clear y0 y1
          go_wp2_with (first
            | (go_at_call 54; refine (rnouB_any _ _ _ (by omega) (by omega)).mono ?_; rintro e w' ⟨he, dm, rfl⟩; (first | rw [HZA.out] at he | rw [HZB.out] at he); subst he)
            | (go_at_call 16; refine (rkey_any _ _ _ (by omega) (by omega)).mono ?_; rintro e w' ⟨he, dm, rfl⟩; (first | rw [HXa.out] at he | rw [HXb.out] at he); subst he))
          go_ret2
          exact ⟨HQ.out.symm, by repeat (first | with_reducible exact HG.out | with_reducible refine grown_more ?_ _)⟩
        · have HQ := Lib.hid (HM.out.trans (show _ = Ending.returned (.tuple #[.int .i64 (1), .bool true]) by simp [*]))
          go_enter Try.func33, Try.ntmps33
          go_wp2_with fail
          generalize (w.alloc _) = W4 at HC HG ⊢
          obtain ⟨y0, y1⟩ := HC.out
          refine (nans2_any f a b _ _ a0 a1 b0 b1 y0 y1).mono ?_
          rintro e w' ⟨he, dm, rfl⟩
          rw [HNN.out, HSS.out] at he
          subst he
          clear y0 y1
          go_wp2_with (first
            | (go_at_call 54; refine (rnouB_any _ _ _ (by omega) (by omega)).mono ?_; rintro e w' ⟨he, dm, rfl⟩; (first | rw [HZA.out] at he | rw [HZB.out] at he); subst he)
            | (go_at_call 16; refine (rkey_any _ _ _ (by omega) (by omega)).mono ?_; rintro e w' ⟨he, dm, rfl⟩; (first | rw [HXa.out] at he | rw [HXb.out] at he); subst he))
          go_ret2
          exact ⟨HQ.out.symm, by repeat (first | with_reducible exact HG.out | with_reducible refine grown_more ?_ _)⟩
        · have HQ := Lib.hid (HM.out.trans (show _ = Ending.returned (.tuple #[.int .i64 (0), .bool true]) by simp [*]))
          go_enter Try.func33, Try.ntmps33
          go_wp2_with fail
          generalize (w.alloc _) = W4 at HC HG ⊢
          obtain ⟨y0, y1⟩ := HC.out
          refine (nans2_any f a b _ _ a0 a1 b0 b1 y0 y1).mono ?_
          rintro e w' ⟨he, dm, rfl⟩
          rw [HNN.out, HSS.out] at he
          subst he
          clear y0 y1
          go_wp2_with (first
            | (go_at_call 54; refine (rnouB_any _ _ _ (by omega) (by omega)).mono ?_; rintro e w' ⟨he, dm, rfl⟩; (first | rw [HZA.out] at he | rw [HZB.out] at he); subst he)
            | (go_at_call 16; refine (rkey_any _ _ _ (by omega) (by omega)).mono ?_; rintro e w' ⟨he, dm, rfl⟩; (first | rw [HXa.out] at he | rw [HXb.out] at he); subst he))
          go_ret2
          exact ⟨HQ.out.symm, by repeat (first | with_reducible exact HG.out | with_reducible refine grown_more ?_ _)⟩
      · rcases hk with k1 | ⟨k1, k2⟩ | ⟨k1, k2⟩
        · have HQ := Lib.hid (HM.out.trans (show _ = Ending.returned (.tuple #[.int .i64 (-1), .bool true]) by simp [*]))
          go_enter Try.func33, Try.ntmps33
          go_wp2_with fail
          generalize (w.alloc _) = W4 at HC HG ⊢
          obtain ⟨y0, y1⟩ := HC.out
          refine (nans2_any f a b _ _ a0 a1 b0 b1 y0 y1).mono ?_
          rintro e w' ⟨he, dm, rfl⟩
          rw [HNN.out, HSS.out] at he
          subst he
          clear y0 y1
          go_wp2_with (first
            | (go_at_call 54; refine (rnouB_any _ _ _ (by omega) (by omega)).mono ?_; rintro e w' ⟨he, dm, rfl⟩; (first | rw [HZA.out] at he | rw [HZB.out] at he); subst he)
            | (go_at_call 16; refine (rkey_any _ _ _ (by omega) (by omega)).mono ?_; rintro e w' ⟨he, dm, rfl⟩; (first | rw [HXa.out] at he | rw [HXb.out] at he); subst he))
          go_ret2
          exact ⟨HQ.out.symm, by repeat (first | with_reducible exact HG.out | with_reducible refine grown_more ?_ _)⟩
        · have HQ := Lib.hid (HM.out.trans (show _ = Ending.returned (.tuple #[.int .i64 (1), .bool true]) by simp [*]))
          go_enter Try.func33, Try.ntmps33
          go_wp2_with fail
          generalize (w.alloc _) = W4 at HC HG ⊢
          obtain ⟨y0, y1⟩ := HC.out
          refine (nans2_any f a b _ _ a0 a1 b0 b1 y0 y1).mono ?_
          rintro e w' ⟨he, dm, rfl⟩
          rw [HNN.out, HSS.out] at he
          subst he
          clear y0 y1
          go_wp2_with (first
            | (go_at_call 54; refine (rnouB_any _ _ _ (by omega) (by omega)).mono ?_; rintro e w' ⟨he, dm, rfl⟩; (first | rw [HZA.out] at he | rw [HZB.out] at he); subst he)
            | (go_at_call 16; refine (rkey_any _ _ _ (by omega) (by omega)).mono ?_; rintro e w' ⟨he, dm, rfl⟩; (first | rw [HXa.out] at he | rw [HXb.out] at he); subst he))
          go_ret2
          exact ⟨HQ.out.symm, by repeat (first | with_reducible exact HG.out | with_reducible refine grown_more ?_ _)⟩
        · have HQ := Lib.hid (HM.out.trans (show _ = Ending.returned (.tuple #[.int .i64 (0), .bool true]) by simp [*]))
          go_enter Try.func33, Try.ntmps33
          go_wp2_with fail
          generalize (w.alloc _) = W4 at HC HG ⊢
          obtain ⟨y0, y1⟩ := HC.out
          refine (nans2_any f a b _ _ a0 a1 b0 b1 y0 y1).mono ?_
          rintro e w' ⟨he, dm, rfl⟩
          rw [HNN.out, HSS.out] at he
          subst he
          clear y0 y1
          go_wp2_with (first
            | (go_at_call 54; refine (rnouB_any _ _ _ (by omega) (by omega)).mono ?_; rintro e w' ⟨he, dm, rfl⟩; (first | rw [HZA.out] at he | rw [HZB.out] at he); subst he)
            | (go_at_call 16; refine (rkey_any _ _ _ (by omega) (by omega)).mono ?_; rintro e w' ⟨he, dm, rfl⟩; (first | rw [HXa.out] at he | rw [HXb.out] at he); subst he))
          go_ret2
          exact ⟨HQ.out.symm, by repeat (first | with_reducible exact HG.out | with_reducible refine grown_more ?_ _)⟩

set_option maxHeartbeats 4000000 in
theorem rless_any (f a b : Int) (w : World) (a0 : 0 ≤ a) (a1 : a ≤ 4294967295) (b0 : 0 ≤ b) (b1 : b ≤ 4294967295) :
    Calls Try.prog 18 #[.int .i64 f, .int .u32 a, .int .u32 b] w fun e w' => e = .returned (.bool (lesB f a b)) ∧ Grown w w' := by
  obtain ⟨C, hC⟩ : ∃ C, cmpC f a b = C := ⟨_, rfl⟩
  obtain ⟨O, hO⟩ : ∃ O, cmpO f a b = O := ⟨_, rfl⟩
  have HM := Lib.hid (show lesB f a b = (O && decide (C < 0)) by unfold lesB; rw [hC, hO])
  have HCO := Lib.hid (show Ending.returned (.tuple #[.int .i64 (cmpC f a b), .bool (cmpO f a b)]) = .returned (.tuple #[.int .i64 C, .bool O]) by rw [hC, hO])
  clear hC hO
  cases O
  all_goals
    go_enter Try.func18, Try.ntmps18
    go_wp2_with (go_at_call 33; refine (rcompare_any _ _ _ _ (by omega) (by omega) (by omega) (by omega)).mono ?_; rintro e W1 ⟨he, hW1⟩; rw [HCO.out] at he; subst he; have HG := Lib.hid hW1; clear hW1)
    go_ret
    exact ⟨ret_bool (by rw [HM.out]; simp), HG.out⟩

end Go.Proofs.Ytheaeclojljecaa
