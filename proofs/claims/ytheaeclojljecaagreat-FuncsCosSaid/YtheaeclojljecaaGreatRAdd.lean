/- The contract of the reference's Add. (Written by gen7.py.) -/
import Derived.Test.YtheaeclojljecaaGreatRows
import Derived.Test.YtheaeclojljecaaGreatRFmt
import Derived.Test.YtheaeclojljecaaGreatWide
import Derived.Test.YtheaeclojljecaaGreatNans
import Derived.Test.YtheaeclojljecaaGreatTotal
import Derived.Test.YtheaeclojljecaaGreatAddMath
import Derived.Test.YtheaeclojljecaaGreatWorld
namespace Go.Proofs.YtheaeclojljecaaGreat
open Go.RowKit
set_option linter.unusedVariables false
set_option linter.unusedSimpArgs false

theorem spread_unp (f v : Int) (w : World) : Calls Tryz.prog 104 #[.bool (fS f v), .int .i64 (unE f v), .int .u64 (unM f v)] w fun e w' => e = .returned (wideV (fS f v) (amtE (unE f v) (unM f v))) ∧ Grown w w' := by
  obtain ⟨e0, e1⟩ := unE_bd f v
  have e2 := unE_top f v
  obtain ⟨m0, m1⟩ := unM_bd f v
  rw [← spr_amt (unE f v) (unM f v) (by omega)]
  exact spread_any (fS f v) (unE f v) (unM f v) w ((unE f v + 298) / 64).toNat ((unE f v + 298) % 64).toNat (by omega) (by omega) (by omega) m0 (by omega)

theorem tot_shape (f mode : Int) (n : Bool) (V : Nat) (m : Bool) (W : Nat) : ∃ (v : Int) (b1 b2 b3 b4 b5 : Bool), totE f mode n V m W = .returned (.tuple #[.int .u32 v, .agg #[.bool b1, .bool b2, .bool b3, .bool b4, .bool b5]]) := by
  unfold totE excE PackE
  (repeat' split) <;> exact ⟨_, _, _, _, _, _, rfl⟩

theorem words_cells (W : World) (a b : Value) (C : Array Value) (t u : TypeId) :
    ((W.alloc (.cells C t)).alloc (.cells #[a, b] u)).cell? ⟨W.heap.size + 1, 0, none⟩ = some a
    ∧ ((W.alloc (.cells C t)).alloc (.cells #[a, b] u)).cell? ⟨W.heap.size + 1, 1, none⟩ = some b := by
  refine ⟨?_, ?_⟩ <;> go_simp

set_option maxRecDepth 100000 in
set_option maxHeartbeats 2000000 in
theorem radd_any (f mode a b : Int) (w : World) (a0 : 0 ≤ a) (a1 : a ≤ 4294967295) (b0 : 0 ≤ b) (b1 : b ≤ 4294967295) :
    Calls Tryz.prog 81 #[.int .i64 f, .int .i64 mode, .int .u32 a, .int .u32 b] w fun e w' => e = addE f mode a b ∧ Grown w w' := by
  have HE := Lib.hid ((exc_new w 41).under1 #[.int .u32 a, .int .u32 b] 22)
  have HG := Lib.hid (Grown.alloc (Grown.alloc (Grown.refl w) #[.bool false, .bool false, .bool false, .bool false, .bool false] 41) #[.int .u32 a, .int .u32 b] 22)
  have HC := Lib.hid (words_cells w (.int .u32 a) (.int .u32 b) #[.bool false, .bool false, .bool false, .bool false, .bool false] 41 22)
  obtain ⟨NN, hNN⟩ : ∃ NN, (nanB f a || nanB f b) = NN := ⟨_, rfl⟩
  obtain ⟨SS, hSS⟩ : ∃ SS, (sigB f a || sigB f b) = SS := ⟨_, rfl⟩
  obtain ⟨IA, hIA⟩ : ∃ IA, infB f a = IA := ⟨_, rfl⟩
  obtain ⟨IB, hIB⟩ : ∃ IB, infB f b = IB := ⟨_, rfl⟩
  obtain ⟨ZA, hZA⟩ : ∃ ZA, nouB f a = ZA := ⟨_, rfl⟩
  obtain ⟨ZB, hZB⟩ : ∃ ZB, nouB f b = ZB := ⟨_, rfl⟩
  have HNN := Lib.hid hNN
  have HSS := Lib.hid hSS
  have HIA := Lib.hid hIA
  have HIB := Lib.hid hIB
  have HZA := Lib.hid hZA
  have HZB := Lib.hid hZB
  have HAdd := Lib.hid (show addE f mode a b = if NN = true then excE (nanI f) SS else if (IA && IB && (fS f a != fS f b)) = true then excE (nanI f) true
    else if IA = true then excE (infI f (fS f a)) false else if IB = true then excE (infI f (fS f b)) false
    else finE f mode (fS f a) (amtE (unE f a) (unM f a)) (fS f b) (amtE (unE f b) (unM f b)) by unfold addE; rw [hNN, hSS, hIA, hIB])
  clear hNN hSS hIA hIB hZA hZB
  cases NN
  case true =>
    have HQ := Lib.hid (HAdd.out.trans (if_pos rfl))
    clear HAdd
    go_enter Tryz.func81, Tryz.ntmps81
    go_wp2_with fail
    generalize ((w.alloc _).alloc _) = W4 at HE HG HC ⊢
    obtain ⟨y0, y1⟩ := HC.out
    refine (nans2_any f a b _ _ a0 a1 b0 b1 y0 y1).mono ?_
    rintro e w' ⟨he, m, rfl⟩
    rw [HNN.out, HSS.out] at he
    subst he
    clear y0 y1
    obtain ⟨xb, x0, x1, x2, x3, x4, z0, z1, z2, z3, z4⟩ := HE.out
    go_wp2_with (first
      | (go_at_call 86; refine (rinfB_any _ _ _ (by omega) (by omega)).mono ?_; rintro e w' ⟨he, m, rfl⟩; (first | rw [HIA.out] at he | rw [HIB.out] at he); subst he)
      | (go_at_call 85; refine (rnouB_any _ _ _ (by omega) (by omega)).mono ?_; rintro e w' ⟨he, m, rfl⟩; (first | rw [HZA.out] at he | rw [HZB.out] at he); subst he)
      | (go_at_call 84; refine (rneg_any _ _ _ (by omega) (by omega)).mono ?_; rintro e w' ⟨rfl, m, rfl⟩)
      | (go_at_call 83; refine (rnan_any _ _).mono ?_; rintro e w' ⟨rfl, m, rfl⟩)
      | (go_at_call 28; refine (rmask_any _ _).mono ?_; rintro e w' ⟨rfl, rfl⟩))
    (try simp only [Exit.inBlock, Exit.then])
    refine bodyPost_ret (v := .tuple #[.int .u32 (nanI f), .agg #[.bool SS, .bool false, .bool false, .bool false, .bool false]]) ?_ rfl ⟨(excE_is _ _).trans HQ.out.symm, ?_⟩
    · rw [results_tmp_cell rfl]
      go_simp
    · repeat refine Grown.setCell ?_ (by simp <;> omega) _
      exact grown_more HG.out _

  case false =>
    have HAd2 := Lib.hid (HAdd.out.trans (if_neg (by decide)))
    clear HAdd
    have HAdd := HAd2
    clear HAd2
    have ma := fun h => mask_inf f a a0 a1 (HIA.out.trans h)
    have mb := fun h => mask_inf f b b0 b1 (HIB.out.trans h)
    have MA := Lib.hid ma
    have MB := Lib.hid mb
    clear ma mb
    cases IA
    case true =>
      have hm := MA.out rfl
      cases IB
      case true =>
        by_cases hs : (fS f a != fS f b) = true
        · have hs2 : (fS f a == fS f b) = false := by simpa [bne] using hs
          have HQ := Lib.hid (HAdd.out.trans (if_pos (by rw [hs]; rfl)))
          clear HAdd
          go_enter Tryz.func81, Tryz.ntmps81
          go_wp2_with fail
          generalize ((w.alloc _).alloc _) = W4 at HE HG HC ⊢
          obtain ⟨y0, y1⟩ := HC.out
          refine (nans2_any f a b _ _ a0 a1 b0 b1 y0 y1).mono ?_
          rintro e w' ⟨he, m, rfl⟩
          rw [HNN.out, HSS.out] at he
          subst he
          clear y0 y1
          obtain ⟨xb, x0, x1, x2, x3, x4, z0, z1, z2, z3, z4⟩ := HE.out
          go_wp2_with (first
            | (go_at_call 86; refine (rinfB_any _ _ _ (by omega) (by omega)).mono ?_; rintro e w' ⟨he, m, rfl⟩; (first | rw [HIA.out] at he | rw [HIB.out] at he); subst he)
            | (go_at_call 85; refine (rnouB_any _ _ _ (by omega) (by omega)).mono ?_; rintro e w' ⟨he, m, rfl⟩; (first | rw [HZA.out] at he | rw [HZB.out] at he); subst he)
            | (go_at_call 84; refine (rneg_any _ _ _ (by omega) (by omega)).mono ?_; rintro e w' ⟨rfl, m, rfl⟩)
            | (go_at_call 83; refine (rnan_any _ _).mono ?_; rintro e w' ⟨rfl, m, rfl⟩)
            | (go_at_call 28; refine (rmask_any _ _).mono ?_; rintro e w' ⟨rfl, rfl⟩))
          (try simp only [Exit.inBlock, Exit.then])
          refine bodyPost_ret (v := .tuple #[.int .u32 (nanI f), .agg #[.bool true, .bool false, .bool false, .bool false, .bool false]]) ?_ rfl ⟨(excE_is _ _).trans HQ.out.symm, ?_⟩
          · rw [results_tmp_cell rfl]
            go_simp
          · repeat refine Grown.setCell ?_ (by simp <;> omega) _
            exact grown_more HG.out _

        · have hs' : (fS f a != fS f b) = false := (Bool.not_eq_true _).mp hs
          have hs2 : (fS f a == fS f b) = true := by simpa [bne] using hs'
          clear hs
          have HQ := Lib.hid (HAdd.out.trans ((if_neg (by rw [hs']; decide)).trans (if_pos rfl)))
          clear HAdd
          go_enter Tryz.func81, Tryz.ntmps81
          go_wp2_with fail
          generalize ((w.alloc _).alloc _) = W4 at HE HG HC ⊢
          obtain ⟨y0, y1⟩ := HC.out
          refine (nans2_any f a b _ _ a0 a1 b0 b1 y0 y1).mono ?_
          rintro e w' ⟨he, m, rfl⟩
          rw [HNN.out, HSS.out] at he
          subst he
          clear y0 y1
          obtain ⟨xb, x0, x1, x2, x3, x4, z0, z1, z2, z3, z4⟩ := HE.out
          go_wp2_with (first
            | (go_at_call 86; refine (rinfB_any _ _ _ (by omega) (by omega)).mono ?_; rintro e w' ⟨he, m, rfl⟩; (first | rw [HIA.out] at he | rw [HIB.out] at he); subst he)
            | (go_at_call 85; refine (rnouB_any _ _ _ (by omega) (by omega)).mono ?_; rintro e w' ⟨he, m, rfl⟩; (first | rw [HZA.out] at he | rw [HZB.out] at he); subst he)
            | (go_at_call 84; refine (rneg_any _ _ _ (by omega) (by omega)).mono ?_; rintro e w' ⟨rfl, m, rfl⟩)
            | (go_at_call 83; refine (rnan_any _ _).mono ?_; rintro e w' ⟨rfl, m, rfl⟩)
            | (go_at_call 28; refine (rmask_any _ _).mono ?_; rintro e w' ⟨rfl, rfl⟩))
          (try simp only [Exit.inBlock, Exit.then])
          refine bodyPost_ret (v := .tuple #[.int .u32 (infI f (fS f a)), .agg #[.bool false, .bool false, .bool false, .bool false, .bool false]]) ?_ rfl ⟨(excE_is _ _).trans HQ.out.symm, ?_⟩
          · rw [results_tmp_cell rfl]
            go_simp
          · repeat refine Grown.setCell ?_ (by simp <;> omega) _
            exact grown_more HG.out _

      case false =>
        have HQ := Lib.hid (HAdd.out.trans ((if_neg (by simp)).trans (if_pos rfl)))
        clear HAdd
        go_enter Tryz.func81, Tryz.ntmps81
        go_wp2_with fail
        generalize ((w.alloc _).alloc _) = W4 at HE HG HC ⊢
        obtain ⟨y0, y1⟩ := HC.out
        refine (nans2_any f a b _ _ a0 a1 b0 b1 y0 y1).mono ?_
        rintro e w' ⟨he, m, rfl⟩
        rw [HNN.out, HSS.out] at he
        subst he
        clear y0 y1
        obtain ⟨xb, x0, x1, x2, x3, x4, z0, z1, z2, z3, z4⟩ := HE.out
        go_wp2_with (first
          | (go_at_call 86; refine (rinfB_any _ _ _ (by omega) (by omega)).mono ?_; rintro e w' ⟨he, m, rfl⟩; (first | rw [HIA.out] at he | rw [HIB.out] at he); subst he)
          | (go_at_call 85; refine (rnouB_any _ _ _ (by omega) (by omega)).mono ?_; rintro e w' ⟨he, m, rfl⟩; (first | rw [HZA.out] at he | rw [HZB.out] at he); subst he)
          | (go_at_call 84; refine (rneg_any _ _ _ (by omega) (by omega)).mono ?_; rintro e w' ⟨rfl, m, rfl⟩)
          | (go_at_call 83; refine (rnan_any _ _).mono ?_; rintro e w' ⟨rfl, m, rfl⟩)
          | (go_at_call 28; refine (rmask_any _ _).mono ?_; rintro e w' ⟨rfl, rfl⟩))
        (try simp only [Exit.inBlock, Exit.then])
        refine bodyPost_ret (v := .tuple #[.int .u32 (infI f (fS f a)), .agg #[.bool false, .bool false, .bool false, .bool false, .bool false]]) ?_ rfl ⟨(excE_is _ _).trans HQ.out.symm, ?_⟩
        · rw [results_tmp_cell rfl]
          go_simp
        · repeat refine Grown.setCell ?_ (by simp <;> omega) _
          exact grown_more HG.out _

    case false =>
      cases IB
      case true =>
        have hm := MB.out rfl
        have HQ := Lib.hid (HAdd.out.trans ((if_neg (by simp)).trans ((if_neg (by decide)).trans (if_pos rfl))))
        clear HAdd
        go_enter Tryz.func81, Tryz.ntmps81
        go_wp2_with fail
        generalize ((w.alloc _).alloc _) = W4 at HE HG HC ⊢
        obtain ⟨y0, y1⟩ := HC.out
        refine (nans2_any f a b _ _ a0 a1 b0 b1 y0 y1).mono ?_
        rintro e w' ⟨he, m, rfl⟩
        rw [HNN.out, HSS.out] at he
        subst he
        clear y0 y1
        obtain ⟨xb, x0, x1, x2, x3, x4, z0, z1, z2, z3, z4⟩ := HE.out
        go_wp2_with (first
          | (go_at_call 86; refine (rinfB_any _ _ _ (by omega) (by omega)).mono ?_; rintro e w' ⟨he, m, rfl⟩; (first | rw [HIA.out] at he | rw [HIB.out] at he); subst he)
          | (go_at_call 85; refine (rnouB_any _ _ _ (by omega) (by omega)).mono ?_; rintro e w' ⟨he, m, rfl⟩; (first | rw [HZA.out] at he | rw [HZB.out] at he); subst he)
          | (go_at_call 84; refine (rneg_any _ _ _ (by omega) (by omega)).mono ?_; rintro e w' ⟨rfl, m, rfl⟩)
          | (go_at_call 83; refine (rnan_any _ _).mono ?_; rintro e w' ⟨rfl, m, rfl⟩)
          | (go_at_call 28; refine (rmask_any _ _).mono ?_; rintro e w' ⟨rfl, rfl⟩))
        (try simp only [Exit.inBlock, Exit.then])
        refine bodyPost_ret (v := .tuple #[.int .u32 (infI f (fS f b)), .agg #[.bool false, .bool false, .bool false, .bool false, .bool false]]) ?_ rfl ⟨(excE_is _ _).trans HQ.out.symm, ?_⟩
        · rw [results_tmp_cell rfl]
          go_simp
        · repeat refine Grown.setCell ?_ (by simp <;> omega) _
          exact grown_more HG.out _

      case false =>
        have hnn : (nanB f a = false ∧ nanB f b = false) := by have := HNN.out; simpa using this
        have ha := fin_of f a hnn.1 HIA.out
        have hb := fin_of f b hnn.2 HIB.out
        have HFa := Lib.hid (nou_is f a ha)
        have HFb := Lib.hid (nou_is f b hb)
        clear hnn ha hb
        have HAd3 := Lib.hid (HAdd.out.trans ((if_neg (by simp)).trans ((if_neg (by decide)).trans (if_neg (by decide)))))
        clear HAdd MA MB
        have HAdd := HAd3
        clear HAd3
        by_cases hz : ZA = true ∧ ZB = true ∧ (fS f a == fS f b) = true
        · obtain ⟨rfl, rfl, hs⟩ := hz
          have hm := mask_nou f a a0 a1 HZA.out
          have HQ := Lib.hid (show addE f mode a b = excE (zerI f (fS f a)) false by rw [HAdd.out, (HFa.out.1 HZA.out), (HFb.out.1 HZB.out), (beq_iff_eq.1 hs)]; exact fin_noughts f mode (fS f b))
          clear HAdd
          go_enter Tryz.func81, Tryz.ntmps81
          go_wp2_with fail
          generalize ((w.alloc _).alloc _) = W4 at HE HG HC ⊢
          obtain ⟨y0, y1⟩ := HC.out
          refine (nans2_any f a b _ _ a0 a1 b0 b1 y0 y1).mono ?_
          rintro e w' ⟨he, m, rfl⟩
          rw [HNN.out, HSS.out] at he
          subst he
          clear y0 y1
          obtain ⟨xb, x0, x1, x2, x3, x4, z0, z1, z2, z3, z4⟩ := HE.out
          go_wp2_with (first
            | (go_at_call 86; refine (rinfB_any _ _ _ (by omega) (by omega)).mono ?_; rintro e w' ⟨he, m, rfl⟩; (first | rw [HIA.out] at he | rw [HIB.out] at he); subst he)
            | (go_at_call 85; refine (rnouB_any _ _ _ (by omega) (by omega)).mono ?_; rintro e w' ⟨he, m, rfl⟩; (first | rw [HZA.out] at he | rw [HZB.out] at he); subst he)
            | (go_at_call 84; refine (rneg_any _ _ _ (by omega) (by omega)).mono ?_; rintro e w' ⟨rfl, m, rfl⟩)
            | (go_at_call 83; refine (rnan_any _ _).mono ?_; rintro e w' ⟨rfl, m, rfl⟩)
            | (go_at_call 28; refine (rmask_any _ _).mono ?_; rintro e w' ⟨rfl, rfl⟩))
          (try simp only [Exit.inBlock, Exit.then])
          refine bodyPost_ret (v := .tuple #[.int .u32 (zerI f (fS f a)), .agg #[.bool false, .bool false, .bool false, .bool false, .bool false]]) ?_ rfl ⟨(excE_is _ _).trans HQ.out.symm, ?_⟩
          · rw [results_tmp_cell rfl]
            go_simp
          · repeat refine Grown.setCell ?_ (by simp <;> omega) _
            exact grown_more HG.out _

        · have HQ := Lib.hid (show addE f mode a b = totE f mode (fS f a) (amtE (unE f a) (unM f a)) (fS f b) (amtE (unE f b) (unM f b)) by
            rw [HAdd.out]; unfold finE
            rw [if_neg (fun g => hz ⟨(HZA.out.symm.trans (HFa.out.2 g.1)), (HZB.out.symm.trans (HFb.out.2 g.2.1)), beq_iff_eq.2 g.2.2⟩)])
          clear HAdd
          have HZ3 := Lib.hid hz
          clear hz
          cases ZA
          case false =>
            have HW := Lib.hid (fun w1 => total_any f mode (fS f a) (fS f b) (amtE (unE f a) (unM f a)) (amtE (unE f b) (unM f b)) w1 (amt_nine f a) (amt_nine f b))
            obtain ⟨v, g1, g2, g3, g4, g5, hR⟩ := tot_shape f mode (fS f a) (amtE (unE f a) (unM f a)) (fS f b) (amtE (unE f b) (unM f b))
            have HR := Lib.hid hR
            clear hR
            go_enter Tryz.func81, Tryz.ntmps81
            go_wp2_with fail
            generalize ((w.alloc _).alloc _) = W4 at HE HG HC ⊢
            obtain ⟨y0, y1⟩ := HC.out
            refine (nans2_any f a b _ _ a0 a1 b0 b1 y0 y1).mono ?_
            rintro e w' ⟨he, m, rfl⟩
            rw [HNN.out, HSS.out] at he
            subst he
            clear y0 y1
            obtain ⟨xb, x0, x1, x2, x3, x4, z0, z1, z2, z3, z4⟩ := HE.out
            go_wp2_with (first
              | (go_at_call 86; refine (rinfB_any _ _ _ (by omega) (by omega)).mono ?_; rintro e w' ⟨he, m, rfl⟩; (first | rw [HIA.out] at he | rw [HIB.out] at he); subst he)
              | (go_at_call 85; refine (rnouB_any _ _ _ (by omega) (by omega)).mono ?_; rintro e w' ⟨he, m, rfl⟩; (first | rw [HZA.out] at he | rw [HZB.out] at he); subst he)
              | (go_at_call 84; refine (rneg_any _ _ _ (by omega) (by omega)).mono ?_; rintro e w' ⟨rfl, m, rfl⟩)
              | (go_at_call 83; refine (rnan_any _ _).mono ?_; rintro e w' ⟨rfl, m, rfl⟩)
              | (go_at_call 28; refine (rmask_any _ _).mono ?_; rintro e w' ⟨rfl, rfl⟩)
              | (go_at_call 41; refine (runpack_any _ _ _ (by omega) (by omega)).mono ?_; rintro e w' ⟨rfl, m, rfl⟩))
            refine (spread_unp f a _).mono ?_
            rintro e W5 ⟨rfl, hW5⟩
            have HW5 := Lib.hid (grown_trans (grown_drewN _ _) hW5)
            clear hW5
            go_wp2_with (go_at_call 41; refine (runpack_any _ _ _ (by omega) (by omega)).mono ?_; rintro e w' ⟨rfl, m, rfl⟩)
            refine (spread_unp f b _).mono ?_
            rintro e W6 ⟨rfl, hW6⟩
            have HW6 := Lib.hid (grown_trans HW5.out (grown_trans (grown_drewN _ _) hW6))
            clear hW6
            go_wp2_with fail
            refine (HW.out _).mono ?_
            rintro e W7 ⟨he, hW7⟩
            rw [HR.out] at he
            subst he
            have HW7 := Lib.hid (grown_trans HW6.out hW7)
            clear hW7 xb x0 x1 x2 x3 x4 z0 z1 z2 z3 z4
            obtain ⟨xb, x0, x1, x2, x3, x4, z0, z1, z2, z3, z4⟩ := HE.out.grown HW7.out
            go_wp2
            (try simp only [Exit.inBlock, Exit.then])
            refine bodyPost_ret (v := .tuple #[.int .u32 v, .agg #[.bool g1, .bool g2, .bool g3, .bool g4, .bool g5]]) ?_ rfl ⟨HR.out.symm.trans HQ.out.symm, ?_⟩
            · rw [results_tmp_cell rfl]
              go_simp
            · repeat refine Grown.setCell ?_ (by simp <;> omega) _
              exact grown_trans HG.out HW7.out

          case true =>
            cases ZB
            case false =>
              have HW := Lib.hid (fun w1 => total_any f mode (fS f a) (fS f b) (amtE (unE f a) (unM f a)) (amtE (unE f b) (unM f b)) w1 (amt_nine f a) (amt_nine f b))
              obtain ⟨v, g1, g2, g3, g4, g5, hR⟩ := tot_shape f mode (fS f a) (amtE (unE f a) (unM f a)) (fS f b) (amtE (unE f b) (unM f b))
              have HR := Lib.hid hR
              clear hR
              go_enter Tryz.func81, Tryz.ntmps81
              go_wp2_with fail
              generalize ((w.alloc _).alloc _) = W4 at HE HG HC ⊢
              obtain ⟨y0, y1⟩ := HC.out
              refine (nans2_any f a b _ _ a0 a1 b0 b1 y0 y1).mono ?_
              rintro e w' ⟨he, m, rfl⟩
              rw [HNN.out, HSS.out] at he
              subst he
              clear y0 y1
              obtain ⟨xb, x0, x1, x2, x3, x4, z0, z1, z2, z3, z4⟩ := HE.out
              go_wp2_with (first
                | (go_at_call 86; refine (rinfB_any _ _ _ (by omega) (by omega)).mono ?_; rintro e w' ⟨he, m, rfl⟩; (first | rw [HIA.out] at he | rw [HIB.out] at he); subst he)
                | (go_at_call 85; refine (rnouB_any _ _ _ (by omega) (by omega)).mono ?_; rintro e w' ⟨he, m, rfl⟩; (first | rw [HZA.out] at he | rw [HZB.out] at he); subst he)
                | (go_at_call 84; refine (rneg_any _ _ _ (by omega) (by omega)).mono ?_; rintro e w' ⟨rfl, m, rfl⟩)
                | (go_at_call 83; refine (rnan_any _ _).mono ?_; rintro e w' ⟨rfl, m, rfl⟩)
                | (go_at_call 28; refine (rmask_any _ _).mono ?_; rintro e w' ⟨rfl, rfl⟩)
                | (go_at_call 41; refine (runpack_any _ _ _ (by omega) (by omega)).mono ?_; rintro e w' ⟨rfl, m, rfl⟩))
              refine (spread_unp f a _).mono ?_
              rintro e W5 ⟨rfl, hW5⟩
              have HW5 := Lib.hid (grown_trans (grown_drewN _ _) hW5)
              clear hW5
              go_wp2_with (go_at_call 41; refine (runpack_any _ _ _ (by omega) (by omega)).mono ?_; rintro e w' ⟨rfl, m, rfl⟩)
              refine (spread_unp f b _).mono ?_
              rintro e W6 ⟨rfl, hW6⟩
              have HW6 := Lib.hid (grown_trans HW5.out (grown_trans (grown_drewN _ _) hW6))
              clear hW6
              go_wp2_with fail
              refine (HW.out _).mono ?_
              rintro e W7 ⟨he, hW7⟩
              rw [HR.out] at he
              subst he
              have HW7 := Lib.hid (grown_trans HW6.out hW7)
              clear hW7 xb x0 x1 x2 x3 x4 z0 z1 z2 z3 z4
              obtain ⟨xb, x0, x1, x2, x3, x4, z0, z1, z2, z3, z4⟩ := HE.out.grown HW7.out
              go_wp2
              (try simp only [Exit.inBlock, Exit.then])
              refine bodyPost_ret (v := .tuple #[.int .u32 v, .agg #[.bool g1, .bool g2, .bool g3, .bool g4, .bool g5]]) ?_ rfl ⟨HR.out.symm.trans HQ.out.symm, ?_⟩
              · rw [results_tmp_cell rfl]
                go_simp
              · repeat refine Grown.setCell ?_ (by simp <;> omega) _
                exact grown_trans HG.out HW7.out

            case true =>
              have hs2 : (fS f a == fS f b) = false := (Bool.not_eq_true _).mp (fun h => HZ3.out ⟨rfl, rfl, h⟩)
              have hs3 : (fS f a != fS f b) = true := by simp [bne, hs2]
              have HW := Lib.hid (fun w1 => total_any f mode (fS f a) (fS f b) (amtE (unE f a) (unM f a)) (amtE (unE f b) (unM f b)) w1 (amt_nine f a) (amt_nine f b))
              obtain ⟨v, g1, g2, g3, g4, g5, hR⟩ := tot_shape f mode (fS f a) (amtE (unE f a) (unM f a)) (fS f b) (amtE (unE f b) (unM f b))
              have HR := Lib.hid hR
              clear hR
              go_enter Tryz.func81, Tryz.ntmps81
              go_wp2_with fail
              generalize ((w.alloc _).alloc _) = W4 at HE HG HC ⊢
              obtain ⟨y0, y1⟩ := HC.out
              refine (nans2_any f a b _ _ a0 a1 b0 b1 y0 y1).mono ?_
              rintro e w' ⟨he, m, rfl⟩
              rw [HNN.out, HSS.out] at he
              subst he
              clear y0 y1
              obtain ⟨xb, x0, x1, x2, x3, x4, z0, z1, z2, z3, z4⟩ := HE.out
              go_wp2_with (first
                | (go_at_call 86; refine (rinfB_any _ _ _ (by omega) (by omega)).mono ?_; rintro e w' ⟨he, m, rfl⟩; (first | rw [HIA.out] at he | rw [HIB.out] at he); subst he)
                | (go_at_call 85; refine (rnouB_any _ _ _ (by omega) (by omega)).mono ?_; rintro e w' ⟨he, m, rfl⟩; (first | rw [HZA.out] at he | rw [HZB.out] at he); subst he)
                | (go_at_call 84; refine (rneg_any _ _ _ (by omega) (by omega)).mono ?_; rintro e w' ⟨rfl, m, rfl⟩)
                | (go_at_call 83; refine (rnan_any _ _).mono ?_; rintro e w' ⟨rfl, m, rfl⟩)
                | (go_at_call 28; refine (rmask_any _ _).mono ?_; rintro e w' ⟨rfl, rfl⟩)
                | (go_at_call 41; refine (runpack_any _ _ _ (by omega) (by omega)).mono ?_; rintro e w' ⟨rfl, m, rfl⟩))
              refine (spread_unp f a _).mono ?_
              rintro e W5 ⟨rfl, hW5⟩
              have HW5 := Lib.hid (grown_trans (grown_drewN _ _) hW5)
              clear hW5
              go_wp2_with (go_at_call 41; refine (runpack_any _ _ _ (by omega) (by omega)).mono ?_; rintro e w' ⟨rfl, m, rfl⟩)
              refine (spread_unp f b _).mono ?_
              rintro e W6 ⟨rfl, hW6⟩
              have HW6 := Lib.hid (grown_trans HW5.out (grown_trans (grown_drewN _ _) hW6))
              clear hW6
              go_wp2_with fail
              refine (HW.out _).mono ?_
              rintro e W7 ⟨he, hW7⟩
              rw [HR.out] at he
              subst he
              have HW7 := Lib.hid (grown_trans HW6.out hW7)
              clear hW7 xb x0 x1 x2 x3 x4 z0 z1 z2 z3 z4
              obtain ⟨xb, x0, x1, x2, x3, x4, z0, z1, z2, z3, z4⟩ := HE.out.grown HW7.out
              go_wp2
              (try simp only [Exit.inBlock, Exit.then])
              refine bodyPost_ret (v := .tuple #[.int .u32 v, .agg #[.bool g1, .bool g2, .bool g3, .bool g4, .bool g5]]) ?_ rfl ⟨HR.out.symm.trans HQ.out.symm, ?_⟩
              · rw [results_tmp_cell rfl]
                go_simp
              · repeat refine Grown.setCell ?_ (by simp <;> omega) _
                exact grown_trans HG.out HW7.out
end Go.Proofs.YtheaeclojljecaaGreat
