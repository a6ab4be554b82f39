/- Scripts that are used more than once, each told by its name. No program. -/
import Derived.BigQuiet
import Derived.BigRegion
import Derived.Deep.QuietTactic
import Derived.Deep.RegionHeld3
import Derived.Deep.RegionWith
import Derived.Handy
import Derived.KernelRfl
import Derived.Lib.Hide
import Derived.StillTailTactics
namespace Go.Proofs.YteifobleigfbaaaGreat
open Go Go.RowKit
set_option linter.unusedVariables false

theorem dx_1 {G:Prop} (h:G:=by
 clear HM
 go_enter Tryz.func86,Tryz.ntmps86
 go_wp2_with (first
  | (go_at_call 90;refine (rinfB_any _ _ _ (by omega) (by omega)).mono ?_;rintro e w' ⟨he,m,rfl⟩;(first | rw [HIA.out] at he | rw [HIB.out] at he | rw [HIC.out] at he);subst he)
  | (go_at_call 59;refine (rnouB_any _ _ _ (by omega) (by omega)).mono ?_;rintro e w' ⟨he,m,rfl⟩;(first | rw [HZA.out] at he | rw [HZB.out] at he | rw [HZC.out] at he);subst he)
  | (go_at_call 89;refine (rneg_any _ _ _ (by omega) (by omega)).mono ?_;rintro e w' ⟨he,m,rfl⟩;(first | rw [Hn.out] at he | rw [Hm.out] at he | rw [Hk.out] at he);subst he)
  | (go_at_call 88;refine (rnan_any _ _).mono ?_;rintro e w' ⟨rfl,m,rfl⟩)
  | (go_at_call 91;refine (rinf_any _ _ _).mono ?_;rintro e w' ⟨rfl,m,rfl⟩)
  | (go_at_call 49;refine (rzero_any _ _ _).mono ?_;rintro e w' ⟨rfl,rfl⟩)
  | (go_at_call 61;refine (rmask_any _ _).mono ?_;rintro e w' ⟨rfl,rfl⟩))
 refine (nans3_grow f a b c _ _ a0 a1 b0 b1 c0 c1 (by go_cell) (by go_cell) (by go_cell)).mono ?_
 rintro e W4 ⟨he,hW⟩
 rw [HNN.out,HSS.out] at he
 subst he
 have HG4:=Lib.hid (show Grown w W4 from grown_trans (by repeat (first | with_reducible exact HG0.out | with_reducible refine Grown.setCell ?_ (by simp <;> omega) _ | with_reducible refine Grown.alloc ?_ _ _ | with_reducible refine grown_more ?_ _)) hW)
 have HX4:=Lib.hid (show ExcAt w.heap.size W4 from HX0.out.grown (grown_trans (by repeat (first | with_reducible exact Grown.refl _ | with_reducible refine Grown.setCell ?_ (by simp <;> omega) _ | with_reducible refine Grown.alloc ?_ _ _ | with_reducible refine grown_more ?_ _)) hW))
 clear hW
 obtain ⟨xb,x0,x1,x2,x3,x4,z0,z1,z2,z3,z4⟩:=HX4.out
 go_wp2_with (first
  | (go_at_call 90;refine (rinfB_any _ _ _ (by omega) (by omega)).mono ?_;rintro e w' ⟨he,m,rfl⟩;(first | rw [HIA.out] at he | rw [HIB.out] at he | rw [HIC.out] at he);subst he)
  | (go_at_call 59;refine (rnouB_any _ _ _ (by omega) (by omega)).mono ?_;rintro e w' ⟨he,m,rfl⟩;(first | rw [HZA.out] at he | rw [HZB.out] at he | rw [HZC.out] at he);subst he)
  | (go_at_call 89;refine (rneg_any _ _ _ (by omega) (by omega)).mono ?_;rintro e w' ⟨he,m,rfl⟩;(first | rw [Hn.out] at he | rw [Hm.out] at he | rw [Hk.out] at he);subst he)
  | (go_at_call 88;refine (rnan_any _ _).mono ?_;rintro e w' ⟨rfl,m,rfl⟩)
  | (go_at_call 91;refine (rinf_any _ _ _).mono ?_;rintro e w' ⟨rfl,m,rfl⟩)
  | (go_at_call 49;refine (rzero_any _ _ _).mono ?_;rintro e w' ⟨rfl,rfl⟩)
  | (go_at_call 61;refine (rmask_any _ _).mono ?_;rintro e w' ⟨rfl,rfl⟩))
 (try simp only [Exit.inBlock,Exit.then])
 refine bodyPost_ret ?_ rfl ⟨(excE_is _ _).trans HQ.out.symm,?_⟩
 ·rw [results_tmp_cell rfl]
  go_simp
 ·repeat (first | with_reducible exact HG4.out | with_reducible refine Grown.setCell ?_ (by simp <;> omega) _ | with_reducible refine Grown.alloc ?_ _ _ | with_reducible refine grown_more ?_ _)):G:=h

theorem dx_2 {G:Prop} (h:G:=by
 clear HM
 have HW:=Lib.hid (fun w1=>total_any f mode s k (amtE (x+y) T) (amtE (unE f c) (unM f c)) w1 HPF.out (amt_nine f c))
 have hsp:=spread_unp f c
 rw [Hk.out] at hsp
 have HSp:=Lib.hid hsp
 clear hsp
 have HUc:=Lib.hid (show Ending.returned (.tuple #[.bool (fS f c),.int .i64 (unE f c),.int .u64 (unM f c)])=.returned (.tuple #[.bool k,.int .i64 (unE f c),.int .u64 (unM f c)]) by rw [Hk.out])
 obtain ⟨v,g1,g2,g3,g4,g5,hR⟩:=tot_shape f mode s (amtE (x+y) T) k (amtE (unE f c) (unM f c))
 have HR:=Lib.hid hR
 clear hR
 go_enter Tryz.func86,Tryz.ntmps86
 go_wp2_with (first
  | (go_at_call 90;refine (rinfB_any _ _ _ (by omega) (by omega)).mono ?_;rintro e w' ⟨he,m,rfl⟩;(first | rw [HIA.out] at he | rw [HIB.out] at he | rw [HIC.out] at he);subst he)
  | (go_at_call 59;refine (rnouB_any _ _ _ (by omega) (by omega)).mono ?_;rintro e w' ⟨he,m,rfl⟩;(first | rw [HZA.out] at he | rw [HZB.out] at he | rw [HZC.out] at he);subst he)
  | (go_at_call 89;refine (rneg_any _ _ _ (by omega) (by omega)).mono ?_;rintro e w' ⟨he,m,rfl⟩;(first | rw [Hn.out] at he | rw [Hm.out] at he | rw [Hk.out] at he);subst he)
  | (go_at_call 88;refine (rnan_any _ _).mono ?_;rintro e w' ⟨rfl,m,rfl⟩)
  | (go_at_call 91;refine (rinf_any _ _ _).mono ?_;rintro e w' ⟨rfl,m,rfl⟩)
  | (go_at_call 49;refine (rzero_any _ _ _).mono ?_;rintro e w' ⟨rfl,rfl⟩)
  | (go_at_call 61;refine (rmask_any _ _).mono ?_;rintro e w' ⟨rfl,rfl⟩))
 refine (nans3_grow f a b c _ _ a0 a1 b0 b1 c0 c1 (by go_cell) (by go_cell) (by go_cell)).mono ?_
 rintro e W4 ⟨he,hW⟩
 rw [HNN.out,HSS.out] at he
 subst he
 have HG4:=Lib.hid (show Grown w W4 from grown_trans (by repeat (first | with_reducible exact HG0.out | with_reducible refine Grown.setCell ?_ (by simp <;> omega) _ | with_reducible refine Grown.alloc ?_ _ _ | with_reducible refine grown_more ?_ _)) hW)
 have HX4:=Lib.hid (show ExcAt w.heap.size W4 from HX0.out.grown (grown_trans (by repeat (first | with_reducible exact Grown.refl _ | with_reducible refine Grown.setCell ?_ (by simp <;> omega) _ | with_reducible refine Grown.alloc ?_ _ _ | with_reducible refine grown_more ?_ _)) hW))
 clear hW
 obtain ⟨xb,x0,x1,x2,x3,x4,z0,z1,z2,z3,z4⟩:=HX4.out
 go_wp2_with (first
  | (go_at_call 90;refine (rinfB_any _ _ _ (by omega) (by omega)).mono ?_;rintro e w' ⟨he,m,rfl⟩;(first | rw [HIA.out] at he | rw [HIB.out] at he | rw [HIC.out] at he);subst he)
  | (go_at_call 59;refine (rnouB_any _ _ _ (by omega) (by omega)).mono ?_;rintro e w' ⟨he,m,rfl⟩;(first | rw [HZA.out] at he | rw [HZB.out] at he | rw [HZC.out] at he);subst he)
  | (go_at_call 89;refine (rneg_any _ _ _ (by omega) (by omega)).mono ?_;rintro e w' ⟨he,m,rfl⟩;(first | rw [Hn.out] at he | rw [Hm.out] at he | rw [Hk.out] at he);subst he)
  | (go_at_call 88;refine (rnan_any _ _).mono ?_;rintro e w' ⟨rfl,m,rfl⟩)
  | (go_at_call 91;refine (rinf_any _ _ _).mono ?_;rintro e w' ⟨rfl,m,rfl⟩)
  | (go_at_call 49;refine (rzero_any _ _ _).mono ?_;rintro e w' ⟨rfl,rfl⟩)
  | (go_at_call 61;refine (rmask_any _ _).mono ?_;rintro e w' ⟨rfl,rfl⟩)
  | (go_at_call 53;refine (runpack_any _ _ _ (by omega) (by omega)).mono ?_;rintro e w' ⟨he,m,rfl⟩;(first | rw [HUa.out] at he | rw [HUb.out] at he);subst he))
 refine (rspread_prod s (x+y) T _ (by omega) (by omega) t0 t1).mono ?_
 rintro e W5 ⟨he,hW⟩
 subst he
 have HG5:=Lib.hid (show Grown w W5 from grown_trans (by repeat (first | with_reducible exact HG4.out | with_reducible refine Grown.setCell ?_ (by simp <;> omega) _ | with_reducible refine Grown.alloc ?_ _ _ | with_reducible refine grown_more ?_ _)) hW)
 have HX5:=Lib.hid (show ExcAt w.heap.size W5 from HX4.out.grown (grown_trans (by repeat (first | with_reducible exact Grown.refl _ | with_reducible refine Grown.setCell ?_ (by simp <;> omega) _ | with_reducible refine Grown.alloc ?_ _ _ | with_reducible refine grown_more ?_ _)) hW))
 clear hW
 go_wp2_with (go_at_call 53;refine (runpack_any _ _ _ (by omega) (by omega)).mono ?_;rintro e w' ⟨he,m,rfl⟩;rw [HUc.out] at he;subst he)
 refine (HSp.out _).mono ?_
 rintro e W6 ⟨he,hW⟩
 subst he
 have HG6:=Lib.hid (show Grown w W6 from grown_trans (by repeat (first | with_reducible exact HG5.out | with_reducible refine Grown.setCell ?_ (by simp <;> omega) _ | with_reducible refine Grown.alloc ?_ _ _ | with_reducible refine grown_more ?_ _)) hW)
 have HX6:=Lib.hid (show ExcAt w.heap.size W6 from HX5.out.grown (grown_trans (by repeat (first | with_reducible exact Grown.refl _ | with_reducible refine Grown.setCell ?_ (by simp <;> omega) _ | with_reducible refine Grown.alloc ?_ _ _ | with_reducible refine grown_more ?_ _)) hW))
 clear hW
 go_wp2_with fail
 refine (HW.out _).mono ?_
 rintro e W7 ⟨he,hW⟩
 rw [HR.out] at he
 subst he
 have HG7:=Lib.hid (show Grown w W7 from grown_trans (by repeat (first | with_reducible exact HG6.out | with_reducible refine Grown.setCell ?_ (by simp <;> omega) _ | with_reducible refine Grown.alloc ?_ _ _ | with_reducible refine grown_more ?_ _)) hW)
 have HX7:=Lib.hid (show ExcAt w.heap.size W7 from HX6.out.grown (grown_trans (by repeat (first | with_reducible exact Grown.refl _ | with_reducible refine Grown.setCell ?_ (by simp <;> omega) _ | with_reducible refine Grown.alloc ?_ _ _ | with_reducible refine grown_more ?_ _)) hW))
 clear hW
 clear xb x0 x1 x2 x3 x4 z0 z1 z2 z3 z4
 obtain ⟨xb,x0,x1,x2,x3,x4,z0,z1,z2,z3,z4⟩:=HX7.out
 go_wp2
 (try simp only [Exit.inBlock,Exit.then])
 refine bodyPost_ret ?_ rfl ⟨HR.out.symm.trans HQ.out.symm,?_⟩
 ·rw [results_tmp_cell rfl]
  go_simp
 ·repeat (first | with_reducible exact HG7.out | with_reducible refine Grown.setCell ?_ (by simp <;> omega) _ | with_reducible refine Grown.alloc ?_ _ _ | with_reducible refine grown_more ?_ _)):G:=h

theorem dx_3 {G:Prop} (h:G:=by
 clear HM
 go_enter Tryz.func84,Tryz.ntmps84
 go_wp2_with (go_at_call 100;refine (class_any _ _ _ (by omega) (by omega)).mono ?_;rintro e w' ⟨he,dm,rfl⟩;(first | rw [HA.out] at he | rw [HB.out] at he);subst he)
 refine (qunpack_any f a _ a0 a1).mono ?_
 rintro e W1 ⟨he,hW1⟩
 rw [HUa.out] at he
 subst he
 have HG1:=Lib.hid (show Grown w W1 from grown_trans (by repeat (first | with_reducible exact HG0.out | with_reducible refine Grown.setCell ?_ (by simp <;> omega) _ | with_reducible refine Grown.alloc ?_ _ _ | with_reducible refine grown_more ?_ _ | with_reducible refine Grown.drew ?_)) hW1)
 have HX1:=Lib.hid (show ExcAt w.heap.size W1 from HX0.out.grown (grown_trans (by repeat (first | with_reducible exact Grown.refl _ | with_reducible refine Grown.setCell ?_ (by simp <;> omega) _ | with_reducible refine Grown.alloc ?_ _ _ | with_reducible refine grown_more ?_ _ | with_reducible refine Grown.drew ?_)) hW1))
 clear hW1
 go_wp2_with fail
 refine (qunpack_any f b _ b0 b1).mono ?_
 rintro e W2 ⟨he,hW2⟩
 rw [HUb.out] at he
 subst he
 have HG2:=Lib.hid (show Grown w W2 from grown_trans (by repeat (first | with_reducible exact HG1.out | with_reducible refine Grown.setCell ?_ (by simp <;> omega) _ | with_reducible refine Grown.alloc ?_ _ _ | with_reducible refine grown_more ?_ _ | with_reducible refine Grown.drew ?_)) hW2)
 have HX2:=Lib.hid (show ExcAt w.heap.size W2 from HX1.out.grown (grown_trans (by repeat (first | with_reducible exact Grown.refl _ | with_reducible refine Grown.setCell ?_ (by simp <;> omega) _ | with_reducible refine Grown.alloc ?_ _ _ | with_reducible refine grown_more ?_ _ | with_reducible refine Grown.drew ?_)) hW2))
 clear hW2
 go_wp2_with fail
 have HX4:=Lib.hid (HX2.out.under2 #[.bool n,.int .i64 x,.int .u64 p] #[.bool m,.int .i64 y,.int .u64 q] 124 124)
 have HG4:=Lib.hid (Grown.alloc (Grown.alloc HG2.out #[.bool n,.int .i64 x,.int .u64 p] 124) #[.bool m,.int .i64 y,.int .u64 q] 124)
 obtain ⟨hp4,hq4⟩:=parts_two W2 n m x y p q 124
 have HPX4:=Lib.hid hp4
 have HPY4:=Lib.hid hq4
 clear hp4 hq4
 generalize ((W2.alloc _).alloc _)=W4 at HX4 HG4 HPX4 HPY4 ⊢
 obtain ⟨xb,x0,x1,x2,x3,x4,z0,z1,z2,z3,z4⟩:=HX4.out
 go_wp2_with (go_at_call 103;refine (nan_any _ _).mono ?_;rintro e w' ⟨rfl,rfl⟩)
 (try simp only [Exit.inBlock,Exit.then])
 refine bodyPost_ret ?_ rfl ⟨(excE_is _ _).trans HQ.out.symm,?_⟩
 ·rw [results_tmp_cell rfl]
  go_simp
 ·repeat (first | with_reducible exact HG4.out | with_reducible refine Grown.setCell ?_ (by simp <;> omega) _ | with_reducible refine Grown.alloc ?_ _ _ | with_reducible refine grown_more ?_ _ | with_reducible refine Grown.drew ?_)):G:=h

theorem dx_4 {G:Prop} (h:G:=by
 go_wp2_with fail
 generalize ((w.alloc _).alloc _)=W4 at HE HG HC ⊢
 obtain ⟨y0,y1⟩:=HC.out
 refine (nans2_any f a b _ _ a0 a1 b0 b1 (by first | exact y0 | go_cell) (by first | exact y1 | go_cell)).mono ?_
 rintro e w' ⟨he,m,rfl⟩
 rw [HNN.out,HSS.out] at he
 subst he
 clear y0 y1
 obtain ⟨xb,x0,x1,x2,x3,x4,z0,z1,z2,z3,z4⟩:=HE.out
 go_wp2_with (first
  | (go_at_call 90;refine (rinfB_any _ _ _ (by omega) (by omega)).mono ?_;rintro e w' ⟨he,m,rfl⟩;(first | rw [HIA.out] at he | rw [HIB.out] at he);subst he)
  | (go_at_call 59;refine (rnouB_any _ _ _ (by omega) (by omega)).mono ?_;rintro e w' ⟨he,m,rfl⟩;(first | rw [HZA.out] at he | rw [HZB.out] at he);subst he)
  | (go_at_call 89;refine (rneg_any _ _ _ (by omega) (by omega)).mono ?_;rintro e w' ⟨he,m,rfl⟩;(first | rw [Hn.out] at he | rw [Hm.out] at he);subst he)
  | (go_at_call 88;refine (rnan_any _ _).mono ?_;rintro e w' ⟨rfl,m,rfl⟩)
  | (go_at_call 91;refine (rinf_any _ _ _).mono ?_;rintro e w' ⟨rfl,m,rfl⟩)
  | (go_at_call 49;refine (rzero_any _ _ _).mono ?_;rintro e w' ⟨rfl,rfl⟩)
  | (go_at_call 61;refine (rmask_any _ _).mono ?_;rintro e w' ⟨rfl,rfl⟩))
 (try simp only [Exit.inBlock,Exit.then])
 refine bodyPost_ret ?_ rfl ⟨(excE_is _ _).trans HQ.out.symm,?_⟩
 ·rw [results_tmp_cell rfl]
  go_simp
 ·repeat (first | with_reducible exact HG.out | with_reducible refine Grown.setCell ?_ (by simp <;> omega) _ | with_reducible refine Grown.alloc ?_ _ _ | with_reducible refine grown_more ?_ _)):G:=h

theorem dx_5 {G:Prop} (h:G:=by
 clear HF HF' HAdd
 clear K
 go_enter Tryz.func64,Tryz.ntmps64
 go_wp2_with (go_at_call 100;refine (class_any _ _ _ (by omega) (by omega)).mono ?_;rintro e w' ⟨he,m,rfl⟩;(first | rw [HA.out] at he | rw [HB.out] at he);subst he)
 refine (sunpack_any f a _ a0 a1).mono ?_
 rintro e W1 ⟨rfl,hW1⟩
 have HW1:=Lib.hid hW1
 clear hW1
 go_wp2_with fail
 refine (sunpack_any f b _ b0 b1).mono ?_
 rintro e W2 ⟨rfl,hW2⟩
 have HX2:=Lib.hid (((HE.out.grown (grown_drewN _ _)).grown HW1.out).grown hW2)
 have HG2:=Lib.hid (grown_trans (grown_trans HG.out (grown_trans (grown_drewN _ _) HW1.out)) hW2)
 clear hW2
 go_wp2_with fail
 have HP:=parts_cells W2 (.bool (fS f a)) (.int .i64 (unE f a)) (.int .u64 (unM f a)) (.bool (fS f b)) (.int .i64 (unE f b)) (.int .u64 (unM f b)) 102
 have HX4:=Lib.hid (HX2.out.under2 #[.bool (fS f a),.int .i64 (unE f a),.int .u64 (unM f a)] #[.bool (fS f b),.int .i64 (unE f b),.int .u64 (unM f b)] 102 102)
 have HG4:=Lib.hid (grown_trans HG2.out (Grown.alloc (Grown.alloc (Grown.refl W2) #[.bool (fS f a),.int .i64 (unE f a),.int .u64 (unM f a)] 102) #[.bool (fS f b),.int .i64 (unE f b),.int .u64 (unM f b)] 102))
 clear HX2 HG2
 generalize ((W2.alloc _).alloc _)=W4 at HP HX4 HG4 ⊢
 obtain ⟨y0,y1,y2,y3,y4,y5⟩:=HP
 obtain ⟨xb,x0,x1,x2,x3,x4,z0,z1,z2,z3,z4⟩:=HX4.out
 go_wp2_with (first
  | (go_at_call 102;refine (isNan_any _ _).mono ?_;rintro e w' ⟨rfl,rfl⟩)
  | (go_at_call 103;refine (nan_any _ _).mono ?_;rintro e w' ⟨rfl,rfl⟩)
  | (go_at_call 104;refine (inf_any _ _ _).mono ?_;rintro e w' ⟨rfl,rfl⟩)
  | (go_at_call 105;fail))
 (try simp only [Exit.inBlock,Exit.then])
 refine bodyPost_ret ?_ rfl ⟨(excE_is _ _).trans HQ.out.symm,?_⟩
 ·rw [results_tmp_cell rfl]
  go_simp
 ·repeat refine Grown.setCell ?_ (by simp <;> omega) _
  exact HG4.out):G:=h

theorem dx_6 {G:Prop} (h:G:=by
 have HQ:=Lib.hid (HM.out.trans ((if_neg (by decide)).trans (if_neg (by decide))))
 clear HM
 go_enter Tryz.func96,Tryz.ntmps96
 go_wp2_with fail
 generalize ((w.alloc _).alloc _)=W4 at HE HG HC ⊢
 obtain ⟨y0,y1⟩:=HC.out
 refine (nans2_any f a b _ _ a0 a1 b0 b1 (by first | exact y0 | go_cell) (by first | exact y1 | go_cell)).mono ?_
 rintro e w' ⟨he,m,rfl⟩
 rw [HNN.out,HSS.out] at he
 subst he
 clear y0 y1
 obtain ⟨xb,x0,x1,x2,x3,x4,z0,z1,z2,z3,z4⟩:=HE.out
 go_wp2_with (first
  | (go_at_call 90;refine (rinfB_any _ _ _ (by omega) (by omega)).mono ?_;rintro e w' ⟨he,m,rfl⟩;(first | rw [HIA.out] at he | rw [HIB.out] at he);subst he)
  | (go_at_call 59;refine (rnouB_any _ _ _ (by omega) (by omega)).mono ?_;rintro e w' ⟨he,m,rfl⟩;(first | rw [HZA.out] at he | rw [HZB.out] at he);subst he)
  | (go_at_call 89;refine (rneg_any _ _ _ (by omega) (by omega)).mono ?_;rintro e w' ⟨he,m,rfl⟩;(first | rw [Hn.out] at he | rw [Hm.out] at he);subst he)
  | (go_at_call 88;refine (rnan_any _ _).mono ?_;rintro e w' ⟨rfl,m,rfl⟩)
  | (go_at_call 91;refine (rinf_any _ _ _).mono ?_;rintro e w' ⟨rfl,m,rfl⟩)
  | (go_at_call 49;refine (rzero_any _ _ _).mono ?_;rintro e w' ⟨rfl,rfl⟩)
  | (go_at_call 61;refine (rmask_any _ _).mono ?_;rintro e w' ⟨rfl,rfl⟩)
  | (go_at_call 53;refine (runpack_any _ _ _ (by omega) (by omega)).mono ?_;rintro e w' ⟨he,m,rfl⟩;(first | rw [HUa.out] at he | rw [HUb.out] at he);subst he))
 refine (rpack_any _ _ _ _ _ _ _ (by omega) (by omega) (by omega) (by omega)).mono ?_
 rintro e W5 ⟨he,hW5⟩
 rw [exc_agg] at he
 subst he
 have HG5:=Lib.hid (grown_trans (grown_more HG.out _) hW5)
 have HE5:=Lib.hid (HE.out.grown (grown_trans (grown_drewN _ _) hW5))
 clear hW5 xb x0 x1 x2 x3 x4 z0 z1 z2 z3 z4
 obtain ⟨xb,x0,x1,x2,x3,x4,z0,z1,z2,z3,z4⟩:=HE5.out
 go_wp2
 (try simp only [Exit.inBlock,Exit.then])
 refine bodyPost_ret ?_ rfl ⟨(packE_is _ _ _ _).trans HQ.out.symm,?_⟩
 ·rw [results_tmp_cell rfl]
  go_simp
 ·repeat (first | with_reducible exact HG5.out | with_reducible refine Grown.setCell ?_ (by simp <;> omega) _ | with_reducible refine Grown.alloc ?_ _ _ | with_reducible refine grown_more ?_ _)):G:=h

theorem dx_7 {G:Prop} (h:G:=by
 clear HAdd
 go_enter Tryz.func74,Tryz.ntmps74
 go_wp2_with fail
 generalize ((w.alloc _).alloc _)=W4 at HE HG HC ⊢
 obtain ⟨y0,y1⟩:=HC.out
 refine (nans2_any f a b _ _ a0 a1 b0 b1 y0 y1).mono ?_
 rintro e w' ⟨he,m,rfl⟩
 rw [HNN.out,HSS.out] at he
 subst he
 clear y0 y1
 obtain ⟨xb,x0,x1,x2,x3,x4,z0,z1,z2,z3,z4⟩:=HE.out
 go_wp2_with (first
  | (go_at_call 90;refine (rinfB_any _ _ _ (by omega) (by omega)).mono ?_;rintro e w' ⟨he,m,rfl⟩;(first | rw [HIA.out] at he | rw [HIB.out] at he);subst he)
  | (go_at_call 59;refine (rnouB_any _ _ _ (by omega) (by omega)).mono ?_;rintro e w' ⟨he,m,rfl⟩;(first | rw [HZA.out] at he | rw [HZB.out] at he);subst he)
  | (go_at_call 89;refine (rneg_any _ _ _ (by omega) (by omega)).mono ?_;rintro e w' ⟨rfl,m,rfl⟩)
  | (go_at_call 88;refine (rnan_any _ _).mono ?_;rintro e w' ⟨rfl,m,rfl⟩)
  | (go_at_call 61;refine (rmask_any _ _).mono ?_;rintro e w' ⟨rfl,rfl⟩))
 (try simp only [Exit.inBlock,Exit.then])
 refine bodyPost_ret ?_ rfl ⟨(excE_is _ _).trans HQ.out.symm,?_⟩
 ·rw [results_tmp_cell rfl]
  go_simp
 ·repeat refine Grown.setCell ?_ (by simp <;> omega) _
  exact grown_more HG.out _):G:=h

theorem dx_8 {G:Prop} (h:G:=by
 rintro e w' ⟨he,rfl⟩
 rw [HS.out] at he
 subst he
 go_wp2_with fail
 refine (punknown_any A B _).mono ?_
 rintro e W1 ⟨he,hW1⟩
 rw [HL.out] at he
 subst he
 have HG1:=Lib.hid (show Grown w W1 from grown_trans (by repeat (first | with_reducible exact HG0.out | with_reducible refine Grown.setCell ?_ (by simp <;> omega) _ | with_reducible refine Grown.alloc ?_ _ _ | with_reducible refine grown_more ?_ _)) hW1)
 have HX1:=Lib.hid (show ExcAt w.heap.size W1 from HX0.out.grown (grown_trans (by repeat (first | with_reducible exact Grown.refl _ | with_reducible refine Grown.setCell ?_ (by simp <;> omega) _ | with_reducible refine Grown.alloc ?_ _ _ | with_reducible refine grown_more ?_ _)) hW1))
 clear hW1
 go_wp2_with fail
 refine (pproduct_any f a b _ a0 a1 b0 b1).mono ?_
 rintro e W2 ⟨he,hW2⟩
 rw [HP.out] at he
 subst he
 have HG2:=Lib.hid (show Grown w W2 from grown_trans (by repeat (first | with_reducible exact HG1.out | with_reducible refine Grown.setCell ?_ (by simp <;> omega) _ | with_reducible refine Grown.alloc ?_ _ _ | with_reducible refine grown_more ?_ _)) hW2)
 have HX2:=Lib.hid (show ExcAt w.heap.size W2 from HX1.out.grown (grown_trans (by repeat (first | with_reducible exact Grown.refl _ | with_reducible refine Grown.setCell ?_ (by simp <;> omega) _ | with_reducible refine Grown.alloc ?_ _ _ | with_reducible refine grown_more ?_ _)) hW2))
 clear hW2
 go_wp2_with fail
 have HX4:=Lib.hid (HX2.out.under1 #[.bool s,.int .i64 X,.int .u64 T] 118)
 have HG4:=Lib.hid (Grown.alloc HG2.out #[.bool s,.int .i64 X,.int .u64 T] 118)
 have HP4:=Lib.hid (part_new W2 s X T 118)
 generalize (W2.alloc _)=W4 at HX4 HG4 HP4 ⊢
 obtain ⟨xb,x0,x1,x2,x3,x4,z0,z1,z2,z3,z4⟩:=HX4.out
 go_wp2_with (go_at_call 103;refine (nan_any _ _).mono ?_;rintro e w' ⟨rfl,rfl⟩)
 (try simp only [Exit.inBlock,Exit.then])
 refine bodyPost_ret ?_ rfl ⟨(excE_is _ _).trans HQ.out.symm,?_⟩
 ·rw [results_tmp_cell rfl]
  go_simp
 ·repeat (first | with_reducible exact HG4.out | with_reducible refine Grown.setCell ?_ (by simp <;> omega) _ | with_reducible refine Grown.alloc ?_ _ _ | with_reducible refine grown_more ?_ _)):G:=h

theorem dx_9 {G:Prop} (h:G:=by
 have HQ:=Lib.hid (show divE f mode a b=excE (zerI f s) false by rw [HM.out];simp [*])
 clear HM
 go_enter Tryz.func84,Tryz.ntmps84
 go_wp2_with (go_at_call 100;refine (class_any _ _ _ (by omega) (by omega)).mono ?_;rintro e w' ⟨he,dm,rfl⟩;(first | rw [HA.out] at he | rw [HB.out] at he);subst he)
 refine (qunpack_any f a _ a0 a1).mono ?_
 rintro e W1 ⟨he,hW1⟩
 rw [HUa.out] at he
 subst he
 have HG1:=Lib.hid (show Grown w W1 from grown_trans (by repeat (first | with_reducible exact HG0.out | with_reducible refine Grown.setCell ?_ (by simp <;> omega) _ | with_reducible refine Grown.alloc ?_ _ _ | with_reducible refine grown_more ?_ _ | with_reducible refine Grown.drew ?_)) hW1)
 have HX1:=Lib.hid (show ExcAt w.heap.size W1 from HX0.out.grown (grown_trans (by repeat (first | with_reducible exact Grown.refl _ | with_reducible refine Grown.setCell ?_ (by simp <;> omega) _ | with_reducible refine Grown.alloc ?_ _ _ | with_reducible refine grown_more ?_ _ | with_reducible refine Grown.drew ?_)) hW1))
 clear hW1
 go_wp2_with fail
 refine (qunpack_any f b _ b0 b1).mono ?_
 rintro e W2 ⟨he,hW2⟩
 rw [HUb.out] at he
 subst he
 have HG2:=Lib.hid (show Grown w W2 from grown_trans (by repeat (first | with_reducible exact HG1.out | with_reducible refine Grown.setCell ?_ (by simp <;> omega) _ | with_reducible refine Grown.alloc ?_ _ _ | with_reducible refine grown_more ?_ _ | with_reducible refine Grown.drew ?_)) hW2)
 have HX2:=Lib.hid (show ExcAt w.heap.size W2 from HX1.out.grown (grown_trans (by repeat (first | with_reducible exact Grown.refl _ | with_reducible refine Grown.setCell ?_ (by simp <;> omega) _ | with_reducible refine Grown.alloc ?_ _ _ | with_reducible refine grown_more ?_ _ | with_reducible refine Grown.drew ?_)) hW2))
 clear hW2
 go_wp2_with fail
 have HX4:=Lib.hid (HX2.out.under2 #[.bool n,.int .i64 x,.int .u64 p] #[.bool m,.int .i64 y,.int .u64 q] 124 124)
 have HG4:=Lib.hid (Grown.alloc (Grown.alloc HG2.out #[.bool n,.int .i64 x,.int .u64 p] 124) #[.bool m,.int .i64 y,.int .u64 q] 124)
 obtain ⟨hp4,hq4⟩:=parts_two W2 n m x y p q 124
 have HPX4:=Lib.hid hp4
 have HPY4:=Lib.hid hq4
 clear hp4 hq4
 generalize ((W2.alloc _).alloc _)=W4 at HX4 HG4 HPX4 HPY4 ⊢
 obtain ⟨xb,x0,x1,x2,x3,x4,z0,z1,z2,z3,z4⟩:=HX4.out
 go_wp2_with (go_at_call 122;refine (zero_any _ _ _).mono ?_;rintro e w' ⟨rfl,rfl⟩)
 (try simp only [Exit.inBlock,Exit.then])
 refine bodyPost_ret ?_ rfl ⟨(excE_is _ _).trans HQ.out.symm,?_⟩
 ·rw [results_tmp_cell rfl]
  go_simp
 ·repeat (first | with_reducible exact HG4.out | with_reducible refine Grown.setCell ?_ (by simp <;> omega) _ | with_reducible refine Grown.alloc ?_ _ _ | with_reducible refine grown_more ?_ _ | with_reducible refine Grown.drew ?_)):G:=h

theorem dx_10 {G:Prop} (h:G:=by
 go_enter Tryz.func174,Tryz.ntmps174
 go_wp2_with fail
 refine (wround_any _ _ _ _ a0 a1).mono ?_
 rintro e W1 ⟨he,hW1⟩
 rw [HW.out] at he
 subst he
 have HG1:=Lib.hid (show Grown w W1 from grown_trans (by repeat (first | with_reducible exact HG0.out | with_reducible refine Grown.setCell ?_ (by simp <;> omega) _ | with_reducible refine Grown.alloc ?_ _ _ | with_reducible refine grown_more ?_ _ | with_reducible refine Grown.drew ?_)) hW1)
 have HE1:=Lib.hid (show ExcAt w.heap.size W1 from HX0.out.grown (grown_trans (by repeat (first | with_reducible exact Grown.refl _ | with_reducible refine Grown.setCell ?_ (by simp <;> omega) _ | with_reducible refine Grown.alloc ?_ _ _ | with_reducible refine grown_more ?_ _ | with_reducible refine Grown.drew ?_)) hW1))
 have hbne:¬W1.heap.size=w.heap.size:=by have:=HE1.out.1;omega
 clear hW1 xb x0 x1 x2 x3 x4 z0 z1 z2 z3 z4
 obtain ⟨xb,x0,x1,x2,x3,x4,z0,z1,z2,z3,z4⟩:=HE1.out
 go_wp2_with (first
  | (go_at_call 145;refine (unpack_any _ _ _ b0 b1).mono ?_;rintro e w' ⟨he,dm,rfl⟩;rw [HU.out] at he;subst he)
  | (go_at_call 148;refine (shift_any _ _ _ m0 (by omega) (by omega) (by omega)).mono ?_;rintro e w' ⟨he,dm2,rfl⟩;rw [HSh.out] at he;subst he)
  | (go_at_call 98;refine (finite_any _ _ _ b0 b1).mono ?_;rintro e w' ⟨he,dm3,rfl⟩;rw [HF.out] at he;subst he)
  | (go_at_call 179;refine (wgreatest_any _ _).mono ?_;rintro e w' ⟨rfl,rfl⟩))
 (try simp only [Exit.inBlock,Exit.then])
 refine bodyPost_ret ?_ rfl ⟨HQ.out.symm,?_⟩
 ·rw [results_tmp_cell rfl]
  go_simp
 ·repeat (first | with_reducible exact HG1.out | with_reducible refine Grown.setCell ?_ (by simp <;> omega) _ | with_reducible refine Grown.alloc ?_ _ _ | with_reducible refine grown_more ?_ _ | with_reducible refine Grown.drew ?_)):G:=h

theorem dx_11 {G:Prop} (h:G:=by
 have HQ4:=Lib.hid HQ3
 clear HQ3
 go_wp2_with (first
  | (go_at_call 40;refine (nabo_any _ _ _ (by omega) (by omega) (by omega) (by omega)).mono ?_;rintro e W1 ⟨he,hW1⟩;(first | rw [HA.out] at he);subst he;replace HG:=Lib.hid (show Grown w W1 from grown_trans (by repeat (first | with_reducible exact HG.out | with_reducible refine Grown.setCell ?_ (by simp <;> omega) _ | with_reducible refine Grown.alloc ?_ _ _ | with_reducible refine grown_more ?_ _ | with_reducible refine Grown.drew ?_)) hW1);clear hW1)
  | (go_at_call 57;refine (nalong3_any _ _ 1049774373 1053609165 1059760811 _ _ (by omega) (by omega) (by omega) (by omega) (by omega) (by omega) (by omega) (by omega) (by omega) (by omega) (cells_new _ [.int .u32 1049774373,.int .u32 1053609165,.int .u32 1059760811] _)).mono ?_;rintro e W1 ⟨rfl,h0,h1,hW1⟩;replace HG:=Lib.hid (show Grown w W1 from grown_trans (by repeat (first | with_reducible exact HG.out | with_reducible refine Grown.setCell ?_ (by simp <;> omega) _ | with_reducible refine Grown.alloc ?_ _ _ | with_reducible refine grown_more ?_ _ | with_reducible refine Grown.drew ?_)) hW1);clear hW1)
  | (go_at_call 47;refine (nfma_any _ _ _ _ (by omega) (by omega) (by omega) (by omega) (by omega) (by omega)).mono ?_;rintro e W1 ⟨rfl,h0,h1,hW1⟩;replace HG:=Lib.hid (show Grown w W1 from grown_trans (by repeat (first | with_reducible exact HG.out | with_reducible refine Grown.setCell ?_ (by simp <;> omega) _ | with_reducible refine Grown.alloc ?_ _ _ | with_reducible refine grown_more ?_ _ | with_reducible refine Grown.drew ?_)) hW1);clear hW1)
  | (go_at_call 38;refine (nadd_any _ _ _ (by omega) (by omega) (by omega) (by omega)).mono ?_;rintro e W1 ⟨rfl,h0,h1,hW1⟩;replace HG:=Lib.hid (show Grown w W1 from grown_trans (by repeat (first | with_reducible exact HG.out | with_reducible refine Grown.setCell ?_ (by simp <;> omega) _ | with_reducible refine Grown.alloc ?_ _ _ | with_reducible refine grown_more ?_ _ | with_reducible refine Grown.drew ?_)) hW1);clear hW1)
  | (go_at_call 21;refine (nsub_any _ _ _ (by omega) (by omega) (by omega) (by omega)).mono ?_;rintro e W1 ⟨rfl,h0,h1,hW1⟩;replace HG:=Lib.hid (show Grown w W1 from grown_trans (by repeat (first | with_reducible exact HG.out | with_reducible refine Grown.setCell ?_ (by simp <;> omega) _ | with_reducible refine Grown.alloc ?_ _ _ | with_reducible refine grown_more ?_ _ | with_reducible refine Grown.drew ?_)) hW1);clear hW1)
  | (go_at_call 56;refine (nmul_any _ _ _ (by omega) (by omega) (by omega) (by omega)).mono ?_;rintro e W1 ⟨rfl,h0,h1,hW1⟩;replace HG:=Lib.hid (show Grown w W1 from grown_trans (by repeat (first | with_reducible exact HG.out | with_reducible refine Grown.setCell ?_ (by simp <;> omega) _ | with_reducible refine Grown.alloc ?_ _ _ | with_reducible refine grown_more ?_ _ | with_reducible refine Grown.drew ?_)) hW1);clear hW1)
  | (go_at_call 19;refine (ndiv_any _ _ _ (by omega) (by omega) (by omega) (by omega)).mono ?_;rintro e W1 ⟨rfl,h0,h1,hW1⟩;replace HG:=Lib.hid (show Grown w W1 from grown_trans (by repeat (first | with_reducible exact HG.out | with_reducible refine Grown.setCell ?_ (by simp <;> omega) _ | with_reducible refine Grown.alloc ?_ _ _ | with_reducible refine grown_more ?_ _ | with_reducible refine Grown.drew ?_)) hW1);clear hW1)
  | (go_at_call 20;refine (nint_any _ _ (by omega) (by omega)).mono ?_;rintro e W1 ⟨rfl,h0,h1,hW1⟩;replace HG:=Lib.hid (show Grown w W1 from grown_trans (by repeat (first | with_reducible exact HG.out | with_reducible refine Grown.setCell ?_ (by simp <;> omega) _ | with_reducible refine Grown.alloc ?_ _ _ | with_reducible refine grown_more ?_ _ | with_reducible refine Grown.drew ?_)) hW1);clear hW1)
  | (go_at_call 73;refine (nsca_any _ _ _ (by omega) (by omega) (by omega) (by omega)).mono ?_;rintro e W1 ⟨rfl,h0,h1,hW1⟩;replace HG:=Lib.hid (show Grown w W1 from grown_trans (by repeat (first | with_reducible exact HG.out | with_reducible refine Grown.setCell ?_ (by simp <;> omega) _ | with_reducible refine Grown.alloc ?_ _ _ | with_reducible refine grown_more ?_ _ | with_reducible refine Grown.drew ?_)) hW1);clear hW1)
  | (go_at_call 72;refine (nneg_any _ _ (by omega) (by omega)).mono ?_;rintro e W1 ⟨rfl,h0,h1,hW1⟩;replace HG:=Lib.hid (show Grown w W1 from grown_trans (by repeat (first | with_reducible exact HG.out | with_reducible refine Grown.setCell ?_ (by simp <;> omega) _ | with_reducible refine Grown.alloc ?_ _ _ | with_reducible refine grown_more ?_ _ | with_reducible refine Grown.drew ?_)) hW1);clear hW1))
 go_ret
 exact ⟨by rw [HQ4.out];rfl,by rw [HQ4.out];exact h0,by rw [HQ4.out];exact h1,HG.out⟩):G:=h

theorem dx_12 {G:Prop} (h:G:=by
 have HW:=Lib.hid (fun w1=>total_any f mode (fS f a) (fS f b) (amtE (unE f a) (unM f a)) (amtE (unE f b) (unM f b)) w1 (amt_nine f a) (amt_nine f b))
 obtain ⟨v,g1,g2,g3,g4,g5,hR⟩:=tot_shape f mode (fS f a) (amtE (unE f a) (unM f a)) (fS f b) (amtE (unE f b) (unM f b))
 have HR:=Lib.hid hR
 clear hR
 go_enter Tryz.func74,Tryz.ntmps74
 go_wp2_with fail
 generalize ((w.alloc _).alloc _)=W4 at HE HG HC ⊢
 obtain ⟨y0,y1⟩:=HC.out
 refine (nans2_any f a b _ _ a0 a1 b0 b1 y0 y1).mono ?_
 rintro e w' ⟨he,m,rfl⟩
 rw [HNN.out,HSS.out] at he
 subst he
 clear y0 y1
 obtain ⟨xb,x0,x1,x2,x3,x4,z0,z1,z2,z3,z4⟩:=HE.out
 go_wp2_with (first
  | (go_at_call 90;refine (rinfB_any _ _ _ (by omega) (by omega)).mono ?_;rintro e w' ⟨he,m,rfl⟩;(first | rw [HIA.out] at he | rw [HIB.out] at he);subst he)
  | (go_at_call 59;refine (rnouB_any _ _ _ (by omega) (by omega)).mono ?_;rintro e w' ⟨he,m,rfl⟩;(first | rw [HZA.out] at he | rw [HZB.out] at he);subst he)
  | (go_at_call 89;refine (rneg_any _ _ _ (by omega) (by omega)).mono ?_;rintro e w' ⟨rfl,m,rfl⟩)
  | (go_at_call 88;refine (rnan_any _ _).mono ?_;rintro e w' ⟨rfl,m,rfl⟩)
  | (go_at_call 61;refine (rmask_any _ _).mono ?_;rintro e w' ⟨rfl,rfl⟩)
  | (go_at_call 53;refine (runpack_any _ _ _ (by omega) (by omega)).mono ?_;rintro e w' ⟨rfl,m,rfl⟩))
 refine (spread_unp f a _).mono ?_
 rintro e W5 ⟨rfl,hW5⟩
 have HW5:=Lib.hid (grown_trans (grown_drewN _ _) hW5)
 clear hW5
 go_wp2_with (go_at_call 53;refine (runpack_any _ _ _ (by omega) (by omega)).mono ?_;rintro e w' ⟨rfl,m,rfl⟩)
 refine (spread_unp f b _).mono ?_
 rintro e W6 ⟨rfl,hW6⟩
 have HW6:=Lib.hid (grown_trans HW5.out (grown_trans (grown_drewN _ _) hW6))
 clear hW6
 go_wp2_with fail
 refine (HW.out _).mono ?_
 rintro e W7 ⟨he,hW7⟩
 rw [HR.out] at he
 subst he
 have HW7:=Lib.hid (grown_trans HW6.out hW7)
 clear hW7 xb x0 x1 x2 x3 x4 z0 z1 z2 z3 z4
 obtain ⟨xb,x0,x1,x2,x3,x4,z0,z1,z2,z3,z4⟩:=HE.out.grown HW7.out
 go_wp2
 (try simp only [Exit.inBlock,Exit.then])
 refine bodyPost_ret ?_ rfl ⟨HR.out.symm.trans HQ.out.symm,?_⟩
 ·rw [results_tmp_cell rfl]
  go_simp
 ·repeat refine Grown.setCell ?_ (by simp <;> omega) _
  exact grown_trans HG.out HW7.out):G:=h

theorem dx_13 {G:Prop} (h:G:=by
 clear HM3
 go_enter Tryz.func83,Tryz.ntmps83
 go_wp2_with (go_at_call 100;refine (class_any _ _ _ (by omega) (by omega)).mono ?_;rintro e w' ⟨he,m,rfl⟩;(first | rw [HA.out] at he | rw [HB.out] at he | rw [HC.out] at he);subst he)
 refine (oneIs3_any 5 A B C _ _ (by go_simp) (by go_simp) (by go_simp)).mono ?_
 rintro e w' ⟨he,rfl⟩
 rw [HS.out] at he
 subst he
 go_wp2_with fail
 refine (punknown_any A B _).mono ?_
 rintro e W1 ⟨he,hW1⟩
 rw [HL.out] at he
 subst he
 have HG1:=Lib.hid (show Grown w W1 from grown_trans (by repeat (first | with_reducible exact HG0.out | with_reducible refine Grown.setCell ?_ (by simp <;> omega) _ | with_reducible refine Grown.alloc ?_ _ _ | with_reducible refine grown_more ?_ _)) hW1)
 have HX1:=Lib.hid (show ExcAt w.heap.size W1 from HX0.out.grown (grown_trans (by repeat (first | with_reducible exact Grown.refl _ | with_reducible refine Grown.setCell ?_ (by simp <;> omega) _ | with_reducible refine Grown.alloc ?_ _ _ | with_reducible refine grown_more ?_ _)) hW1))
 clear hW1
 go_wp2_with fail
 refine (pproduct_any f a b _ a0 a1 b0 b1).mono ?_
 rintro e W2 ⟨he,hW2⟩
 rw [HP.out] at he
 subst he
 have HG2:=Lib.hid (show Grown w W2 from grown_trans (by repeat (first | with_reducible exact HG1.out | with_reducible refine Grown.setCell ?_ (by simp <;> omega) _ | with_reducible refine Grown.alloc ?_ _ _ | with_reducible refine grown_more ?_ _)) hW2)
 have HX2:=Lib.hid (show ExcAt w.heap.size W2 from HX1.out.grown (grown_trans (by repeat (first | with_reducible exact Grown.refl _ | with_reducible refine Grown.setCell ?_ (by simp <;> omega) _ | with_reducible refine Grown.alloc ?_ _ _ | with_reducible refine grown_more ?_ _)) hW2))
 clear hW2
 go_wp2_with fail
 have HX4:=Lib.hid (HX2.out.under2 #[.bool s,.int .i64 X,.int .u64 T] #[.int .i64 A,.int .i64 B,.int .i64 C] 118 3)
 have HG4:=Lib.hid (Grown.alloc (Grown.alloc HG2.out #[.bool s,.int .i64 X,.int .u64 T] 118) #[.int .i64 A,.int .i64 B,.int .i64 C] 3)
 have HP4:=Lib.hid ((part_new W2 s X T 118).under1 #[.int .i64 A,.int .i64 B,.int .i64 C] 3)
 have HD:=cells3b W2 #[.bool s,.int .i64 X,.int .u64 T] 118 (.int .i64 A) (.int .i64 B) (.int .i64 C) 3
 generalize ((W2.alloc _).alloc _)=W4 at HX4 HG4 HP4 HD ⊢
 obtain ⟨y0,y1,y2⟩:=HD
 refine (oneIs3_any 4 A B C _ _ y0 y1 y2).mono ?_
 rintro e w' ⟨he,rfl⟩
 rw [HQu.out] at he
 subst he
 clear y0 y1 y2
 go_wp2_with fail
 have HX5:=Lib.hid (HX4.out.under1 #[.int .i64 A,.int .i64 B] 3)
 have HG5:=Lib.hid (Grown.alloc HG4.out #[.int .i64 A,.int .i64 B] 3)
 have HP5:=Lib.hid (HP4.out.under1 #[.int .i64 A,.int .i64 B] 3)
 have HD:=cells2 W4 (.int .i64 A) (.int .i64 B) 3
 generalize (W4.alloc _)=W5 at HX5 HG5 HP5 HD ⊢
 obtain ⟨y0,y1⟩:=HD
 refine (oneIs2_any 3 A B _ _ y0 y1).mono ?_
 rintro e w' ⟨he,rfl⟩
 rw [HI.out] at he
 subst he
 clear y0 y1
 go_wp2_with fail
 have HX6:=Lib.hid (HX5.out.under1 #[.int .i64 A,.int .i64 B] 3)
 have HG6:=Lib.hid (Grown.alloc HG5.out #[.int .i64 A,.int .i64 B] 3)
 have HP6:=Lib.hid (HP5.out.under1 #[.int .i64 A,.int .i64 B] 3)
 have HD:=cells2 W5 (.int .i64 A) (.int .i64 B) 3
 generalize (W5.alloc _)=W6 at HX6 HG6 HP6 HD ⊢
 obtain ⟨y0,y1⟩:=HD
 refine (oneIs2_any 0 A B _ _ y0 y1).mono ?_
 rintro e w' ⟨he,rfl⟩
 rw [HZ.out] at he
 subst he
 clear y0 y1
 obtain ⟨v,g1,g2,g3,g4,g5,hR⟩:=add_shape f mode (zerI f s) c
 have HR:=Lib.hid hR
 clear hR
 obtain ⟨i0,i1⟩:0≤zerI f s∧zerI f s≤4294967295:=(zer_parts f s).2.2.2
 obtain ⟨pl,p0,p1,p2,r0,r1,r2⟩:=HP6.out
 go_wp2_with (go_at_call 122;refine (zero_any _ _ _).mono ?_;rintro e w' ⟨rfl,rfl⟩)
 refine (sadd_any f mode (zerI f s) c _ i0 i1 c0 c1).mono ?_
 rintro e W7 ⟨he,hW⟩
 rw [HR.out] at he
 subst he
 have HG7:=Lib.hid (show Grown w W7 from grown_trans (by repeat (first | with_reducible exact HG6.out | with_reducible refine Grown.setCell ?_ (by simp <;> omega) _ | with_reducible refine Grown.alloc ?_ _ _ | with_reducible refine grown_more ?_ _)) hW)
 have HX7:=Lib.hid (show ExcAt w.heap.size W7 from HX6.out.grown (grown_trans (by repeat (first | with_reducible exact Grown.refl _ | with_reducible refine Grown.setCell ?_ (by simp <;> omega) _ | with_reducible refine Grown.alloc ?_ _ _ | with_reducible refine grown_more ?_ _)) hW))
 clear hW
 obtain ⟨xb,x0,x1,x2,x3,x4,z0,z1,z2,z3,z4⟩:=HX7.out
 go_wp2
 (try simp only [Exit.inBlock,Exit.then])
 refine bodyPost_ret ?_ rfl ⟨HR.out.symm.trans HQ.out.symm,?_⟩
 ·rw [results_tmp_cell rfl]
  go_simp
 ·repeat (first | with_reducible exact HG7.out | with_reducible refine Grown.setCell ?_ (by simp <;> omega) _ | with_reducible refine Grown.alloc ?_ _ _ | with_reducible refine grown_more ?_ _)):G:=h

theorem dx_14 {G:Prop} (h:G:=by
 rintro e W1 ⟨he,hW1⟩
 rw [HS.out] at he
 subst he
 have HG:=Lib.hid hW1
 clear hW1
 go_wp2
 go_ret
 exact ⟨rfl,h0,h1,by repeat (first | with_reducible exact HG.out | with_reducible refine Grown.setCell ?_ (by simp <;> omega) _ | with_reducible refine Grown.alloc ?_ _ _ | with_reducible refine grown_more ?_ _ | with_reducible refine Grown.drew ?_)⟩):G:=h

theorem dx_15 {G:Prop} (h:G:=by
 obtain ⟨xb,x0,x1,x2,x3,x4,z0,z1,z2,z3,z4⟩:=HX0.out
 go_enter Tryz.func71,Tryz.ntmps71
 go_wp2_with (first
  | (go_at_call 23;refine (rfinite_any _ _ _ (by omega) (by omega)).mono ?_;rintro e w' ⟨he,dm,rfl⟩;rw [HV.out] at he;subst he)
  | (go_at_call 111;refine (runits_any _ _ _ _ (by omega) (by omega)).mono ?_;rintro e w' ⟨he,dm2,rfl⟩;rw [HUn.out] at he;subst he))
 (try simp only [Exit.inBlock,Exit.then])
 refine bodyPost_ret ?_ rfl ⟨HQ.out.symm,?_⟩
 ·rw [results_tmp_cell rfl]
  go_simp
 ·repeat (first | with_reducible exact HG0.out | with_reducible refine Grown.setCell ?_ (by simp <;> omega) _ | with_reducible refine Grown.alloc ?_ _ _ | with_reducible refine grown_more ?_ _ | with_reducible refine Grown.drew ?_)):G:=h

theorem dx_16 {G:Prop} (h:G:=by
 go_enter Tryz.func24,Tryz.ntmps24
 go_wp2_with fail
 generalize (w.alloc _)=W4 at HC HG ⊢
 obtain ⟨y0,y1⟩:=HC.out
 refine (nans2_any f a b _ _ a0 a1 b0 b1 y0 y1).mono ?_
 rintro e w' ⟨he,dm,rfl⟩
 rw [HNN.out,HSS.out] at he
 subst he
 clear y0 y1
 go_wp2_with (first
  | (go_at_call 59;refine (rnouB_any _ _ _ (by omega) (by omega)).mono ?_;rintro e w' ⟨he,dm,rfl⟩;(first | rw [HZA.out] at he | rw [HZB.out] at he);subst he)
  | (go_at_call 60;refine (rkey_any _ _ _ (by omega) (by omega)).mono ?_;rintro e w' ⟨he,dm,rfl⟩;(first | rw [HXa.out] at he | rw [HXb.out] at he);subst he))
 go_ret2
 exact ⟨HQ.out.symm,by repeat (first | with_reducible exact HG.out | with_reducible refine grown_more ?_ _)⟩):G:=h

theorem dx_17 {G:Prop} (h:G:=by
 subst he
 have HG1:=Lib.hid (show Grown w W1 from grown_trans (by repeat (first | with_reducible exact HG0.out | with_reducible refine Grown.setCell ?_ (by simp <;> omega) _ | with_reducible refine Grown.alloc ?_ _ _ | with_reducible refine grown_more ?_ _ | with_reducible refine Grown.drew ?_)) hW1)
 have HX1:=Lib.hid (show ExcAt w.heap.size W1 from HX0.out.grown (grown_trans (by repeat (first | with_reducible exact Grown.refl _ | with_reducible refine Grown.setCell ?_ (by simp <;> omega) _ | with_reducible refine Grown.alloc ?_ _ _ | with_reducible refine grown_more ?_ _ | with_reducible refine Grown.drew ?_)) hW1))
 clear hW1
 obtain ⟨xb,x0,x1,x2,x3,x4,z0,z1,z2,z3,z4⟩:=HX1.out
 go_wp2
 (try simp only [Exit.inBlock,Exit.then])
 refine bodyPost_ret ?_ rfl ⟨(packE_is _ _ _ _).trans HQ.out.symm,?_⟩
 ·rw [results_tmp_cell rfl]
  go_simp
 ·repeat (first | with_reducible exact HG1.out | with_reducible refine Grown.setCell ?_ (by simp <;> omega) _ | with_reducible refine Grown.alloc ?_ _ _ | with_reducible refine grown_more ?_ _ | with_reducible refine Grown.drew ?_)):G:=h

theorem dx_18 {G:Prop} (h:G:=by
 have HQ2:=Lib.hid HQ
 clear HM HQ
 go_enter Tryz.func22,Tryz.ntmps22
 go_wp2_with (first
  | (go_at_call 53;refine (runpack_any _ _ _ x0 x1).mono ?_;rintro e w1 ⟨he,dm,rfl⟩;rw [HU.out] at he;subst he)
  | (go_at_call 54;refine (rclass_any _ _ _ x0 x1).mono ?_;rintro e w1 ⟨he,dm2,rfl⟩;rw [HC.out] at he;subst he)
  | (go_at_call 55;refine (nnan_any _ _ (by omega) (by omega)).mono ?_;rintro e W1 ⟨he,hW1⟩;rw [HN.out] at he;subst he;replace HG:=Lib.hid (show Grown w W1 from grown_trans (by repeat (first | with_reducible exact HG.out | with_reducible refine Grown.setCell ?_ (by simp <;> omega) _ | with_reducible refine Grown.alloc ?_ _ _ | with_reducible refine grown_more ?_ _ | with_reducible refine Grown.drew ?_)) hW1);clear hW1))
 go_ret
 exact ⟨by rw [HQ2.out];rfl,by rw [HQ2.out];omega,by rw [HQ2.out];omega,HG.out⟩):G:=h

theorem dx_19 {G:Prop} (h:G:=by
 have HQ:=Lib.hid (show divE f mode a b=excE (infI f s) false by rw [HM.out];simp [*])
 clear HM
 go_enter Tryz.func84,Tryz.ntmps84
 go_wp2_with (go_at_call 100;refine (class_any _ _ _ (by omega) (by omega)).mono ?_;rintro e w' ⟨he,dm,rfl⟩;(first | rw [HA.out] at he | rw [HB.out] at he);subst he)
 refine (qunpack_any f a _ a0 a1).mono ?_
 rintro e W1 ⟨he,hW1⟩
 rw [HUa.out] at he
 subst he
 have HG1:=Lib.hid (show Grown w W1 from grown_trans (by repeat (first | with_reducible exact HG0.out | with_reducible refine Grown.setCell ?_ (by simp <;> omega) _ | with_reducible refine Grown.alloc ?_ _ _ | with_reducible refine grown_more ?_ _ | with_reducible refine Grown.drew ?_)) hW1)
 have HX1:=Lib.hid (show ExcAt w.heap.size W1 from HX0.out.grown (grown_trans (by repeat (first | with_reducible exact Grown.refl _ | with_reducible refine Grown.setCell ?_ (by simp <;> omega) _ | with_reducible refine Grown.alloc ?_ _ _ | with_reducible refine grown_more ?_ _ | with_reducible refine Grown.drew ?_)) hW1))
 clear hW1
 go_wp2_with fail
 refine (qunpack_any f b _ b0 b1).mono ?_
 rintro e W2 ⟨he,hW2⟩
 rw [HUb.out] at he
 subst he
 have HG2:=Lib.hid (show Grown w W2 from grown_trans (by repeat (first | with_reducible exact HG1.out | with_reducible refine Grown.setCell ?_ (by simp <;> omega) _ | with_reducible refine Grown.alloc ?_ _ _ | with_reducible refine grown_more ?_ _ | with_reducible refine Grown.drew ?_)) hW2)
 have HX2:=Lib.hid (show ExcAt w.heap.size W2 from HX1.out.grown (grown_trans (by repeat (first | with_reducible exact Grown.refl _ | with_reducible refine Grown.setCell ?_ (by simp <;> omega) _ | with_reducible refine Grown.alloc ?_ _ _ | with_reducible refine grown_more ?_ _ | with_reducible refine Grown.drew ?_)) hW2))
 clear hW2
 go_wp2_with fail
 have HX4:=Lib.hid (HX2.out.under2 #[.bool n,.int .i64 x,.int .u64 p] #[.bool m,.int .i64 y,.int .u64 q] 124 124)
 have HG4:=Lib.hid (Grown.alloc (Grown.alloc HG2.out #[.bool n,.int .i64 x,.int .u64 p] 124) #[.bool m,.int .i64 y,.int .u64 q] 124)
 obtain ⟨hp4,hq4⟩:=parts_two W2 n m x y p q 124
 have HPX4:=Lib.hid hp4
 have HPY4:=Lib.hid hq4
 clear hp4 hq4
 generalize ((W2.alloc _).alloc _)=W4 at HX4 HG4 HPX4 HPY4 ⊢
 obtain ⟨xb,x0,x1,x2,x3,x4,z0,z1,z2,z3,z4⟩:=HX4.out
 go_wp2_with (go_at_call 104;refine (inf_any _ _ _).mono ?_;rintro e w' ⟨rfl,rfl⟩)
 (try simp only [Exit.inBlock,Exit.then])
 refine bodyPost_ret ?_ rfl ⟨(excE_is _ _).trans HQ.out.symm,?_⟩
 ·rw [results_tmp_cell rfl]
  go_simp
 ·repeat (first | with_reducible exact HG4.out | with_reducible refine Grown.setCell ?_ (by simp <;> omega) _ | with_reducible refine Grown.alloc ?_ _ _ | with_reducible refine grown_more ?_ _ | with_reducible refine Grown.drew ?_)):G:=h

theorem dx_20 {G:Prop} (h:G:=by
 have hi2:IntKind.i64.wrap N=N:=by rw [IntKind.wrap_i64];omega
 have hi3:wrap64 N=N:=by rw [wrap64_is];exact hi2
 go_enter Tryz.func174,Tryz.ntmps174
 go_wp2_with fail
 refine (wround_any _ _ _ _ a0 a1).mono ?_
 rintro e W1 ⟨he,hW1⟩
 rw [HW.out] at he
 subst he
 have HG1:=Lib.hid (show Grown w W1 from grown_trans (by repeat (first | with_reducible exact HG0.out | with_reducible refine Grown.setCell ?_ (by simp <;> omega) _ | with_reducible refine Grown.alloc ?_ _ _ | with_reducible refine grown_more ?_ _ | with_reducible refine Grown.drew ?_)) hW1)
 have HE1:=Lib.hid (show ExcAt w.heap.size W1 from HX0.out.grown (grown_trans (by repeat (first | with_reducible exact Grown.refl _ | with_reducible refine Grown.setCell ?_ (by simp <;> omega) _ | with_reducible refine Grown.alloc ?_ _ _ | with_reducible refine grown_more ?_ _ | with_reducible refine Grown.drew ?_)) hW1))
 have hbne:¬W1.heap.size=w.heap.size:=by have:=HE1.out.1;omega
 clear hW1 xb x0 x1 x2 x3 x4 z0 z1 z2 z3 z4
 obtain ⟨xb,x0,x1,x2,x3,x4,z0,z1,z2,z3,z4⟩:=HE1.out
 go_wp2_with (first
  | (go_at_call 145;refine (unpack_any _ _ _ b0 b1).mono ?_;rintro e w' ⟨he,dm,rfl⟩;rw [HU.out] at he;subst he)
  | (go_at_call 148;refine (shift_any _ _ _ m0 (by omega) (by omega) (by omega)).mono ?_;rintro e w' ⟨he,dm2,rfl⟩;rw [HSh.out] at he;subst he)
  | (go_at_call 98;refine (finite_any _ _ _ b0 b1).mono ?_;rintro e w' ⟨he,dm3,rfl⟩;rw [HF.out] at he;subst he)
  | (go_at_call 179;refine (wgreatest_any _ _).mono ?_;rintro e w' ⟨rfl,rfl⟩))
 refine wp_region_still_tail 4 (by kernel_rfl) (by kernel_rfl) ?_
 simp only [List.take_succ_cons,List.take_zero,List.drop_succ_cons,List.drop_zero]
 change wpStill _ _ (World.drew _) (fun a'=>wpList _ _ _ _ a' (World.drew _)) _ _
 repeat (first | still_step)
 try refine wpStill_nil ?_
 go_wp2
 (try simp only [Exit.inBlock,Exit.then])
 refine bodyPost_ret ?_ rfl ⟨HQ.out.symm,?_⟩
 ·rw [results_tmp_cell rfl]
  go_simp
 ·repeat (first | with_reducible exact HG1.out | with_reducible refine Grown.setCell ?_ (by simp <;> omega) _ | with_reducible refine Grown.alloc ?_ _ _ | with_reducible refine grown_more ?_ _ | with_reducible refine Grown.drew ?_)):G:=h

theorem dx_21 {G:Prop} (h:G:=by
 go_wp2_with (first
  | (go_at_call 100;refine (class_any _ _ _ x0 x1).mono ?_;rintro e W1 ⟨he,dm,hd⟩;rw [HC.out] at he;subst he;have hW1:=grown_of_drew hd;clear hd;replace HG:=Lib.hid (show Grown w W1 from grown_trans (by repeat (first | with_reducible exact HG.out | with_reducible refine Grown.setCell ?_ (by simp <;> omega) _ | with_reducible refine Grown.alloc ?_ _ _ | with_reducible refine grown_more ?_ _ | with_reducible refine Grown.drew ?_)) hW1);clear hW1)
  | (go_at_call 103;refine (nan_any 2 _).mono ?_;rintro e w1 ⟨he,rfl⟩;rw [HF.out] at he;subst he))
 go_ret
 have hv:=HV.out (by rw [HB.out];rfl)
 exact ⟨by first | (rw [hv];done) | (rw [hv];rfl),by rw [hv];omega,by rw [hv];omega,HG.out⟩):G:=h

theorem dx_22 {G:Prop} (h:G:=by
 clear HMM
 have hxl:wrap64 (x+L)=x+L:=by unfold wrap64;omega
 go_enter Tryz.func176,Tryz.ntmps176
 go_wp2_with (first
  | (go_at_call 145;refine (unpack_any _ _ _ a0 a1).mono ?_;rintro e w' ⟨he,dm,rfl⟩;rw [HUa.out] at he;subst he)
  | (go_at_call 100;refine (class_any _ _ _ a0 a1).mono ?_;rintro e w' ⟨he,dm2,rfl⟩;rw [HC.out] at he;subst he)
  | (go_at_call 104;refine (inf_any _ _ _).mono ?_;rintro e w' ⟨rfl,rfl⟩)
  | (go_at_call 103;refine (nan_any _ _).mono ?_;rintro e w' ⟨rfl,rfl⟩)
  | (go_at_call 180;refine (wreach_any _ _ n0 n1).mono ?_;rintro e w' ⟨he,rfl⟩;rw [HL.out] at he;subst he))
 refine (pack_any _ _ _ _ _ _ _ (by omega) (by omega) (by omega) (by omega)).mono ?_
 rintro e W5 ⟨he,hW5⟩
 rw [←packE_is] at he
 subst he
 have HG5:=Lib.hid (show Grown w W5 from grown_trans (by repeat (first | with_reducible exact HG0.out | with_reducible refine Grown.setCell ?_ (by simp <;> omega) _ | with_reducible refine Grown.alloc ?_ _ _ | with_reducible refine grown_more ?_ _ | with_reducible refine Grown.drew ?_)) hW5)
 have HE5:=Lib.hid (show ExcAt w.heap.size W5 from HX0.out.grown (grown_trans (by repeat (first | with_reducible exact Grown.refl _ | with_reducible refine Grown.setCell ?_ (by simp <;> omega) _ | with_reducible refine Grown.alloc ?_ _ _ | with_reducible refine grown_more ?_ _ | with_reducible refine Grown.drew ?_)) hW5))
 clear hW5 xb x0 x1 x2 x3 x4 z0 z1 z2 z3 z4
 obtain ⟨xb,x0,x1,x2,x3,x4,z0,z1,z2,z3,z4⟩:=HE5.out
 go_wp2
 (try simp only [Exit.inBlock,Exit.then])
 refine bodyPost_ret ?_ rfl ⟨(packE_is _ _ _ _).trans HQ.out.symm,?_⟩
 ·rw [results_tmp_cell rfl]
  go_simp
 ·repeat (first | with_reducible exact HG5.out | with_reducible refine Grown.setCell ?_ (by simp <;> omega) _ | with_reducible refine Grown.alloc ?_ _ _ | with_reducible refine grown_more ?_ _ | with_reducible refine Grown.drew ?_)):G:=h

theorem dx_23 {G:Prop} (h:G:=by
 clear hk1 hk2 hk3
 go_enter Tryz.func99,Tryz.ntmps99
 obtain ⟨xb,x0,x1,x2,x3,x4,z0,z1,z2,z3,z4⟩:=HE.out
 go_wp2_with (first
   | (go_at_call 103;refine (nan_any _ _).mono ?_;rintro e w' ⟨rfl,rfl⟩)
   | (go_at_call 104;refine (inf_any _ _ _).mono ?_;rintro e w' ⟨rfl,rfl⟩)
   | (go_at_call 100;refine (class_any _ _ _ a0 a1).mono ?_;rintro e w' ⟨he,dm,rfl⟩;rw [HC.out] at he;subst he)
   | (go_at_call 145;refine (unpack_any _ _ _ a0 a1).mono ?_;rintro e w' ⟨he,dm,rfl⟩;rw [HUa.out] at he;subst he))
 (try simp only [Exit.inBlock,Exit.then])
 refine bodyPost_ret ?_ rfl ⟨HQ.out.symm,?_⟩
 ·rw [results_tmp_cell rfl]
  go_simp
 ·repeat (first | with_reducible exact HG.out | with_reducible refine Grown.setCell ?_ (by simp <;> omega) _ | with_reducible refine Grown.alloc ?_ _ _ | with_reducible refine grown_more ?_ _ | with_reducible refine Grown.drew ?_)):G:=h

theorem dx_24 {G:Prop} (h:G:=by
 clear hk1 hk2 hk3
 go_enter Tryz.func110,Tryz.ntmps110
 go_wp2_with fail
 generalize ((w.alloc _).alloc _)=W4 at HE HG HC ⊢
 have y0:=HC.out
 refine (nans1_any f a _ _ a0 a1 y0).mono ?_
 rintro e w' ⟨he,m,rfl⟩
 rw [HNN.out,HSS.out] at he
 subst he
 clear y0
 obtain ⟨xb,x0,x1,x2,x3,x4,z0,z1,z2,z3,z4⟩:=HE.out
 go_wp2_with (first
   | (go_at_call 88;refine (rnan_any _ _).mono ?_;rintro e w' ⟨rfl,dm,rfl⟩)
   | (go_at_call 91;refine (rinf_any _ _ _).mono ?_;rintro e w' ⟨rfl,dm,rfl⟩)
   | (go_at_call 90;refine (rinfB_any _ _ _ (by omega) (by omega)).mono ?_;rintro e w' ⟨he,dm,rfl⟩;rw [HII.out] at he;subst he)
   | (go_at_call 89;refine (rneg_any _ _ _ (by omega) (by omega)).mono ?_;rintro e w' ⟨he,dm,rfl⟩;rw [HS.out] at he;subst he)
   | (go_at_call 53;refine (runpack_any _ _ _ a0 a1).mono ?_;rintro e w' ⟨he,dm,rfl⟩;rw [HUa.out] at he;subst he))
 (try simp only [Exit.inBlock,Exit.then])
 refine bodyPost_ret ?_ rfl ⟨HQ.out.symm,?_⟩
 ·rw [results_tmp_cell rfl]
  go_simp
 ·repeat (first | with_reducible exact HG.out | with_reducible refine Grown.setCell ?_ (by simp <;> omega) _ | with_reducible refine Grown.alloc ?_ _ _ | with_reducible refine grown_more ?_ _ | with_reducible refine Grown.drew ?_)):G:=h

theorem dx_25 {G:Prop} (h:G:=by
 have HE5:=Lib.hid (show ExcAt w.heap.size W5 from HE.out.grown (grown_trans (by repeat (first | with_reducible exact Grown.refl _ | with_reducible refine grown_more ?_ _ | with_reducible refine Grown.drew ?_)) hW5))
 clear hW5 xb x0 x1 x2 x3 x4 z0 z1 z2 z3 z4
 obtain ⟨xb,x0,x1,x2,x3,x4,z0,z1,z2,z3,z4⟩:=HE5.out
 go_wp2
 (try simp only [Exit.inBlock,Exit.then])
 refine bodyPost_ret ?_ rfl ⟨(packE_is _ _ _ _).trans HQ.out.symm,?_⟩
 ·rw [results_tmp_cell rfl]
  go_simp
 ·repeat (first | with_reducible exact HG5.out | with_reducible refine Grown.setCell ?_ (by simp <;> omega) _ | with_reducible refine Grown.alloc ?_ _ _ | with_reducible refine grown_more ?_ _ | with_reducible refine Grown.drew ?_)):G:=h

theorem dx_26 {G:Prop} (h:G:=by
 have HQ:=HM.out
 simp only [if_true,Bool.false_eq_true,if_false] at HQ
 have HQ2:=Lib.hid HQ
 clear HM HQ
 go_enter Tryz.func37,Tryz.ntmps37
 go_wp2_with (first
  | (go_at_call 55;refine (nnan_any _ _ (by omega) (by omega)).mono ?_;rintro e W1 ⟨he,hW1⟩;rw [HN.out] at he;subst he;replace HG:=Lib.hid (show Grown w W1 from grown_trans (by repeat (first | with_reducible exact HG.out | with_reducible refine Grown.setCell ?_ (by simp <;> omega) _ | with_reducible refine Grown.alloc ?_ _ _ | with_reducible refine grown_more ?_ _ | with_reducible refine Grown.drew ?_)) hW1);clear hW1)
  | (go_at_call 40;refine (nabo_any _ _ _ (by omega) (by omega) (by omega) (by omega)).mono ?_;rintro e W1 ⟨he,hW1⟩;(first | rw [HA.out] at he | rw [HB.out] at he);subst he;replace HG:=Lib.hid (show Grown w W1 from grown_trans (by repeat (first | with_reducible exact HG.out | with_reducible refine Grown.setCell ?_ (by simp <;> omega) _ | with_reducible refine Grown.alloc ?_ _ _ | with_reducible refine grown_more ?_ _ | with_reducible refine Grown.drew ?_)) hW1);clear hW1))
 go_ret
 exact ⟨by rw [HQ2.out];rfl,by rw [HQ2.out];omega,by rw [HQ2.out];omega,HG.out⟩):G:=h

theorem dx_27 {G:Prop} (h:G:=by
 clear HMM
 go_enter Tryz.func176,Tryz.ntmps176
 go_wp2_with (first
  | (go_at_call 145;refine (unpack_any _ _ _ a0 a1).mono ?_;rintro e w' ⟨he,dm,rfl⟩;rw [HUa.out] at he;subst he)
  | (go_at_call 100;refine (class_any _ _ _ a0 a1).mono ?_;rintro e w' ⟨he,dm2,rfl⟩;rw [HC.out] at he;subst he)
  | (go_at_call 104;refine (inf_any _ _ _).mono ?_;rintro e w' ⟨rfl,rfl⟩)
  | (go_at_call 103;refine (nan_any _ _).mono ?_;rintro e w' ⟨rfl,rfl⟩)
  | (go_at_call 180;refine (wreach_any _ _ n0 n1).mono ?_;rintro e w' ⟨he,rfl⟩;rw [HL.out] at he;subst he))
 (try simp only [Exit.inBlock,Exit.then])
 refine bodyPost_ret ?_ rfl ⟨HQ.out.symm,?_⟩
 ·rw [results_tmp_cell rfl]
  go_simp
 ·repeat (first | with_reducible exact HG0.out | with_reducible refine Grown.setCell ?_ (by simp <;> omega) _ | with_reducible refine Grown.alloc ?_ _ _ | with_reducible refine grown_more ?_ _ | with_reducible refine Grown.drew ?_)):G:=h

theorem dx_28 {G:Prop} (h:G:=by
 go_ret
 exact ⟨by first | (rw [HQ.out];done) | (rw [HQ.out];rfl),by rw [HQ.out];first | omega | exact (fma_word _ _ _).1,by rw [HQ.out];first | omega | exact (fma_word _ _ _).2,HG.out⟩):G:=h

theorem dx_29 {G:Prop} (h:G:=by
 go_ret
 exact ⟨rfl,by repeat (first | with_reducible exact HG.out | with_reducible refine Grown.setCell ?_ (by simp <;> omega) _ | with_reducible refine Grown.alloc ?_ _ _ | with_reducible refine grown_more ?_ _ | with_reducible refine Grown.drew ?_)⟩):G:=h

theorem dx_30 {G:Prop} (h:G:=by
 clear hs
 go_enter Tryz.func42,Tryz.ntmps42
 go_wp2_with (first | (go_at_call 77;refine (tiswidth_any _ _).mono ?_;rintro e w' ⟨he,rfl⟩;(first | rw [HA.out] at he | rw [HB.out] at he);subst he) | (go_at_call 78;refine (tformat_any _ _).mono ?_;rintro e w' ⟨he,rfl⟩;rw [HK.out] at he;subst he))
 go_ret
 exact ⟨rfl,gr⟩):G:=h

theorem dx_31 {G:Prop} (h:G:=by
 go_wp2_with (go_at_call 145;refine (unpack_any _ _ _ h0 h1).mono ?_;rintro e w' ⟨rfl,m,rfl⟩)
 (try simp only [Exit.inBlock,Exit.then])
 refine bodyPost_ret (v:=.agg #[.bool (fS f v),.int .i64 (unE f v),.int .u64 (unM f v)]) ?_ rfl ⟨rfl,?_⟩
 ·rw [results_one rfl]
  go_simp
 ·repeat refine Grown.setCell ?_ (by simp <;> omega) _
  exact grown_more (Grown.alloc (Grown.refl _) _ _) _):G:=h

theorem dx_32 {G:Prop} (h:G:=by
 clear h
 go_enter Tryz.func46,Tryz.ntmps46
 go_wp2_with (go_at_call 85;refine (tknown_any _ _).mono ?_;rintro e w' ⟨he,rfl⟩;rw [HK.out] at he;subst he)
 go_ret
 exact ⟨rfl,Grown.alloc (Grown.refl _) _ _⟩):G:=h

theorem dx_33 {G:Prop} (h:G:=by
 cases NN
 case true=>
  cases SS
  case false=>
   have HQ:=Lib.hid (HM.out.trans (if_pos (by decide)))
   exact dx_1
  case true=>
   have HQ:=Lib.hid (HM.out.trans (if_pos (by decide)))
   exact dx_1
 case false=>
  obtain rfl:SS=false:=HNS.out rfl
  cases IC
  case true=>
   have hm:=HMC.out rfl
   have HQ:=Lib.hid (HM.out.trans ((if_neg (by decide)).trans ((if_neg (by decide)).trans (if_pos rfl))))
   exact dx_1
  case false=>
   have hv:=HF2.out rfl rfl rfl
   have hw:=HF3.out rfl rfl
   have HV:=Lib.hid hv
   have HWz:=Lib.hid hw
   clear hv hw
   cases ZC
   case true=>
    by_cases hks:(s==k)=true
    ·have hsk:s=k:=by simpa using hks
     subst hsk
     have HQ:=Lib.hid (show fmaE f mode a b c=excE (zerI f s) false by rw [HM.out,if_neg (by decide),if_neg (by decide),if_neg (by decide),HV.out.2 (by decide),HWz.out.1 rfl];exact fin_noughts f mode s)
     exact dx_1
    ·have hks':(s==k)=false:=(Bool.not_eq_true _).mp hks
     have hsk:¬s=k:=by simpa using hks
     have HSK:=Lib.hid hsk
     clear hsk hks
     have HQ:=Lib.hid (show fmaE f mode a b c=totE f mode s (amtE (x+y) T) k (amtE (unE f c) (unM f c)) by
      rw [HM.out,if_neg (by decide),if_neg (by decide),if_neg (by decide)];unfold finE
      rw [if_neg (fun g=>HSK.out g.2.2)])
     exact dx_2
   case false=>
    have HQ:=Lib.hid (show fmaE f mode a b c=totE f mode s (amtE (x+y) T) k (amtE (unE f c) (unM f c)) by
     rw [HM.out,if_neg (by decide),if_neg (by decide),if_neg (by decide)];unfold finE
     rw [if_neg (fun g=>absurd (HWz.out.2 g.2.1) (by decide))])
    exact dx_2):G:=h

theorem dx_34 {G:Prop} (h:G:=by
 cases NN
 case true=>
  cases SS
  case false=>
   have HQ:=Lib.hid (HM.out.trans (if_pos (by decide)))
   exact dx_1
  case true=>
   have HQ:=Lib.hid (HM.out.trans (if_pos (by decide)))
   exact dx_1
 case false=>
  obtain rfl:SS=false:=HNS.out rfl
  cases IC
  case true=>
   by_cases hks:(k != s)=true
   ·have hk2:(k==s)=false:=by simpa [bne] using hks
    have HQ:=Lib.hid (HM.out.trans ((if_neg (by decide)).trans ((if_pos (by decide)).trans (if_pos (by rw [hks];rfl)))))
    exact dx_1
   ·have hks':(k != s)=false:=(Bool.not_eq_true _).mp hks
    have hk2:(k==s)=true:=by simpa [bne] using hks'
    clear hks
    have HQ:=Lib.hid (HM.out.trans ((if_neg (by decide)).trans ((if_pos (by decide)).trans (if_neg (by rw [hks'];decide)))))
    exact dx_1
  case false=>
   have HQ:=Lib.hid (HM.out.trans ((if_neg (by decide)).trans ((if_pos (by decide)).trans (if_neg (by simp)))))
   exact dx_1):G:=h

theorem dx_35 {G:Prop} (h:G:=by
 obtain ⟨xb,x0,x1,x2,x3,x4,z0,z1,z2,z3,z4⟩:=HX4.out
 go_wp2_with (go_at_call 103;refine (nan_any _ _).mono ?_;rintro e w' ⟨rfl,rfl⟩)
 (try simp only [Exit.inBlock,Exit.then])
 refine bodyPost_ret ?_ rfl ⟨(excE_is _ _).trans HQ.out.symm,?_⟩
 ·rw [results_tmp_cell rfl]
  go_simp
 ·repeat (first | with_reducible exact HG4.out | with_reducible refine Grown.setCell ?_ (by simp <;> omega) _ | with_reducible refine Grown.alloc ?_ _ _ | with_reducible refine grown_more ?_ _)):G:=h

theorem dx_36 {G:Prop} (h:G:=by
 have HQ:=Lib.hid (HM3.out.trans (if_pos (by simp)))
 clear HM3
 go_enter Tryz.func83,Tryz.ntmps83
 go_wp2_with (go_at_call 100;refine (class_any _ _ _ (by omega) (by omega)).mono ?_;rintro e w' ⟨he,m,rfl⟩;(first | rw [HA.out] at he | rw [HB.out] at he | rw [HC.out] at he);subst he)
 refine (oneIs3_any 5 A B C _ _ (by go_simp) (by go_simp) (by go_simp)).mono ?_
 exact dx_8):G:=h

theorem dx_37 {G:Prop} (h:G:=by
 rcases hk with k1 | ⟨k1,k2⟩ | ⟨k1,k2⟩
 ·have HQ:=Lib.hid (HM.out.trans (show _=Ending.returned (.tuple #[.int .i64 (-1),.bool true]) by simp [*]))
  exact dx_16
 ·have HQ:=Lib.hid (HM.out.trans (show _=Ending.returned (.tuple #[.int .i64 (1),.bool true]) by simp [*]))
  exact dx_16
 ·have HQ:=Lib.hid (HM.out.trans (show _=Ending.returned (.tuple #[.int .i64 (0),.bool true]) by simp [*]))
  exact dx_16):G:=h

theorem dx_38 {G:Prop} (h:G:=by
 have HQ:=Lib.hid (HM.out.trans ((if_neg (by decide)).trans ((if_neg (by decide)).trans ((if_pos (by decide))))))
 clear HM
 go_enter Tryz.func50,Tryz.ntmps50
 exact dx_4):G:=h

theorem dx_39 {G:Prop} (h:G:=by
 have HQ:=Lib.hid (HM3.out.trans (if_pos (by simp)))
 clear HM3
 go_enter Tryz.func175,Tryz.ntmps175
 go_wp2_with (go_at_call 100;refine (class_any _ _ _ (by omega) (by omega)).mono ?_;rintro e w' ⟨he,m,rfl⟩;(first | rw [HA.out] at he | rw [HB.out] at he);subst he)
 refine (oneIs2_any 5 A B _ _ (by go_simp) (by go_simp)).mono ?_
 exact dx_8):G:=h

theorem dx_40 {G:Prop} (h:G:=by
 rintro e W5 ⟨he,hW5⟩
 rw [←packE_is] at he
 subst he
 have HG5:=Lib.hid (show Grown w W5 from grown_trans (by repeat (first | with_reducible exact HG.out | with_reducible refine Grown.setCell ?_ (by simp <;> omega) _ | with_reducible refine Grown.alloc ?_ _ _ | with_reducible refine grown_more ?_ _ | with_reducible refine Grown.drew ?_)) hW5)
 exact dx_25):G:=h

theorem dx_41 {G:Prop} (h:G:=by
 have HQ:=Lib.hid (HM.out.trans ((if_neg (by decide)).trans (if_pos (by decide))))
 clear HM
 go_enter Tryz.func96,Tryz.ntmps96
 exact dx_4):G:=h

theorem dx_42 {G:Prop} (h:G:=by
 cases NN
 case true=>
  cases SS
  case false=>
   have HQ:=Lib.hid (HM.out.trans (if_pos (by decide)))
   exact dx_1
  case true=>
   have HQ:=Lib.hid (HM.out.trans (if_pos (by decide)))
   exact dx_1
 case false=>
  obtain rfl:SS=false:=HNS.out rfl
  have HQ:=Lib.hid (HM.out.trans (if_pos (by decide)))
  exact dx_1):G:=h
end Go.Proofs.YteifobleigfbaaaGreat
