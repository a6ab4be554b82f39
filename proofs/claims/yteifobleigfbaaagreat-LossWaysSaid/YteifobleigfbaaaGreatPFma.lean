/- The contract of package prod's Mul. (Written by gen10.py.) The contract of package prod's sum of two raised numbers. (Written by gen9.py.) The contract of package prod's sum of two numbers that it raised. The contract of package prod's Fma. (Written by gen10.py.) -/
import Derived.Test.YteifobleigfbaaaGreatDict
import Derived.Test.YteifobleigfbaaaGreatRd
import Derived.Test.YteifobleigfbaaaGreatNans
import Derived.Test.YteifobleigfbaaaGreatAdd
import Derived.Test.YteifobleigfbaaaGreatRows
namespace Go.Proofs.YteifobleigfbaaaGreat
open Go.RowKit
set_option linter.unusedVariables false
set_option linter.unusedSimpArgs false

theorem pproduct_any (f a b:Int) (w:World) (a0:0≤a) (a1:a≤4294967295) (b0:0≤b) (b1:b≤4294967295):
  Calls Tryz.prog 125 #[.int .i64 f,.int .u32 a,.int .u32 b] w fun e w'=>e=.returned (.agg #[.bool (sgP f a b),.int .i64 (unE f a+unE f b),.int .u64 (unM f a*unM f b)])∧Grown w w':=by
 obtain ⟨x0,x1⟩:=unE_bd f a
 obtain ⟨y0,y1⟩:=unE_bd f b
 have x2:=unE_top f a
 have y2:=unE_top f b
 obtain ⟨t0,t1,_⟩:=mul_bd f a b
 exact pproduct_is f a b _ _ _ _ _ _ _ _ w a0 a1 b0 b1 rfl rfl rfl rfl rfl rfl (by omega) (by omega) (by omega) (by omega) rfl t0 t1 rfl

set_option maxRecDepth 100000 in
set_option maxHeartbeats 8000000 in
theorem pmul_any (f mode a b:Int) (w:World) (a0:0≤a) (a1:a≤4294967295) (b0:0≤b) (b1:b≤4294967295):
  Calls Tryz.prog 175 #[.int .i64 f,.int .i64 mode,.int .u32 a,.int .u32 b] w fun e w'=>e=mulE f mode a b∧Grown w w':=by
 have HX0:=Lib.hid (exc_new w 75)
 have HG0:=Lib.hid (Grown.alloc (Grown.refl w) #[.bool false,.bool false,.bool false,.bool false,.bool false] 75)
 obtain ⟨A,hA⟩:∃ A,clsI f a=A:=⟨_,rfl⟩
 obtain ⟨B,hB⟩:∃ B,clsI f b=B:=⟨_,rfl⟩
 obtain ⟨S,hS⟩:∃ S,(A==5 || B==5)=S:=⟨_,rfl⟩
 obtain ⟨Q,hQ⟩:∃ Q,(A==4 || B==4)=Q:=⟨_,rfl⟩
 obtain ⟨I,hI⟩:∃ I,(A==3 || B==3)=I:=⟨_,rfl⟩
 obtain ⟨Z,hZ⟩:∃ Z,(A==0 || B==0)=Z:=⟨_,rfl⟩
 obtain ⟨L,hL⟩:∃ L,((A==0 || B==0)&&(A==3 || B==3))=L:=⟨_,rfl⟩
 have HM:=Lib.hid (mul_prog f mode a b S L Q I (by rw [hA,hB];exact hS) (by rw [hA,hB];exact hL) (by rw [hA,hB];exact hQ) (by rw [hA,hB];exact hI))
 obtain ⟨e0,e1⟩:=unE_bd f a
 have e2:=unE_top f a
 obtain ⟨d0,d1⟩:=unE_bd f b
 have d2:=unE_top f b
 obtain ⟨t0,t1,t2⟩:=mul_bd f a b
 obtain ⟨s,hs⟩:∃ s,sgP f a b=s:=⟨_,rfl⟩
 obtain ⟨X,hX⟩:∃ X,unE f a+unE f b=X:=⟨_,rfl⟩
 obtain ⟨T,hT⟩:∃ T,unM f a*unM f b=T:=⟨_,rfl⟩
 have HP:=Lib.hid (show Ending.returned (.agg #[.bool (sgP f a b),.int .i64 (unE f a+unE f b),.int .u64 (unM f a*unM f b)])=.returned (.agg #[.bool s,.int .i64 X,.int .u64 T]) by rw [hs,hX,hT])
 rw [hT] at t0 t1
 have X0:-400≤X:=by omega
 have X1:X≤400:=by omega
 have HM2:=Lib.hid (show mulE f mode a b=_ from HM.out)
 have HM3:=Lib.hid (show mulE f mode a b=if (S || L || Q)=true then excE (nanI f) (S || L) else if I=true then excE (infI f s) false else PackE f mode s (valN (clampE X) T false) by rw [HM.out,hs,hX,hT])
 have HA:=Lib.hid hA
 have HB:=Lib.hid hB
 have HS:=Lib.hid hS
 have HQu:=Lib.hid hQ
 have HI:=Lib.hid hI
 have HL:=Lib.hid hL
 clear hA hB hS hQ hI hZ hL hs hX hT t2 e0 e1 e2 d0 d1 d2 HM HM2
 cases S
 case true=>
  exact dx_39
 case false=>
  cases L
  case true=>
   exact dx_39
  case false=>
   cases Q
   case true=>
    have HQ:=Lib.hid (HM3.out.trans (if_pos (by simp)))
    clear HM3
    go_enter Tryz.func175,Tryz.ntmps175
    go_wp2_with (go_at_call 100;refine (class_any _ _ _ (by omega) (by omega)).mono ?_;rintro e w' ⟨he,m,rfl⟩;(first | rw [HA.out] at he | rw [HB.out] at he);subst he)
    refine (oneIs2_any 5 A B _ _ (by go_simp) (by go_simp)).mono ?_
    rintro e w' ⟨he,rfl⟩
    rw [HS.out] at he
    subst he
    go_wp2_with fail
    refine (punknown_any A B _).mono ?_
    rintro e W1 ⟨he,hW1⟩
    rw [HL.out] at he
    subst he
    have HG1:=Lib.hid (show Grown w W1 from grown_trans (by repeat (first | with_reducible exact HG0.out | with_reducible refine Grown.setCell ?_ (by simp <;> omega) _ | with_reducible refine Grown.alloc ?_ _ _ | with_reducible refine grown_more ?_ _)) hW1)
    have HX1:=Lib.hid (show ExcAt w.heap.size W1 from HX0.out.grown (grown_trans (by repeat (first | with_reducible exact Grown.refl _ | with_reducible refine Grown.setCell ?_ (by simp <;> omega) _ | with_reducible refine Grown.alloc ?_ _ _ | with_reducible refine grown_more ?_ _)) hW1))
    clear hW1
    go_wp2_with fail
    refine (pproduct_any f a b _ a0 a1 b0 b1).mono ?_
    rintro e W2 ⟨he,hW2⟩
    rw [HP.out] at he
    subst he
    have HG2:=Lib.hid (show Grown w W2 from grown_trans (by repeat (first | with_reducible exact HG1.out | with_reducible refine Grown.setCell ?_ (by simp <;> omega) _ | with_reducible refine Grown.alloc ?_ _ _ | with_reducible refine grown_more ?_ _)) hW2)
    have HX2:=Lib.hid (show ExcAt w.heap.size W2 from HX1.out.grown (grown_trans (by repeat (first | with_reducible exact Grown.refl _ | with_reducible refine Grown.setCell ?_ (by simp <;> omega) _ | with_reducible refine Grown.alloc ?_ _ _ | with_reducible refine grown_more ?_ _)) hW2))
    clear hW2
    go_wp2_with fail
    have HX4:=Lib.hid (HX2.out.under2 #[.bool s,.int .i64 X,.int .u64 T] #[.int .i64 A,.int .i64 B] 118 3)
    have HG4:=Lib.hid (Grown.alloc (Grown.alloc HG2.out #[.bool s,.int .i64 X,.int .u64 T] 118) #[.int .i64 A,.int .i64 B] 3)
    have HP4:=Lib.hid ((part_new W2 s X T 118).under1 #[.int .i64 A,.int .i64 B] 3)
    have HC:=cells2b W2 #[.bool s,.int .i64 X,.int .u64 T] 118 (.int .i64 A) (.int .i64 B) 3
    generalize ((W2.alloc _).alloc _)=W4 at HX4 HG4 HP4 HC ⊢
    obtain ⟨y0,y1⟩:=HC
    refine (oneIs2_any 4 A B _ _ y0 y1).mono ?_
    rintro e w' ⟨he,rfl⟩
    rw [HQu.out] at he
    subst he
    clear y0 y1
    exact dx_35
   case false=>
    cases I
    case true=>
     have HQ:=Lib.hid (HM3.out.trans ((if_neg (by simp)).trans (if_pos rfl)))
     clear HM3
     go_enter Tryz.func175,Tryz.ntmps175
     go_wp2_with (go_at_call 100;refine (class_any _ _ _ (by omega) (by omega)).mono ?_;rintro e w' ⟨he,m,rfl⟩;(first | rw [HA.out] at he | rw [HB.out] at he);subst he)
     refine (oneIs2_any 5 A B _ _ (by go_simp) (by go_simp)).mono ?_
     rintro e w' ⟨he,rfl⟩
     rw [HS.out] at he
     subst he
     go_wp2_with fail
     refine (punknown_any A B _).mono ?_
     rintro e W1 ⟨he,hW1⟩
     rw [HL.out] at he
     subst he
     have HG1:=Lib.hid (show Grown w W1 from grown_trans (by repeat (first | with_reducible exact HG0.out | with_reducible refine Grown.setCell ?_ (by simp <;> omega) _ | with_reducible refine Grown.alloc ?_ _ _ | with_reducible refine grown_more ?_ _)) hW1)
     have HX1:=Lib.hid (show ExcAt w.heap.size W1 from HX0.out.grown (grown_trans (by repeat (first | with_reducible exact Grown.refl _ | with_reducible refine Grown.setCell ?_ (by simp <;> omega) _ | with_reducible refine Grown.alloc ?_ _ _ | with_reducible refine grown_more ?_ _)) hW1))
     clear hW1
     go_wp2_with fail
     refine (pproduct_any f a b _ a0 a1 b0 b1).mono ?_
     rintro e W2 ⟨he,hW2⟩
     rw [HP.out] at he
     subst he
     have HG2:=Lib.hid (show Grown w W2 from grown_trans (by repeat (first | with_reducible exact HG1.out | with_reducible refine Grown.setCell ?_ (by simp <;> omega) _ | with_reducible refine Grown.alloc ?_ _ _ | with_reducible refine grown_more ?_ _)) hW2)
     have HX2:=Lib.hid (show ExcAt w.heap.size W2 from HX1.out.grown (grown_trans (by repeat (first | with_reducible exact Grown.refl _ | with_reducible refine Grown.setCell ?_ (by simp <;> omega) _ | with_reducible refine Grown.alloc ?_ _ _ | with_reducible refine grown_more ?_ _)) hW2))
     clear hW2
     go_wp2_with fail
     have HX4:=Lib.hid (HX2.out.under2 #[.bool s,.int .i64 X,.int .u64 T] #[.int .i64 A,.int .i64 B] 118 3)
     have HG4:=Lib.hid (Grown.alloc (Grown.alloc HG2.out #[.bool s,.int .i64 X,.int .u64 T] 118) #[.int .i64 A,.int .i64 B] 3)
     have HP4:=Lib.hid ((part_new W2 s X T 118).under1 #[.int .i64 A,.int .i64 B] 3)
     have HC:=cells2b W2 #[.bool s,.int .i64 X,.int .u64 T] 118 (.int .i64 A) (.int .i64 B) 3
     generalize ((W2.alloc _).alloc _)=W4 at HX4 HG4 HP4 HC ⊢
     obtain ⟨y0,y1⟩:=HC
     refine (oneIs2_any 4 A B _ _ y0 y1).mono ?_
     rintro e w' ⟨he,rfl⟩
     rw [HQu.out] at he
     subst he
     clear y0 y1
     go_wp2_with fail
     have HX5:=Lib.hid (HX4.out.under1 #[.int .i64 A,.int .i64 B] 3)
     have HG5:=Lib.hid (Grown.alloc HG4.out #[.int .i64 A,.int .i64 B] 3)
     have HP5:=Lib.hid (HP4.out.under1 #[.int .i64 A,.int .i64 B] 3)
     have HC:=cells2 W4 (.int .i64 A) (.int .i64 B) 3
     generalize (W4.alloc _)=W5 at HX5 HG5 HP5 HC ⊢
     obtain ⟨y0,y1⟩:=HC
     refine (oneIs2_any 3 A B _ _ y0 y1).mono ?_
     rintro e w' ⟨he,rfl⟩
     rw [HI.out] at he
     subst he
     clear y0 y1
     obtain ⟨xb,x0,x1,x2,x3,x4,z0,z1,z2,z3,z4⟩:=HX5.out
     obtain ⟨pl,p0,p1,p2,r0,r1,r2⟩:=HP5.out
     go_wp2_with (go_at_call 104;refine (inf_any _ _ _).mono ?_;rintro e w' ⟨rfl,rfl⟩)
     (try simp only [Exit.inBlock,Exit.then])
     refine bodyPost_ret ?_ rfl ⟨(excE_is _ _).trans HQ.out.symm,?_⟩
     ·rw [results_tmp_cell rfl]
      go_simp
     ·repeat (first | with_reducible exact HG5.out | with_reducible refine Grown.setCell ?_ (by simp <;> omega) _ | with_reducible refine Grown.alloc ?_ _ _ | with_reducible refine grown_more ?_ _)
    case false=>
     have HQ:=Lib.hid (HM3.out.trans ((if_neg (by simp)).trans (if_neg (by simp))))
     clear HM3
     go_enter Tryz.func175,Tryz.ntmps175
     go_wp2_with (go_at_call 100;refine (class_any _ _ _ (by omega) (by omega)).mono ?_;rintro e w' ⟨he,m,rfl⟩;(first | rw [HA.out] at he | rw [HB.out] at he);subst he)
     refine (oneIs2_any 5 A B _ _ (by go_simp) (by go_simp)).mono ?_
     rintro e w' ⟨he,rfl⟩
     rw [HS.out] at he
     subst he
     go_wp2_with fail
     refine (punknown_any A B _).mono ?_
     rintro e W1 ⟨he,hW1⟩
     rw [HL.out] at he
     subst he
     have HG1:=Lib.hid (show Grown w W1 from grown_trans (by repeat (first | with_reducible exact HG0.out | with_reducible refine Grown.setCell ?_ (by simp <;> omega) _ | with_reducible refine Grown.alloc ?_ _ _ | with_reducible refine grown_more ?_ _)) hW1)
     have HX1:=Lib.hid (show ExcAt w.heap.size W1 from HX0.out.grown (grown_trans (by repeat (first | with_reducible exact Grown.refl _ | with_reducible refine Grown.setCell ?_ (by simp <;> omega) _ | with_reducible refine Grown.alloc ?_ _ _ | with_reducible refine grown_more ?_ _)) hW1))
     clear hW1
     go_wp2_with fail
     refine (pproduct_any f a b _ a0 a1 b0 b1).mono ?_
     rintro e W2 ⟨he,hW2⟩
     rw [HP.out] at he
     subst he
     have HG2:=Lib.hid (show Grown w W2 from grown_trans (by repeat (first | with_reducible exact HG1.out | with_reducible refine Grown.setCell ?_ (by simp <;> omega) _ | with_reducible refine Grown.alloc ?_ _ _ | with_reducible refine grown_more ?_ _)) hW2)
     have HX2:=Lib.hid (show ExcAt w.heap.size W2 from HX1.out.grown (grown_trans (by repeat (first | with_reducible exact Grown.refl _ | with_reducible refine Grown.setCell ?_ (by simp <;> omega) _ | with_reducible refine Grown.alloc ?_ _ _ | with_reducible refine grown_more ?_ _)) hW2))
     clear hW2
     go_wp2_with fail
     have HX4:=Lib.hid (HX2.out.under2 #[.bool s,.int .i64 X,.int .u64 T] #[.int .i64 A,.int .i64 B] 118 3)
     have HG4:=Lib.hid (Grown.alloc (Grown.alloc HG2.out #[.bool s,.int .i64 X,.int .u64 T] 118) #[.int .i64 A,.int .i64 B] 3)
     have HP4:=Lib.hid ((part_new W2 s X T 118).under1 #[.int .i64 A,.int .i64 B] 3)
     have HC:=cells2b W2 #[.bool s,.int .i64 X,.int .u64 T] 118 (.int .i64 A) (.int .i64 B) 3
     generalize ((W2.alloc _).alloc _)=W4 at HX4 HG4 HP4 HC ⊢
     obtain ⟨y0,y1⟩:=HC
     refine (oneIs2_any 4 A B _ _ y0 y1).mono ?_
     rintro e w' ⟨he,rfl⟩
     rw [HQu.out] at he
     subst he
     clear y0 y1
     go_wp2_with fail
     have HX5:=Lib.hid (HX4.out.under1 #[.int .i64 A,.int .i64 B] 3)
     have HG5:=Lib.hid (Grown.alloc HG4.out #[.int .i64 A,.int .i64 B] 3)
     have HP5:=Lib.hid (HP4.out.under1 #[.int .i64 A,.int .i64 B] 3)
     have HC:=cells2 W4 (.int .i64 A) (.int .i64 B) 3
     generalize (W4.alloc _)=W5 at HX5 HG5 HP5 HC ⊢
     obtain ⟨y0,y1⟩:=HC
     refine (oneIs2_any 3 A B _ _ y0 y1).mono ?_
     rintro e w' ⟨he,rfl⟩
     rw [HI.out] at he
     subst he
     clear y0 y1
     obtain ⟨pl,p0,p1,p2,r0,r1,r2⟩:=HP5.out
     go_wp2_with fail
     refine (pack_any _ _ _ _ _ _ _ (by omega) (by omega) (by omega) (by omega)).mono ?_
     rintro e W6 ⟨he,hW⟩
     rw [exc_agg] at he
     subst he
     have HG6:=Lib.hid (show Grown w W6 from grown_trans (by repeat (first | with_reducible exact HG5.out | with_reducible refine Grown.setCell ?_ (by simp <;> omega) _ | with_reducible refine Grown.alloc ?_ _ _ | with_reducible refine grown_more ?_ _)) hW)
     have HX6:=Lib.hid (show ExcAt w.heap.size W6 from HX5.out.grown (grown_trans (by repeat (first | with_reducible exact Grown.refl _ | with_reducible refine Grown.setCell ?_ (by simp <;> omega) _ | with_reducible refine Grown.alloc ?_ _ _ | with_reducible refine grown_more ?_ _)) hW))
     clear hW
     obtain ⟨xb,x0,x1,x2,x3,x4,z0,z1,z2,z3,z4⟩:=HX6.out
     go_wp2
     (try simp only [Exit.inBlock,Exit.then])
     refine bodyPost_ret ?_ rfl ⟨(packE_is _ _ _ _).trans HQ.out.symm,?_⟩
     ·rw [results_tmp_cell rfl]
      go_simp
     ·repeat (first | with_reducible exact HG6.out | with_reducible refine Grown.setCell ?_ (by simp <;> omega) _ | with_reducible refine Grown.alloc ?_ _ _ | with_reducible refine grown_more ?_ _)

set_option maxRecDepth 100000 in
set_option maxHeartbeats 4000000 in
theorem ptog_down (f mode:Int) (n m:Bool) (e1 e2 P Q S:Int) (B:Bool) (w:World)
  (a0:-1000≤e1) (a1:e1≤1000) (b0:-1000≤e2) (b1:e2≤1000) (p0:4611686018427387904≤P) (p1:P≤9223372036854775807) (q0:4611686018427387904≤Q) (q1:Q≤9223372036854775807) (hc:e2<e1) (HQ:Hid (shV Q (e1 - e2)=S)) (HB:Hid (shO Q (e1 - e2)=B)) (s0:0≤S) (s1:S<4611686018427387904):
  Calls Tryz.prog 126 #[.int .i64 f,.int .i64 mode,.agg #[.bool n,.int .i64 e1,.int .u64 P],.agg #[.bool m,.int .i64 e2,.int .u64 Q]] w fun e w'=>e=fuE f mode n m P S e1 B∧Grown w w':=by
 have HE:=Lib.hid (exc_new ((w.alloc (.cells #[.bool n,.int .i64 e1,.int .u64 P] 118)).alloc (.cells #[.bool m,.int .i64 e2,.int .u64 Q] 118)) 75)
 have HG:=Lib.hid (Grown.alloc (Grown.alloc (Grown.alloc (Grown.refl w) #[.bool n,.int .i64 e1,.int .u64 P] 118) #[.bool m,.int .i64 e2,.int .u64 Q] 118) #[.bool false,.bool false,.bool false,.bool false,.bool false] 75)
 rw [show ((w.alloc (.cells #[.bool n,.int .i64 e1,.int .u64 P] 118)).alloc (.cells #[.bool m,.int .i64 e2,.int .u64 Q] 118)).heap.size=w.heap.size+1+1 by simp] at HE
 by_cases hs:n=m
 ·subst hs
  have hnn:(n==n)=true:=by simp
  go_enter Tryz.func126,Tryz.ntmps126
  go_wp2_with (first
   | (go_at_call 148;refine (shift_any _ _ _ (by omega) (by omega) (by omega) (by omega)).mono ?_;rintro e w' ⟨he,mm,rfl⟩;rw [HQ.out,HB.out] at he;subst he)
   | (go_at_call 122;refine (zero_any _ _ _).mono ?_;rintro e w' ⟨rfl,rfl⟩)
   | (go_at_call 97;refine (pack_any _ _ _ _ _ _ _ (by omega) (by omega) (by omega) (by omega)).mono ?_;rintro e W3 ⟨he,hW3⟩;rw [exc_agg] at he;subst he;have HW3:=Lib.hid hW3;clear hW3;have HG3:=Lib.hid (grown_trans HG.out (grown_trans (grown_drewN _ _) HW3.out));obtain ⟨xb,x0,x1,x2,x3,x4,z0,z1,z2,z3,z4⟩:=HE.out.grown (grown_trans (grown_drewN _ _) HW3.out)))
  (try simp only [Exit.inBlock,Exit.then])
  refine bodyPost_ret ?_ rfl ⟨(packE_is _ _ _ _).trans (fu_like f mode n P S e1 B).symm,?_⟩
  ·rw [results_tmp_cell rfl]
   go_simp
  ·repeat (first | with_reducible exact HG3.out | with_reducible refine Grown.setCell ?_ (by simp <;> omega) _ | with_reducible refine Grown.alloc ?_ _ _ | with_reducible refine grown_more ?_ _)
 ·have HS:=Lib.hid hs
  have hnn:(n==m)=false:=by simpa using hs
  clear hs
  cases B
  ·go_enter Tryz.func126,Tryz.ntmps126
   go_wp2_with (first
    | (go_at_call 148;refine (shift_any _ _ _ (by omega) (by omega) (by omega) (by omega)).mono ?_;rintro e w' ⟨he,mm,rfl⟩;rw [HQ.out,HB.out] at he;subst he)
    | (go_at_call 122;refine (zero_any _ _ _).mono ?_;rintro e w' ⟨rfl,rfl⟩)
    | (go_at_call 97;refine (pack_any _ _ _ _ _ _ _ (by omega) (by omega) (by omega) (by omega)).mono ?_;rintro e W3 ⟨he,hW3⟩;rw [exc_agg] at he;subst he;have HW3:=Lib.hid hW3;clear hW3;have HG3:=Lib.hid (grown_trans HG.out (grown_trans (grown_drewN _ _) HW3.out));obtain ⟨xb,x0,x1,x2,x3,x4,z0,z1,z2,z3,z4⟩:=HE.out.grown (grown_trans (grown_drewN _ _) HW3.out)))
   (try simp only [Exit.inBlock,Exit.then])
   refine bodyPost_ret ?_ rfl ⟨(packE_is _ _ _ _).trans (fu_down f mode n m P S e1 HS.out (by omega)).symm,?_⟩
   ·rw [results_tmp_cell rfl]
    go_simp
   ·repeat (first | with_reducible exact HG3.out | with_reducible refine Grown.setCell ?_ (by simp <;> omega) _ | with_reducible refine Grown.alloc ?_ _ _ | with_reducible refine grown_more ?_ _)
  ·go_enter Tryz.func126,Tryz.ntmps126
   go_wp2_with (first
    | (go_at_call 148;refine (shift_any _ _ _ (by omega) (by omega) (by omega) (by omega)).mono ?_;rintro e w' ⟨he,mm,rfl⟩;rw [HQ.out,HB.out] at he;subst he)
    | (go_at_call 122;refine (zero_any _ _ _).mono ?_;rintro e w' ⟨rfl,rfl⟩)
    | (go_at_call 97;refine (pack_any _ _ _ _ _ _ _ (by omega) (by omega) (by omega) (by omega)).mono ?_;rintro e W3 ⟨he,hW3⟩;rw [exc_agg] at he;subst he;have HW3:=Lib.hid hW3;clear hW3;have HG3:=Lib.hid (grown_trans HG.out (grown_trans (grown_drewN _ _) HW3.out));obtain ⟨xb,x0,x1,x2,x3,x4,z0,z1,z2,z3,z4⟩:=HE.out.grown (grown_trans (grown_drewN _ _) HW3.out)))
   (try simp only [Exit.inBlock,Exit.then])
   refine bodyPost_ret ?_ rfl ⟨(packE_is _ _ _ _).trans (fu_more f mode n m P S e1 HS.out).symm,?_⟩
   ·rw [results_tmp_cell rfl]
    go_simp
   ·repeat (first | with_reducible exact HG3.out | with_reducible refine Grown.setCell ?_ (by simp <;> omega) _ | with_reducible refine Grown.alloc ?_ _ _ | with_reducible refine grown_more ?_ _)

set_option maxRecDepth 100000 in
set_option maxHeartbeats 4000000 in
theorem ptog_up (f mode:Int) (n m:Bool) (e1 e2 P Q S:Int) (B:Bool) (w:World)
  (a0:-1000≤e1) (a1:e1≤1000) (b0:-1000≤e2) (b1:e2≤1000) (p0:4611686018427387904≤P) (p1:P≤9223372036854775807) (q0:4611686018427387904≤Q) (q1:Q≤9223372036854775807) (hc:e1<e2) (HQ:Hid (shV P (e2 - e1)=S)) (HB:Hid (shO P (e2 - e1)=B)) (s0:0≤S) (s1:S<4611686018427387904):
  Calls Tryz.prog 126 #[.int .i64 f,.int .i64 mode,.agg #[.bool n,.int .i64 e1,.int .u64 P],.agg #[.bool m,.int .i64 e2,.int .u64 Q]] w fun e w'=>e=fuE f mode m n Q S e2 B∧Grown w w':=by
 have HE:=Lib.hid (exc_new ((w.alloc (.cells #[.bool m,.int .i64 e2,.int .u64 Q] 118)).alloc (.cells #[.bool n,.int .i64 e1,.int .u64 P] 118)) 75)
 have HG:=Lib.hid (Grown.alloc (Grown.alloc (Grown.alloc (Grown.refl w) #[.bool m,.int .i64 e2,.int .u64 Q] 118) #[.bool n,.int .i64 e1,.int .u64 P] 118) #[.bool false,.bool false,.bool false,.bool false,.bool false] 75)
 rw [show ((w.alloc (.cells #[.bool m,.int .i64 e2,.int .u64 Q] 118)).alloc (.cells #[.bool n,.int .i64 e1,.int .u64 P] 118)).heap.size=w.heap.size+1+1 by simp] at HE
 by_cases hs:m=n
 ·subst hs
  have hnn:(m==m)=true:=by simp
  go_enter Tryz.func126,Tryz.ntmps126
  go_wp2_with (first
   | (go_at_call 148;refine (shift_any _ _ _ (by omega) (by omega) (by omega) (by omega)).mono ?_;rintro e w' ⟨he,mm,rfl⟩;rw [HQ.out,HB.out] at he;subst he)
   | (go_at_call 122;refine (zero_any _ _ _).mono ?_;rintro e w' ⟨rfl,rfl⟩)
   | (go_at_call 97;refine (pack_any _ _ _ _ _ _ _ (by omega) (by omega) (by omega) (by omega)).mono ?_;rintro e W3 ⟨he,hW3⟩;rw [exc_agg] at he;subst he;have HW3:=Lib.hid hW3;clear hW3;have HG3:=Lib.hid (grown_trans HG.out (grown_trans (grown_drewN _ _) HW3.out));obtain ⟨xb,x0,x1,x2,x3,x4,z0,z1,z2,z3,z4⟩:=HE.out.grown (grown_trans (grown_drewN _ _) HW3.out)))
  (try simp only [Exit.inBlock,Exit.then])
  refine bodyPost_ret ?_ rfl ⟨(packE_is _ _ _ _).trans (fu_like f mode m Q S e2 B).symm,?_⟩
  ·rw [results_tmp_cell rfl]
   go_simp
  ·repeat (first | with_reducible exact HG3.out | with_reducible refine Grown.setCell ?_ (by simp <;> omega) _ | with_reducible refine Grown.alloc ?_ _ _ | with_reducible refine grown_more ?_ _)
 ·have HS:=Lib.hid hs
  have hnn:(m==n)=false:=by simpa using hs
  clear hs
  cases B
  ·go_enter Tryz.func126,Tryz.ntmps126
   go_wp2_with (first
    | (go_at_call 148;refine (shift_any _ _ _ (by omega) (by omega) (by omega) (by omega)).mono ?_;rintro e w' ⟨he,mm,rfl⟩;rw [HQ.out,HB.out] at he;subst he)
    | (go_at_call 122;refine (zero_any _ _ _).mono ?_;rintro e w' ⟨rfl,rfl⟩)
    | (go_at_call 97;refine (pack_any _ _ _ _ _ _ _ (by omega) (by omega) (by omega) (by omega)).mono ?_;rintro e W3 ⟨he,hW3⟩;rw [exc_agg] at he;subst he;have HW3:=Lib.hid hW3;clear hW3;have HG3:=Lib.hid (grown_trans HG.out (grown_trans (grown_drewN _ _) HW3.out));obtain ⟨xb,x0,x1,x2,x3,x4,z0,z1,z2,z3,z4⟩:=HE.out.grown (grown_trans (grown_drewN _ _) HW3.out)))
   (try simp only [Exit.inBlock,Exit.then])
   refine bodyPost_ret ?_ rfl ⟨(packE_is _ _ _ _).trans (fu_down f mode m n Q S e2 HS.out (by omega)).symm,?_⟩
   ·rw [results_tmp_cell rfl]
    go_simp
   ·repeat (first | with_reducible exact HG3.out | with_reducible refine Grown.setCell ?_ (by simp <;> omega) _ | with_reducible refine Grown.alloc ?_ _ _ | with_reducible refine grown_more ?_ _)
  ·go_enter Tryz.func126,Tryz.ntmps126
   go_wp2_with (first
    | (go_at_call 148;refine (shift_any _ _ _ (by omega) (by omega) (by omega) (by omega)).mono ?_;rintro e w' ⟨he,mm,rfl⟩;rw [HQ.out,HB.out] at he;subst he)
    | (go_at_call 122;refine (zero_any _ _ _).mono ?_;rintro e w' ⟨rfl,rfl⟩)
    | (go_at_call 97;refine (pack_any _ _ _ _ _ _ _ (by omega) (by omega) (by omega) (by omega)).mono ?_;rintro e W3 ⟨he,hW3⟩;rw [exc_agg] at he;subst he;have HW3:=Lib.hid hW3;clear hW3;have HG3:=Lib.hid (grown_trans HG.out (grown_trans (grown_drewN _ _) HW3.out));obtain ⟨xb,x0,x1,x2,x3,x4,z0,z1,z2,z3,z4⟩:=HE.out.grown (grown_trans (grown_drewN _ _) HW3.out)))
   (try simp only [Exit.inBlock,Exit.then])
   refine bodyPost_ret ?_ rfl ⟨(packE_is _ _ _ _).trans (fu_more f mode m n Q S e2 HS.out).symm,?_⟩
   ·rw [results_tmp_cell rfl]
    go_simp
   ·repeat (first | with_reducible exact HG3.out | with_reducible refine Grown.setCell ?_ (by simp <;> omega) _ | with_reducible refine Grown.alloc ?_ _ _ | with_reducible refine grown_more ?_ _)

set_option maxRecDepth 100000 in
set_option maxHeartbeats 4000000 in
theorem ptog_same (f mode:Int) (n m:Bool) (e1 P Q:Int) (w:World)
  (a0:-1000≤e1) (a1:e1≤1000) (p0:4611686018427387904≤P) (p1:P≤9223372036854775807) (q0:4611686018427387904≤Q) (q1:Q≤9223372036854775807) (hc:Q≤P) (HQ:Hid (shV Q 0=Q)) (HB:Hid (shO Q 0=false))  :
  Calls Tryz.prog 126 #[.int .i64 f,.int .i64 mode,.agg #[.bool n,.int .i64 e1,.int .u64 P],.agg #[.bool m,.int .i64 e1,.int .u64 Q]] w fun e w'=>e=fuE f mode n m P Q e1 false∧Grown w w':=by
 have HE:=Lib.hid (exc_new ((w.alloc (.cells #[.bool n,.int .i64 e1,.int .u64 P] 118)).alloc (.cells #[.bool m,.int .i64 e1,.int .u64 Q] 118)) 75)
 have HG:=Lib.hid (Grown.alloc (Grown.alloc (Grown.alloc (Grown.refl w) #[.bool n,.int .i64 e1,.int .u64 P] 118) #[.bool m,.int .i64 e1,.int .u64 Q] 118) #[.bool false,.bool false,.bool false,.bool false,.bool false] 75)
 rw [show ((w.alloc (.cells #[.bool n,.int .i64 e1,.int .u64 P] 118)).alloc (.cells #[.bool m,.int .i64 e1,.int .u64 Q] 118)).heap.size=w.heap.size+1+1 by simp] at HE
 by_cases hs:n=m
 ·subst hs
  have hnn:(n==n)=true:=by simp
  go_enter Tryz.func126,Tryz.ntmps126
  go_wp2_with (first
   | (go_at_call 148;refine (shift_any _ _ _ (by omega) (by omega) (by omega) (by omega)).mono ?_;rintro e w' ⟨he,mm,rfl⟩;rw [HQ.out,HB.out] at he;subst he)
   | (go_at_call 122;refine (zero_any _ _ _).mono ?_;rintro e w' ⟨rfl,rfl⟩)
   | (go_at_call 97;refine (pack_any _ _ _ _ _ _ _ (by omega) (by omega) (by omega) (by omega)).mono ?_;rintro e W3 ⟨he,hW3⟩;rw [exc_agg] at he;subst he;have HW3:=Lib.hid hW3;clear hW3;have HG3:=Lib.hid (grown_trans HG.out (grown_trans (grown_drewN _ _) HW3.out));obtain ⟨xb,x0,x1,x2,x3,x4,z0,z1,z2,z3,z4⟩:=HE.out.grown (grown_trans (grown_drewN _ _) HW3.out)))
  (try simp only [Exit.inBlock,Exit.then])
  refine bodyPost_ret ?_ rfl ⟨(packE_is _ _ _ _).trans (fu_like f mode n P Q e1 false).symm,?_⟩
  ·rw [results_tmp_cell rfl]
   go_simp
  ·repeat (first | with_reducible exact HG3.out | with_reducible refine Grown.setCell ?_ (by simp <;> omega) _ | with_reducible refine Grown.alloc ?_ _ _ | with_reducible refine grown_more ?_ _)
 ·have HS:=Lib.hid hs
  have hnn:(n==m)=false:=by simpa using hs
  clear hs
  by_cases hq:Q=P
  ·subst hq
   go_enter Tryz.func126,Tryz.ntmps126
   go_wp2_with (first
    | (go_at_call 148;refine (shift_any _ _ _ (by omega) (by omega) (by omega) (by omega)).mono ?_;rintro e w' ⟨he,mm,rfl⟩;rw [HQ.out,HB.out] at he;subst he)
    | (go_at_call 122;refine (zero_any _ _ _).mono ?_;rintro e w' ⟨rfl,rfl⟩)
    | (go_at_call 97;refine (pack_any _ _ _ _ _ _ _ (by omega) (by omega) (by omega) (by omega)).mono ?_;rintro e W3 ⟨he,hW3⟩;rw [exc_agg] at he;subst he;have HW3:=Lib.hid hW3;clear hW3;have HG3:=Lib.hid (grown_trans HG.out (grown_trans (grown_drewN _ _) HW3.out));obtain ⟨xb,x0,x1,x2,x3,x4,z0,z1,z2,z3,z4⟩:=HE.out.grown (grown_trans (grown_drewN _ _) HW3.out)))
   (try simp only [Exit.inBlock,Exit.then])
   refine bodyPost_ret ?_ rfl ⟨(excE_is _ _).trans (fu_even f mode n m Q e1 HS.out).symm,?_⟩
   ·rw [results_tmp_cell rfl]
    go_simp
   ·repeat (first | with_reducible exact HG.out | with_reducible refine Grown.setCell ?_ (by simp <;> omega) _ | with_reducible refine Grown.alloc ?_ _ _ | with_reducible refine grown_more ?_ _)
  ·have hlt:Q<P:=by omega
   clear hq hc
   go_enter Tryz.func126,Tryz.ntmps126
   go_wp2_with (first
    | (go_at_call 148;refine (shift_any _ _ _ (by omega) (by omega) (by omega) (by omega)).mono ?_;rintro e w' ⟨he,mm,rfl⟩;rw [HQ.out,HB.out] at he;subst he)
    | (go_at_call 122;refine (zero_any _ _ _).mono ?_;rintro e w' ⟨rfl,rfl⟩)
    | (go_at_call 97;refine (pack_any _ _ _ _ _ _ _ (by omega) (by omega) (by omega) (by omega)).mono ?_;rintro e W3 ⟨he,hW3⟩;rw [exc_agg] at he;subst he;have HW3:=Lib.hid hW3;clear hW3;have HG3:=Lib.hid (grown_trans HG.out (grown_trans (grown_drewN _ _) HW3.out));obtain ⟨xb,x0,x1,x2,x3,x4,z0,z1,z2,z3,z4⟩:=HE.out.grown (grown_trans (grown_drewN _ _) HW3.out)))
   (try simp only [Exit.inBlock,Exit.then])
   refine bodyPost_ret ?_ rfl ⟨(packE_is _ _ _ _).trans (fu_down f mode n m P Q e1 HS.out (by omega)).symm,?_⟩
   ·rw [results_tmp_cell rfl]
    go_simp
   ·repeat (first | with_reducible exact HG3.out | with_reducible refine Grown.setCell ?_ (by simp <;> omega) _ | with_reducible refine Grown.alloc ?_ _ _ | with_reducible refine grown_more ?_ _)

set_option maxRecDepth 100000 in
set_option maxHeartbeats 4000000 in
theorem ptog_less (f mode:Int) (n m:Bool) (e1 P Q:Int) (w:World)
  (a0:-1000≤e1) (a1:e1≤1000) (p0:4611686018427387904≤P) (p1:P≤9223372036854775807) (q0:4611686018427387904≤Q) (q1:Q≤9223372036854775807) (hc:P<Q) (HQ:Hid (shV P 0=P)) (HB:Hid (shO P 0=false))  :
  Calls Tryz.prog 126 #[.int .i64 f,.int .i64 mode,.agg #[.bool n,.int .i64 e1,.int .u64 P],.agg #[.bool m,.int .i64 e1,.int .u64 Q]] w fun e w'=>e=fuE f mode m n Q P e1 false∧Grown w w':=by
 have HE:=Lib.hid (exc_new ((w.alloc (.cells #[.bool m,.int .i64 e1,.int .u64 Q] 118)).alloc (.cells #[.bool n,.int .i64 e1,.int .u64 P] 118)) 75)
 have HG:=Lib.hid (Grown.alloc (Grown.alloc (Grown.alloc (Grown.refl w) #[.bool m,.int .i64 e1,.int .u64 Q] 118) #[.bool n,.int .i64 e1,.int .u64 P] 118) #[.bool false,.bool false,.bool false,.bool false,.bool false] 75)
 rw [show ((w.alloc (.cells #[.bool m,.int .i64 e1,.int .u64 Q] 118)).alloc (.cells #[.bool n,.int .i64 e1,.int .u64 P] 118)).heap.size=w.heap.size+1+1 by simp] at HE
 by_cases hs:m=n
 ·subst hs
  have hnn:(m==m)=true:=by simp
  go_enter Tryz.func126,Tryz.ntmps126
  go_wp2_with (first
   | (go_at_call 148;refine (shift_any _ _ _ (by omega) (by omega) (by omega) (by omega)).mono ?_;rintro e w' ⟨he,mm,rfl⟩;rw [HQ.out,HB.out] at he;subst he)
   | (go_at_call 122;refine (zero_any _ _ _).mono ?_;rintro e w' ⟨rfl,rfl⟩)
   | (go_at_call 97;refine (pack_any _ _ _ _ _ _ _ (by omega) (by omega) (by omega) (by omega)).mono ?_;rintro e W3 ⟨he,hW3⟩;rw [exc_agg] at he;subst he;have HW3:=Lib.hid hW3;clear hW3;have HG3:=Lib.hid (grown_trans HG.out (grown_trans (grown_drewN _ _) HW3.out));obtain ⟨xb,x0,x1,x2,x3,x4,z0,z1,z2,z3,z4⟩:=HE.out.grown (grown_trans (grown_drewN _ _) HW3.out)))
  (try simp only [Exit.inBlock,Exit.then])
  refine bodyPost_ret ?_ rfl ⟨(packE_is _ _ _ _).trans (fu_like f mode m Q P e1 false).symm,?_⟩
  ·rw [results_tmp_cell rfl]
   go_simp
  ·repeat (first | with_reducible exact HG3.out | with_reducible refine Grown.setCell ?_ (by simp <;> omega) _ | with_reducible refine Grown.alloc ?_ _ _ | with_reducible refine grown_more ?_ _)
 ·have HS:=Lib.hid hs
  have hnn:(m==n)=false:=by simpa using hs
  clear hs
  go_enter Tryz.func126,Tryz.ntmps126
  go_wp2_with (first
   | (go_at_call 148;refine (shift_any _ _ _ (by omega) (by omega) (by omega) (by omega)).mono ?_;rintro e w' ⟨he,mm,rfl⟩;rw [HQ.out,HB.out] at he;subst he)
   | (go_at_call 122;refine (zero_any _ _ _).mono ?_;rintro e w' ⟨rfl,rfl⟩)
   | (go_at_call 97;refine (pack_any _ _ _ _ _ _ _ (by omega) (by omega) (by omega) (by omega)).mono ?_;rintro e W3 ⟨he,hW3⟩;rw [exc_agg] at he;subst he;have HW3:=Lib.hid hW3;clear hW3;have HG3:=Lib.hid (grown_trans HG.out (grown_trans (grown_drewN _ _) HW3.out));obtain ⟨xb,x0,x1,x2,x3,x4,z0,z1,z2,z3,z4⟩:=HE.out.grown (grown_trans (grown_drewN _ _) HW3.out)))
  (try simp only [Exit.inBlock,Exit.then])
  refine bodyPost_ret ?_ rfl ⟨(packE_is _ _ _ _).trans (fu_down f mode m n Q P e1 HS.out (by omega)).symm,?_⟩
  ·rw [results_tmp_cell rfl]
   go_simp
  ·repeat (first | with_reducible exact HG3.out | with_reducible refine Grown.setCell ?_ (by simp <;> omega) _ | with_reducible refine Grown.alloc ?_ _ _ | with_reducible refine grown_more ?_ _)

theorem sh_q (Q d:Nat):shV (Q:Int) (d:Int)=((Q / 2^d:Nat):Int)∧shO (Q:Int) (d:Int)=decide (Q%2^d≠0):=by
 refine ⟨?_,?_⟩
 ·unfold shV;rw [if_neg (by omega),Int.toNat_natCast,pow2_cast,←Int.natCast_ediv]
 ·unfold shO;rw [if_neg (by omega),Int.toNat_natCast,pow2_cast,←Int.natCast_emod]
  congr 1
  rw [eq_iff_iff];omega

theorem tog_down (f mode:Int) (n m:Bool) (e1 e2:Int) (P Q:Nat) (w:World) (a0:-1000≤e1) (a1:e1≤1000) (b0:-1000≤e2) (b1:e2≤1000)
  (p0:4611686018427387904≤P) (p1:P≤9223372036854775807) (q0:4611686018427387904≤Q) (q1:Q≤9223372036854775807) (q2:Q%2=0) (hc:e2<e1∨(e1=e2∧Q≤P)):
  Calls Tryz.prog 126 #[.int .i64 f,.int .i64 mode,.agg #[.bool n,.int .i64 e1,.int .u64 (P:Int)],.agg #[.bool m,.int .i64 e2,.int .u64 (Q:Int)]] w fun e w'=>e=finU f mode n (P*2^(e1+10100).toNat) m (Q*2^(e2+10100).toNat)∧Grown w w':=by
 obtain ⟨d,hd⟩:∃ d:Nat,e1 - e2=d:=⟨(e1 - e2).toNat,by omega⟩
 obtain ⟨s1,s2⟩:=sh_q Q d
 have h:=tog_is f mode n m P Q d (e2+10100).toNat e1 p0 q1 q2 (by rw [clamp_in _ (by omega) (by omega)];omega) (by omega) (fun g=>by omega)
 rw [show d+(e2+10100).toNat=(e1+10100).toNat by omega] at h
 rw [←h]
 rcases hc with hc | ⟨rfl,hc⟩
 ·have d1:1≤d:=by omega
  have hq:Q / 2^d≤Q / 2:=Nat.div_le_div_left (Nat.pow_le_pow_right (n:=2) (by decide) d1) (by decide)
  exact ptog_down f mode n m e1 e2 P Q _ _ w a0 a1 b0 b1 (by omega) (by omega) (by omega) (by omega) hc (by rw [hd];exact s1) (by rw [hd];exact s2) (Int.natCast_nonneg _) (by omega)
 ·have d0:d=0:=by omega
  subst d0
  have g1:((Q / 2^0:Nat):Int)=(Q:Int):=by simp
  have g2:decide (Q%2^0≠0)=false:=by simp [Nat.mod_one]
  rw [g1] at s1 ⊢
  rw [g2] at s2 ⊢
  exact ptog_same f mode n m e1 P Q w a0 a1 (by omega) (by omega) (by omega) (by omega) (by omega) s1 s2

theorem tog_up (f mode:Int) (n m:Bool) (e1 e2:Int) (P Q:Nat) (w:World) (a0:-1000≤e1) (a1:e1≤1000) (b0:-1000≤e2) (b1:e2≤1000)
  (p0:4611686018427387904≤P) (p1:P≤9223372036854775807) (q0:4611686018427387904≤Q) (q1:Q≤9223372036854775807) (p2:P%2=0) (hc:e1<e2∨(e1=e2∧P<Q)):
  Calls Tryz.prog 126 #[.int .i64 f,.int .i64 mode,.agg #[.bool n,.int .i64 e1,.int .u64 (P:Int)],.agg #[.bool m,.int .i64 e2,.int .u64 (Q:Int)]] w fun e w'=>e=finU f mode m (Q*2^(e2+10100).toNat) n (P*2^(e1+10100).toNat)∧Grown w w':=by
 obtain ⟨d,hd⟩:∃ d:Nat,e2 - e1=d:=⟨(e2 - e1).toNat,by omega⟩
 obtain ⟨s1,s2⟩:=sh_q P d
 have h:=tog_is f mode m n Q P d (e1+10100).toNat e2 q0 p1 p2 (by rw [clamp_in _ (by omega) (by omega)];omega) (by omega) (fun g=>by omega)
 rw [show d+(e1+10100).toNat=(e2+10100).toNat by omega] at h
 rw [←h]
 rcases hc with hc | ⟨rfl,hc⟩
 ·have d1:1≤d:=by omega
  have hq:P / 2^d≤P / 2:=Nat.div_le_div_left (Nat.pow_le_pow_right (n:=2) (by decide) d1) (by decide)
  exact ptog_up f mode n m e1 e2 P Q _ _ w a0 a1 b0 b1 (by omega) (by omega) (by omega) (by omega) hc (by rw [hd];exact s1) (by rw [hd];exact s2) (Int.natCast_nonneg _) (by omega)
 ·have d0:d=0:=by omega
  subst d0
  have g1:((P / 2^0:Nat):Int)=(P:Int):=by simp
  have g2:decide (P%2^0≠0)=false:=by simp [Nat.mod_one]
  rw [g1] at s1 ⊢
  rw [g2] at s2 ⊢
  exact ptog_less f mode n m e1 P Q w a0 a1 (by omega) (by omega) (by omega) (by omega) (by omega) s1 s2

theorem ptog_any (f mode:Int) (n m:Bool) (x y M K:Int) (w:World) (x0:-298≤x) (x1:x≤400) (y0:-298≤y) (y1:y≤400) (m0:0<M) (m1:M<281474976710656) (k0:0<K) (k1:K<281474976710656):
  Calls Tryz.prog 126 #[.int .i64 f,.int .i64 mode,.agg #[.bool n,.int .i64 (x - (63 - lenI M)),.int .u64 (M*2^(63 - lenI M).toNat)],.agg #[.bool m,.int .i64 (y - (63 - lenI K)),.int .u64 (K*2^(63 - lenI K).toNat)]] w fun e w'=>e=finE f mode n (amtE x M) m (amtE y K)∧Grown w w':=by
 obtain ⟨l0,l1,l2,l3,l4⟩:=raise_fit M m0 m1
 obtain ⟨j0,j1,j2,j3,j4⟩:=raise_fit K k0 k1
 have hV:=raise_amt x M m0 m1 x0 x1
 have hW:=raise_amt y K k0 k1 y0 y1
 generalize lenI M=L at*
 generalize lenI K=J at*
 generalize M*2^(63 - L).toNat=P at*
 generalize K*2^(63 - J).toNat=Q at*
 obtain ⟨P',rfl⟩:=Int.eq_ofNat_of_zero_le (show 0≤P by omega)
 obtain ⟨Q',rfl⟩:=Int.eq_ofNat_of_zero_le (show 0≤Q by omega)
 rw [Int.toNat_natCast] at hV hW
 by_cases c:(y - (63 - J)<x - (63 - L))∨(x - (63 - L)=y - (63 - J)∧Q'≤P')
 ·rw [fin_up,←hV,←hW]
  exact tog_down f mode n m _ _ P' Q' w (by omega) (by omega) (by omega) (by omega) (by omega) (by omega) (by omega) (by omega) (by omega) c
 ·rw [←fin_swap,fin_up,←hV,←hW]
  exact tog_up f mode n m _ _ P' Q' w (by omega) (by omega) (by omega) (by omega) (by omega) (by omega) (by omega) (by omega) (by omega) (by omega)

theorem unM_pos (f a:Int) (h:clsI f a=1∨clsI f a=2):0<unM f a:=by
 have hF:=fF_bd f a
 have hh:=hid_pos f
 have ht:=topx_pos f
 have c:=cls_cases f a
 unfold unM
 (repeat' split) <;> omega

theorem fma_pos (f a b c:Int) (hS:(clsI f a==5 || clsI f b==5 || clsI f c==5)=false) (hQ:(clsI f a==4 || clsI f b==4 || clsI f c==4)=false) (hI:(clsI f a==3 || clsI f b==3)=false) (hZ:(clsI f a==0 || clsI f b==0)=false):
  0<unM f a*unM f b∧((clsI f c==3)=false→(clsI f c==0)=false→0<unM f c):=by
 obtain ⟨a0,a1⟩:=cls_bd f a
 obtain ⟨b0,b1⟩:=cls_bd f b
 obtain ⟨c0,c1⟩:=cls_bd f c
 simp at hS hQ hI hZ
 refine ⟨Int.mul_pos (unM_pos f a (by omega)) (unM_pos f b (by omega)),fun h3 h0=>?_⟩
 simp at h3 h0
 exact unM_pos f c (by omega)

set_option maxRecDepth 100000 in
set_option maxHeartbeats 8000000 in
theorem pfma_any (f mode a b c:Int) (w:World) (a0:0≤a) (a1:a≤4294967295) (b0:0≤b) (b1:b≤4294967295) (c0:0≤c) (c1:c≤4294967295):
  Calls Tryz.prog 83 #[.int .i64 f,.int .i64 mode,.int .u32 a,.int .u32 b,.int .u32 c] w fun e w'=>e=fmaE f mode a b c∧Grown w w':=by
 have HX0:=Lib.hid (exc_new w 75)
 have HG0:=Lib.hid (Grown.alloc (Grown.refl w) #[.bool false,.bool false,.bool false,.bool false,.bool false] 75)
 obtain ⟨A,hA⟩:∃ A,clsI f a=A:=⟨_,rfl⟩
 obtain ⟨B,hB⟩:∃ B,clsI f b=B:=⟨_,rfl⟩
 obtain ⟨C,hC⟩:∃ C,clsI f c=C:=⟨_,rfl⟩
 obtain ⟨S,hS⟩:∃ S,(A==5 || B==5 || C==5)=S:=⟨_,rfl⟩
 obtain ⟨Q,hQ⟩:∃ Q,(A==4 || B==4 || C==4)=Q:=⟨_,rfl⟩
 obtain ⟨I,hI⟩:∃ I,(A==3 || B==3)=I:=⟨_,rfl⟩
 obtain ⟨Z,hZ⟩:∃ Z,(A==0 || B==0)=Z:=⟨_,rfl⟩
 obtain ⟨L,hL⟩:∃ L,((A==0 || B==0)&&(A==3 || B==3))=L:=⟨_,rfl⟩
 have HM:=Lib.hid (fma_prog f mode a b c S L Q I Z (by rw [hA,hB,hC];exact hS) (by rw [hA,hB];exact hL) (by rw [hA,hB,hC];exact hQ) (by rw [hA,hB];exact hI) (by rw [hA,hB];exact hZ))
 obtain ⟨e0,e1⟩:=unE_bd f a
 have e2:=unE_top f a
 obtain ⟨d0,d1⟩:=unE_bd f b
 have d2:=unE_top f b
 obtain ⟨t0,t1,t2⟩:=mul_bd f a b
 obtain ⟨s,hs⟩:∃ s,sgP f a b=s:=⟨_,rfl⟩
 obtain ⟨X,hX⟩:∃ X,unE f a+unE f b=X:=⟨_,rfl⟩
 obtain ⟨T,hT⟩:∃ T,unM f a*unM f b=T:=⟨_,rfl⟩
 have HP:=Lib.hid (show Ending.returned (.agg #[.bool (sgP f a b),.int .i64 (unE f a+unE f b),.int .u64 (unM f a*unM f b)])=.returned (.agg #[.bool s,.int .i64 X,.int .u64 T]) by rw [hs,hX,hT])
 have ham:amtP f a b=amtE X T:=by unfold amtP;rw [hX,hT]
 have HT0:=Lib.hid (fun (g1:S=false) (g2:Q=false) (g3:I=false) (g4:Z=false)=>(fma_pos f a b c (by rw [hA,hB,hC,hS];exact g1) (by rw [hA,hB,hC,hQ];exact g2) (by rw [hA,hB,hI];exact g3) (by rw [hA,hB,hZ];exact g4)))
 rw [hT,hC] at HT0
 have HTh:=Lib.hid (fun (h:C=0) (hp:0<T)=>fin_third f mode a b c (by rw [hC];exact h) (by
  have h2:amtP f a b≠0:=by rw [Ne,amtP_zero,←Int.mul_eq_zero,hT];omega
  omega))
 rw [ham,hs,hX,hT] at HTh
 rw [hT] at t0 t1
 have X0:-298≤X:=by omega
 have X1:X≤400:=by omega
 have HM3:=Lib.hid (show fmaE f mode a b c=if (S || L || Q)=true then excE (nanI f) (S || L) else if I=true then addE f mode (infI f s) c else if (Z || C==3)=true then addE f mode (zerI f s) c
   else finE f mode s (amtE X T) (fS f c) (amtE (unE f c) (unM f c)) by rw [HM.out,hs,hC,ham])
 have HA:=Lib.hid hA
 have HB:=Lib.hid hB
 have HC':=Lib.hid hC
 have HC:=HC'
 clear HC'
 have HS:=Lib.hid hS
 have HQu:=Lib.hid hQ
 have HI:=Lib.hid hI
 have HZ:=Lib.hid hZ
 have HL:=Lib.hid hL
 clear hA hB hC hS hQ hI hZ hL hs hX hT ham t2 e0 e1 e2 d0 d1 d2 HM
 cases S
 case true=>
  exact dx_36
 case false=>
  cases L
  case true=>
   exact dx_36
  case false=>
   cases Q
   case true=>
    have HQ:=Lib.hid (HM3.out.trans (if_pos (by simp)))
    clear HM3
    go_enter Tryz.func83,Tryz.ntmps83
    go_wp2_with (go_at_call 100;refine (class_any _ _ _ (by omega) (by omega)).mono ?_;rintro e w' ⟨he,m,rfl⟩;(first | rw [HA.out] at he | rw [HB.out] at he | rw [HC.out] at he);subst he)
    refine (oneIs3_any 5 A B C _ _ (by go_simp) (by go_simp) (by go_simp)).mono ?_
    rintro e w' ⟨he,rfl⟩
    rw [HS.out] at he
    subst he
    go_wp2_with fail
    refine (punknown_any A B _).mono ?_
    rintro e W1 ⟨he,hW1⟩
    rw [HL.out] at he
    subst he
    have HG1:=Lib.hid (show Grown w W1 from grown_trans (by repeat (first | with_reducible exact HG0.out | with_reducible refine Grown.setCell ?_ (by simp <;> omega) _ | with_reducible refine Grown.alloc ?_ _ _ | with_reducible refine grown_more ?_ _)) hW1)
    have HX1:=Lib.hid (show ExcAt w.heap.size W1 from HX0.out.grown (grown_trans (by repeat (first | with_reducible exact Grown.refl _ | with_reducible refine Grown.setCell ?_ (by simp <;> omega) _ | with_reducible refine Grown.alloc ?_ _ _ | with_reducible refine grown_more ?_ _)) hW1))
    clear hW1
    go_wp2_with fail
    refine (pproduct_any f a b _ a0 a1 b0 b1).mono ?_
    rintro e W2 ⟨he,hW2⟩
    rw [HP.out] at he
    subst he
    have HG2:=Lib.hid (show Grown w W2 from grown_trans (by repeat (first | with_reducible exact HG1.out | with_reducible refine Grown.setCell ?_ (by simp <;> omega) _ | with_reducible refine Grown.alloc ?_ _ _ | with_reducible refine grown_more ?_ _)) hW2)
    have HX2:=Lib.hid (show ExcAt w.heap.size W2 from HX1.out.grown (grown_trans (by repeat (first | with_reducible exact Grown.refl _ | with_reducible refine Grown.setCell ?_ (by simp <;> omega) _ | with_reducible refine Grown.alloc ?_ _ _ | with_reducible refine grown_more ?_ _)) hW2))
    clear hW2
    go_wp2_with fail
    have HX4:=Lib.hid (HX2.out.under2 #[.bool s,.int .i64 X,.int .u64 T] #[.int .i64 A,.int .i64 B,.int .i64 C] 118 3)
    have HG4:=Lib.hid (Grown.alloc (Grown.alloc HG2.out #[.bool s,.int .i64 X,.int .u64 T] 118) #[.int .i64 A,.int .i64 B,.int .i64 C] 3)
    have HP4:=Lib.hid ((part_new W2 s X T 118).under1 #[.int .i64 A,.int .i64 B,.int .i64 C] 3)
    have HD:=cells3b W2 #[.bool s,.int .i64 X,.int .u64 T] 118 (.int .i64 A) (.int .i64 B) (.int .i64 C) 3
    generalize ((W2.alloc _).alloc _)=W4 at HX4 HG4 HP4 HD ⊢
    obtain ⟨y0,y1,y2⟩:=HD
    refine (oneIs3_any 4 A B C _ _ y0 y1 y2).mono ?_
    rintro e w' ⟨he,rfl⟩
    rw [HQu.out] at he
    subst he
    clear y0 y1 y2
    exact dx_35
   case false=>
    cases I
    case true=>
     have HQ:=Lib.hid (HM3.out.trans ((if_neg (by simp)).trans (if_pos rfl)))
     clear HM3
     go_enter Tryz.func83,Tryz.ntmps83
     go_wp2_with (go_at_call 100;refine (class_any _ _ _ (by omega) (by omega)).mono ?_;rintro e w' ⟨he,m,rfl⟩;(first | rw [HA.out] at he | rw [HB.out] at he | rw [HC.out] at he);subst he)
     refine (oneIs3_any 5 A B C _ _ (by go_simp) (by go_simp) (by go_simp)).mono ?_
     rintro e w' ⟨he,rfl⟩
     rw [HS.out] at he
     subst he
     go_wp2_with fail
     refine (punknown_any A B _).mono ?_
     rintro e W1 ⟨he,hW1⟩
     rw [HL.out] at he
     subst he
     have HG1:=Lib.hid (show Grown w W1 from grown_trans (by repeat (first | with_reducible exact HG0.out | with_reducible refine Grown.setCell ?_ (by simp <;> omega) _ | with_reducible refine Grown.alloc ?_ _ _ | with_reducible refine grown_more ?_ _)) hW1)
     have HX1:=Lib.hid (show ExcAt w.heap.size W1 from HX0.out.grown (grown_trans (by repeat (first | with_reducible exact Grown.refl _ | with_reducible refine Grown.setCell ?_ (by simp <;> omega) _ | with_reducible refine Grown.alloc ?_ _ _ | with_reducible refine grown_more ?_ _)) hW1))
     clear hW1
     go_wp2_with fail
     refine (pproduct_any f a b _ a0 a1 b0 b1).mono ?_
     rintro e W2 ⟨he,hW2⟩
     rw [HP.out] at he
     subst he
     have HG2:=Lib.hid (show Grown w W2 from grown_trans (by repeat (first | with_reducible exact HG1.out | with_reducible refine Grown.setCell ?_ (by simp <;> omega) _ | with_reducible refine Grown.alloc ?_ _ _ | with_reducible refine grown_more ?_ _)) hW2)
     have HX2:=Lib.hid (show ExcAt w.heap.size W2 from HX1.out.grown (grown_trans (by repeat (first | with_reducible exact Grown.refl _ | with_reducible refine Grown.setCell ?_ (by simp <;> omega) _ | with_reducible refine Grown.alloc ?_ _ _ | with_reducible refine grown_more ?_ _)) hW2))
     clear hW2
     go_wp2_with fail
     have HX4:=Lib.hid (HX2.out.under2 #[.bool s,.int .i64 X,.int .u64 T] #[.int .i64 A,.int .i64 B,.int .i64 C] 118 3)
     have HG4:=Lib.hid (Grown.alloc (Grown.alloc HG2.out #[.bool s,.int .i64 X,.int .u64 T] 118) #[.int .i64 A,.int .i64 B,.int .i64 C] 3)
     have HP4:=Lib.hid ((part_new W2 s X T 118).under1 #[.int .i64 A,.int .i64 B,.int .i64 C] 3)
     have HD:=cells3b W2 #[.bool s,.int .i64 X,.int .u64 T] 118 (.int .i64 A) (.int .i64 B) (.int .i64 C) 3
     generalize ((W2.alloc _).alloc _)=W4 at HX4 HG4 HP4 HD ⊢
     obtain ⟨y0,y1,y2⟩:=HD
     refine (oneIs3_any 4 A B C _ _ y0 y1 y2).mono ?_
     rintro e w' ⟨he,rfl⟩
     rw [HQu.out] at he
     subst he
     clear y0 y1 y2
     go_wp2_with fail
     have HX5:=Lib.hid (HX4.out.under1 #[.int .i64 A,.int .i64 B] 3)
     have HG5:=Lib.hid (Grown.alloc HG4.out #[.int .i64 A,.int .i64 B] 3)
     have HP5:=Lib.hid (HP4.out.under1 #[.int .i64 A,.int .i64 B] 3)
     have HD:=cells2 W4 (.int .i64 A) (.int .i64 B) 3
     generalize (W4.alloc _)=W5 at HX5 HG5 HP5 HD ⊢
     obtain ⟨y0,y1⟩:=HD
     refine (oneIs2_any 3 A B _ _ y0 y1).mono ?_
     rintro e w' ⟨he,rfl⟩
     rw [HI.out] at he
     subst he
     clear y0 y1
     obtain ⟨v,g1,g2,g3,g4,g5,hR⟩:=add_shape f mode (infI f s) c
     have HR:=Lib.hid hR
     clear hR
     obtain ⟨i0,i1⟩:0≤infI f s∧infI f s≤4294967295:=(inf_parts f s).2.2
     obtain ⟨pl,p0,p1,p2,r0,r1,r2⟩:=HP5.out
     go_wp2_with (go_at_call 104;refine (inf_any _ _ _).mono ?_;rintro e w' ⟨rfl,rfl⟩)
     refine (sadd_any f mode (infI f s) c _ i0 i1 c0 c1).mono ?_
     rintro e W6 ⟨he,hW⟩
     rw [HR.out] at he
     subst he
     have HG6:=Lib.hid (show Grown w W6 from grown_trans (by repeat (first | with_reducible exact HG5.out | with_reducible refine Grown.setCell ?_ (by simp <;> omega) _ | with_reducible refine Grown.alloc ?_ _ _ | with_reducible refine grown_more ?_ _)) hW)
     have HX6:=Lib.hid (show ExcAt w.heap.size W6 from HX5.out.grown (grown_trans (by repeat (first | with_reducible exact Grown.refl _ | with_reducible refine Grown.setCell ?_ (by simp <;> omega) _ | with_reducible refine Grown.alloc ?_ _ _ | with_reducible refine grown_more ?_ _)) hW))
     clear hW
     obtain ⟨xb,x0,x1,x2,x3,x4,z0,z1,z2,z3,z4⟩:=HX6.out
     go_wp2
     (try simp only [Exit.inBlock,Exit.then])
     refine bodyPost_ret ?_ rfl ⟨HR.out.symm.trans HQ.out.symm,?_⟩
     ·rw [results_tmp_cell rfl]
      go_simp
     ·repeat (first | with_reducible exact HG6.out | with_reducible refine Grown.setCell ?_ (by simp <;> omega) _ | with_reducible refine Grown.alloc ?_ _ _ | with_reducible refine grown_more ?_ _)
    case false=>
     cases Z
     case true=>
      have HQ:=Lib.hid (HM3.out.trans ((if_neg (by simp)).trans ((if_neg (by simp)).trans (if_pos (by simp)))))
      exact dx_13
     case false=>
      have HT1:=HT0.out rfl rfl rfl rfl
      clear HT0
      obtain ⟨tp,cp⟩:=HT1
      have CP:=Lib.hid cp
      clear cp
      by_cases k3:C=3
      ·have k3b:(C==3)=true:=by simpa using k3
       clear k3
       have HQ:=Lib.hid (HM3.out.trans ((if_neg (by simp)).trans ((if_neg (by simp)).trans (if_pos (by rw [k3b];rfl)))))
       exact dx_13
      ·have k3b:(C==3)=false:=by simpa using k3
       clear k3
       by_cases k0:C=0
       ·have k0b:(C==0)=true:=by simpa using k0
        have K0:=Lib.hid k0
        clear k0
        have HQ:=Lib.hid (HM3.out.trans ((if_neg (by simp)).trans ((if_neg (by simp)).trans ((if_neg (by simpa using k3b)).trans (HTh.out K0.out tp)))))
        clear HM3
        go_enter Tryz.func83,Tryz.ntmps83
        go_wp2_with (go_at_call 100;refine (class_any _ _ _ (by omega) (by omega)).mono ?_;rintro e w' ⟨he,m,rfl⟩;(first | rw [HA.out] at he | rw [HB.out] at he | rw [HC.out] at he);subst he)
        refine (oneIs3_any 5 A B C _ _ (by go_simp) (by go_simp) (by go_simp)).mono ?_
        rintro e w' ⟨he,rfl⟩
        rw [HS.out] at he
        subst he
        go_wp2_with fail
        refine (punknown_any A B _).mono ?_
        rintro e W1 ⟨he,hW1⟩
        rw [HL.out] at he
        subst he
        have HG1:=Lib.hid (show Grown w W1 from grown_trans (by repeat (first | with_reducible exact HG0.out | with_reducible refine Grown.setCell ?_ (by simp <;> omega) _ | with_reducible refine Grown.alloc ?_ _ _ | with_reducible refine grown_more ?_ _)) hW1)
        have HX1:=Lib.hid (show ExcAt w.heap.size W1 from HX0.out.grown (grown_trans (by repeat (first | with_reducible exact Grown.refl _ | with_reducible refine Grown.setCell ?_ (by simp <;> omega) _ | with_reducible refine Grown.alloc ?_ _ _ | with_reducible refine grown_more ?_ _)) hW1))
        clear hW1
        go_wp2_with fail
        refine (pproduct_any f a b _ a0 a1 b0 b1).mono ?_
        rintro e W2 ⟨he,hW2⟩
        rw [HP.out] at he
        subst he
        have HG2:=Lib.hid (show Grown w W2 from grown_trans (by repeat (first | with_reducible exact HG1.out | with_reducible refine Grown.setCell ?_ (by simp <;> omega) _ | with_reducible refine Grown.alloc ?_ _ _ | with_reducible refine grown_more ?_ _)) hW2)
        have HX2:=Lib.hid (show ExcAt w.heap.size W2 from HX1.out.grown (grown_trans (by repeat (first | with_reducible exact Grown.refl _ | with_reducible refine Grown.setCell ?_ (by simp <;> omega) _ | with_reducible refine Grown.alloc ?_ _ _ | with_reducible refine grown_more ?_ _)) hW2))
        clear hW2
        go_wp2_with fail
        have HX4:=Lib.hid (HX2.out.under2 #[.bool s,.int .i64 X,.int .u64 T] #[.int .i64 A,.int .i64 B,.int .i64 C] 118 3)
        have HG4:=Lib.hid (Grown.alloc (Grown.alloc HG2.out #[.bool s,.int .i64 X,.int .u64 T] 118) #[.int .i64 A,.int .i64 B,.int .i64 C] 3)
        have HP4:=Lib.hid ((part_new W2 s X T 118).under1 #[.int .i64 A,.int .i64 B,.int .i64 C] 3)
        have HD:=cells3b W2 #[.bool s,.int .i64 X,.int .u64 T] 118 (.int .i64 A) (.int .i64 B) (.int .i64 C) 3
        generalize ((W2.alloc _).alloc _)=W4 at HX4 HG4 HP4 HD ⊢
        obtain ⟨y0,y1,y2⟩:=HD
        refine (oneIs3_any 4 A B C _ _ y0 y1 y2).mono ?_
        rintro e w' ⟨he,rfl⟩
        rw [HQu.out] at he
        subst he
        clear y0 y1 y2
        go_wp2_with fail
        have HX5:=Lib.hid (HX4.out.under1 #[.int .i64 A,.int .i64 B] 3)
        have HG5:=Lib.hid (Grown.alloc HG4.out #[.int .i64 A,.int .i64 B] 3)
        have HP5:=Lib.hid (HP4.out.under1 #[.int .i64 A,.int .i64 B] 3)
        have HD:=cells2 W4 (.int .i64 A) (.int .i64 B) 3
        generalize (W4.alloc _)=W5 at HX5 HG5 HP5 HD ⊢
        obtain ⟨y0,y1⟩:=HD
        refine (oneIs2_any 3 A B _ _ y0 y1).mono ?_
        rintro e w' ⟨he,rfl⟩
        rw [HI.out] at he
        subst he
        clear y0 y1
        go_wp2_with fail
        have HX6:=Lib.hid (HX5.out.under1 #[.int .i64 A,.int .i64 B] 3)
        have HG6:=Lib.hid (Grown.alloc HG5.out #[.int .i64 A,.int .i64 B] 3)
        have HP6:=Lib.hid (HP5.out.under1 #[.int .i64 A,.int .i64 B] 3)
        have HD:=cells2 W5 (.int .i64 A) (.int .i64 B) 3
        generalize (W5.alloc _)=W6 at HX6 HG6 HP6 HD ⊢
        obtain ⟨y0,y1⟩:=HD
        refine (oneIs2_any 0 A B _ _ y0 y1).mono ?_
        rintro e w' ⟨he,rfl⟩
        rw [HZ.out] at he
        subst he
        clear y0 y1
        obtain ⟨pl,p0,p1,p2,r0,r1,r2⟩:=HP6.out
        go_wp2_with fail
        refine (pack_any _ _ _ _ _ _ _ (by omega) (by omega) (by omega) (by omega)).mono ?_
        rintro e W7 ⟨he,hW⟩
        rw [exc_agg] at he
        subst he
        have HG7:=Lib.hid (show Grown w W7 from grown_trans (by repeat (first | with_reducible exact HG6.out | with_reducible refine Grown.setCell ?_ (by simp <;> omega) _ | with_reducible refine Grown.alloc ?_ _ _ | with_reducible refine grown_more ?_ _)) hW)
        have HX7:=Lib.hid (show ExcAt w.heap.size W7 from HX6.out.grown (grown_trans (by repeat (first | with_reducible exact Grown.refl _ | with_reducible refine Grown.setCell ?_ (by simp <;> omega) _ | with_reducible refine Grown.alloc ?_ _ _ | with_reducible refine grown_more ?_ _)) hW))
        clear hW
        obtain ⟨xb,x0,x1,x2,x3,x4,z0,z1,z2,z3,z4⟩:=HX7.out
        go_wp2
        (try simp only [Exit.inBlock,Exit.then])
        refine bodyPost_ret ?_ rfl ⟨(packE_is _ _ _ _).trans HQ.out.symm,?_⟩
        ·rw [results_tmp_cell rfl]
         go_simp
        ·repeat (first | with_reducible exact HG7.out | with_reducible refine Grown.setCell ?_ (by simp <;> omega) _ | with_reducible refine Grown.alloc ?_ _ _ | with_reducible refine grown_more ?_ _)
       ·have k0b:(C==0)=false:=by simpa using k0
        clear k0
        have hcp:=CP.out k3b k0b
        have HQ:=Lib.hid (HM3.out.trans ((if_neg (by simp)).trans ((if_neg (by simp)).trans (if_neg (by simpa using k3b)))))
        clear HM3
        go_enter Tryz.func83,Tryz.ntmps83
        go_wp2_with (go_at_call 100;refine (class_any _ _ _ (by omega) (by omega)).mono ?_;rintro e w' ⟨he,m,rfl⟩;(first | rw [HA.out] at he | rw [HB.out] at he | rw [HC.out] at he);subst he)
        refine (oneIs3_any 5 A B C _ _ (by go_simp) (by go_simp) (by go_simp)).mono ?_
        rintro e w' ⟨he,rfl⟩
        rw [HS.out] at he
        subst he
        go_wp2_with fail
        refine (punknown_any A B _).mono ?_
        rintro e W1 ⟨he,hW1⟩
        rw [HL.out] at he
        subst he
        have HG1:=Lib.hid (show Grown w W1 from grown_trans (by repeat (first | with_reducible exact HG0.out | with_reducible refine Grown.setCell ?_ (by simp <;> omega) _ | with_reducible refine Grown.alloc ?_ _ _ | with_reducible refine grown_more ?_ _)) hW1)
        have HX1:=Lib.hid (show ExcAt w.heap.size W1 from HX0.out.grown (grown_trans (by repeat (first | with_reducible exact Grown.refl _ | with_reducible refine Grown.setCell ?_ (by simp <;> omega) _ | with_reducible refine Grown.alloc ?_ _ _ | with_reducible refine grown_more ?_ _)) hW1))
        clear hW1
        go_wp2_with fail
        refine (pproduct_any f a b _ a0 a1 b0 b1).mono ?_
        rintro e W2 ⟨he,hW2⟩
        rw [HP.out] at he
        subst he
        have HG2:=Lib.hid (show Grown w W2 from grown_trans (by repeat (first | with_reducible exact HG1.out | with_reducible refine Grown.setCell ?_ (by simp <;> omega) _ | with_reducible refine Grown.alloc ?_ _ _ | with_reducible refine grown_more ?_ _)) hW2)
        have HX2:=Lib.hid (show ExcAt w.heap.size W2 from HX1.out.grown (grown_trans (by repeat (first | with_reducible exact Grown.refl _ | with_reducible refine Grown.setCell ?_ (by simp <;> omega) _ | with_reducible refine Grown.alloc ?_ _ _ | with_reducible refine grown_more ?_ _)) hW2))
        clear hW2
        go_wp2_with fail
        have HX4:=Lib.hid (HX2.out.under2 #[.bool s,.int .i64 X,.int .u64 T] #[.int .i64 A,.int .i64 B,.int .i64 C] 118 3)
        have HG4:=Lib.hid (Grown.alloc (Grown.alloc HG2.out #[.bool s,.int .i64 X,.int .u64 T] 118) #[.int .i64 A,.int .i64 B,.int .i64 C] 3)
        have HP4:=Lib.hid ((part_new W2 s X T 118).under1 #[.int .i64 A,.int .i64 B,.int .i64 C] 3)
        have HD:=cells3b W2 #[.bool s,.int .i64 X,.int .u64 T] 118 (.int .i64 A) (.int .i64 B) (.int .i64 C) 3
        generalize ((W2.alloc _).alloc _)=W4 at HX4 HG4 HP4 HD ⊢
        obtain ⟨y0,y1,y2⟩:=HD
        refine (oneIs3_any 4 A B C _ _ y0 y1 y2).mono ?_
        rintro e w' ⟨he,rfl⟩
        rw [HQu.out] at he
        subst he
        clear y0 y1 y2
        go_wp2_with fail
        have HX5:=Lib.hid (HX4.out.under1 #[.int .i64 A,.int .i64 B] 3)
        have HG5:=Lib.hid (Grown.alloc HG4.out #[.int .i64 A,.int .i64 B] 3)
        have HP5:=Lib.hid (HP4.out.under1 #[.int .i64 A,.int .i64 B] 3)
        have HD:=cells2 W4 (.int .i64 A) (.int .i64 B) 3
        generalize (W4.alloc _)=W5 at HX5 HG5 HP5 HD ⊢
        obtain ⟨y0,y1⟩:=HD
        refine (oneIs2_any 3 A B _ _ y0 y1).mono ?_
        rintro e w' ⟨he,rfl⟩
        rw [HI.out] at he
        subst he
        clear y0 y1
        go_wp2_with fail
        have HX6:=Lib.hid (HX5.out.under1 #[.int .i64 A,.int .i64 B] 3)
        have HG6:=Lib.hid (Grown.alloc HG5.out #[.int .i64 A,.int .i64 B] 3)
        have HP6:=Lib.hid (HP5.out.under1 #[.int .i64 A,.int .i64 B] 3)
        have HD:=cells2 W5 (.int .i64 A) (.int .i64 B) 3
        generalize (W5.alloc _)=W6 at HX6 HG6 HP6 HD ⊢
        obtain ⟨y0,y1⟩:=HD
        refine (oneIs2_any 0 A B _ _ y0 y1).mono ?_
        rintro e w' ⟨he,rfl⟩
        rw [HZ.out] at he
        subst he
        clear y0 y1
        obtain ⟨v,g1,g2,g3,g4,g5,hR⟩:=fin_shape f mode s (amtE X T) (fS f c) (amtE (unE f c) (unM f c))
        have HR:=Lib.hid hR
        clear hR
        obtain ⟨x,hx⟩:∃ x,unE f c=x:=⟨_,rfl⟩
        obtain ⟨M,hM⟩:∃ M,unM f c=M:=⟨_,rfl⟩
        obtain ⟨nc,hnc⟩:∃ nc,fS f c=nc:=⟨_,rfl⟩
        obtain ⟨x0,x1⟩:=unE_bd f c
        have x2:=unE_top f c
        obtain ⟨m0,m1⟩:=unM_bd f c
        have HU:=Lib.hid (show Ending.returned (.agg #[.bool (fS f c),.int .i64 (unE f c),.int .u64 (unM f c)])=.returned (.agg #[.bool nc,.int .i64 x,.int .u64 M]) by rw [hx,hM,hnc])
        rw [hx] at x0 x1 x2
        rw [hM] at m0 m1 hcp
        have ptg:=fun w1=>ptog_any f mode s nc X x T M w1 X0 X1 (by omega) (by omega) tp t1 hcp (by omega)
        rw [←hx,←hM,←hnc,HR.out,hx,hM,hnc] at ptg
        obtain ⟨l0,l1,l2,l3,l4⟩:=raise_fit T tp t1
        obtain ⟨j0,j1,j2,j3,j4⟩:=raise_fit M hcp (by omega)
        clear hx hM hnc l4 j4
        obtain ⟨J,hJ⟩:∃ J,lenI T=J:=⟨_,rfl⟩
        obtain ⟨J',hJ'⟩:∃ J',lenI M=J':=⟨_,rfl⟩
        rw [hJ] at l0 l1 l2 l3 ptg
        rw [hJ'] at j0 j1 j2 j3 ptg
        obtain ⟨T2,hT2⟩:∃ T2,T*2^(63 - J).toNat=T2:=⟨_,rfl⟩
        obtain ⟨M2,hM2⟩:∃ M2,M*2^(63 - J').toNat=M2:=⟨_,rfl⟩
        rw [hT2] at l2 l3 ptg
        rw [hM2] at j2 j3 ptg
        have HTg:=Lib.hid ptg
        clear ptg
        have HR1:=Lib.hid (fun w1=>praise_any s X T J T2 w1 (by omega) X1 tp (by omega) hJ l0 l1 (by rw [hT2];exact u64w _ (by omega) (by omega)))
        have HR2:=Lib.hid (fun w1=>praise_any nc x M J' M2 w1 (by omega) (by omega) hcp (by omega) hJ' j0 j1 (by rw [hM2];exact u64w _ (by omega) (by omega)))
        clear hJ hJ' hT2 hM2 l0 l1 l2 l3 j0 j1 j2 j3
        obtain ⟨pl,p0,p1,p2,r0,r1,r2⟩:=HP6.out
        go_wp2_with fail
        refine (HR1.out _).mono ?_
        rintro e W7 ⟨he,hW⟩
        subst he
        have HG7:=Lib.hid (show Grown w W7 from grown_trans (by repeat (first | with_reducible exact HG6.out | with_reducible refine Grown.setCell ?_ (by simp <;> omega) _ | with_reducible refine Grown.alloc ?_ _ _ | with_reducible refine grown_more ?_ _)) hW)
        have HX7:=Lib.hid (show ExcAt w.heap.size W7 from HX6.out.grown (grown_trans (by repeat (first | with_reducible exact Grown.refl _ | with_reducible refine Grown.setCell ?_ (by simp <;> omega) _ | with_reducible refine Grown.alloc ?_ _ _ | with_reducible refine grown_more ?_ _)) hW))
        clear hW
        go_wp2_with fail
        refine (punpack_any f c _ c0 c1).mono ?_
        rintro e W8 ⟨he,hW⟩
        rw [HU.out] at he
        subst he
        have HG8:=Lib.hid (show Grown w W8 from grown_trans (by repeat (first | with_reducible exact HG7.out | with_reducible refine Grown.setCell ?_ (by simp <;> omega) _ | with_reducible refine Grown.alloc ?_ _ _ | with_reducible refine grown_more ?_ _)) hW)
        have HX8:=Lib.hid (show ExcAt w.heap.size W8 from HX7.out.grown (grown_trans (by repeat (first | with_reducible exact Grown.refl _ | with_reducible refine Grown.setCell ?_ (by simp <;> omega) _ | with_reducible refine Grown.alloc ?_ _ _ | with_reducible refine grown_more ?_ _)) hW))
        clear hW
        go_wp2_with fail
        refine (HR2.out _).mono ?_
        rintro e W9 ⟨he,hW⟩
        subst he
        have HG9:=Lib.hid (show Grown w W9 from grown_trans (by repeat (first | with_reducible exact HG8.out | with_reducible refine Grown.setCell ?_ (by simp <;> omega) _ | with_reducible refine Grown.alloc ?_ _ _ | with_reducible refine grown_more ?_ _)) hW)
        have HX9:=Lib.hid (show ExcAt w.heap.size W9 from HX8.out.grown (grown_trans (by repeat (first | with_reducible exact Grown.refl _ | with_reducible refine Grown.setCell ?_ (by simp <;> omega) _ | with_reducible refine Grown.alloc ?_ _ _ | with_reducible refine grown_more ?_ _)) hW))
        clear hW
        go_wp2_with fail
        refine (HTg.out _).mono ?_
        rintro e W10 ⟨he,hW⟩
        subst he
        have HG10:=Lib.hid (show Grown w W10 from grown_trans (by repeat (first | with_reducible exact HG9.out | with_reducible refine Grown.setCell ?_ (by simp <;> omega) _ | with_reducible refine Grown.alloc ?_ _ _ | with_reducible refine grown_more ?_ _)) hW)
        have HX10:=Lib.hid (show ExcAt w.heap.size W10 from HX9.out.grown (grown_trans (by repeat (first | with_reducible exact Grown.refl _ | with_reducible refine Grown.setCell ?_ (by simp <;> omega) _ | with_reducible refine Grown.alloc ?_ _ _ | with_reducible refine grown_more ?_ _)) hW))
        clear hW
        obtain ⟨xb,x0,x1,x2,x3,x4,z0,z1,z2,z3,z4⟩:=HX10.out
        go_wp2
        (try simp only [Exit.inBlock,Exit.then])
        refine bodyPost_ret ?_ rfl ⟨HR.out.symm.trans HQ.out.symm,?_⟩
        ·rw [results_tmp_cell rfl]
         go_simp
        ·repeat (first | with_reducible exact HG10.out | with_reducible refine Grown.setCell ?_ (by simp <;> omega) _ | with_reducible refine Grown.alloc ?_ _ _ | with_reducible refine grown_more ?_ _)
end Go.Proofs.YteifobleigfbaaaGreat
