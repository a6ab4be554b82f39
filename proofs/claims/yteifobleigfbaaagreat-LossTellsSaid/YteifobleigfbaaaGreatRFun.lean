/- The contract of the reference's Fma. (Written by gen11.py.) The contracts of annealref10's operations of Singles. (Written by gen29.py.) The contracts of annealref10's functions. (Written by gen30.py.) The contract of annealref10's Log. (Written by gen31.py.) -/
import Derived.Test.YteifobleigfbaaaGreatDict
import Derived.Test.YteifobleigfbaaaGreatRFmaZ
import Derived.Test.YteifobleigfbaaaGreatRFmaI
import Derived.Test.YteifobleigfbaaaGreatRFmaO
import Derived.Test.YteifobleigfbaaaGreatFunMath
import Derived.Test.YteifobleigfbaaaGreatRMul
import Derived.Test.YteifobleigfbaaaGreatRDiv
import Derived.Test.YteifobleigfbaaaGreatAdd
import Derived.Test.YteifobleigfbaaaGreatRWhoB
import Derived.Lib.Hide
namespace Go.Proofs.YteifobleigfbaaaGreat
open Go.RowKit
set_option linter.unusedVariables false
set_option linter.unusedSimpArgs false

theorem rfma_any (f mode a b c:Int) (w:World) (a0:0≤a) (a1:a≤4294967295) (b0:0≤b) (b1:b≤4294967295) (c0:0≤c) (c1:c≤4294967295):
  Calls Tryz.prog 86 #[.int .i64 f,.int .i64 mode,.int .u32 a,.int .u32 b,.int .u32 c] w fun e w'=>e=fmaE f mode a b c∧Grown w w':=by
 rcases nou_inf f a with h | h | h
 ·exact rfma_Z f mode a b c w a0 a1 b0 b1 c0 c1 h
 ·exact rfma_I f mode a b c w a0 a1 b0 b1 c0 c1 h
 ·exact rfma_O f mode a b c w a0 a1 b0 b1 c0 c1 h

structure CellsAt (b:Nat) (L:List Value) (W:World):Prop where
 lies:b<W.heap.size
 cell:∀ i (h:i<L.length),W.cell? ⟨b,i,none⟩=some L[i]

theorem CellsAt.grown {b:Nat} {L:List Value} {W W':World} (h:CellsAt b L W) (g:Grown W W'):CellsAt b L W':=
 ⟨Nat.lt_of_lt_of_le h.lies g.2.2,fun i hi=>grown_cell g (h.cell i hi) h.lies⟩

theorem cells_new (W:World) (L:List Value) (t:TypeId):CellsAt W.heap.size L (W.alloc (.cells L.toArray t)):=by
 refine ⟨by show W.heap.size<(W.heap.push _).size;simp,fun i hi=>?_⟩
 rw [World.cell?_alloc_at (hn:=rfl)]
 simp [hi]

set_option maxHeartbeats 1000000 in
theorem nfma_any (a b c:Int) (w:World) (a0:0≤a) (a1:a≤4294967295) (b0:0≤b) (b1:b≤4294967295) (c0:0≤c) (c1:c≤4294967295):
  Calls Tryz.prog 47 #[.int .u32 a,.int .u32 b,.int .u32 c] w fun e w'=>e=.returned (.int .u32 (fmaV a b c))∧0≤fmaV a b c∧fmaV a b c≤4294967295∧Grown w w':=by
 obtain ⟨V,hV⟩:∃ V,fmaV a b c=V:=⟨_,rfl⟩
 obtain ⟨q1,q2,q3,q4,q5,hs,h0,h1⟩:=op_val (fma_shape 2 0 a b c) hV
 rw [hV]
 have HS:=Lib.hid hs
 clear hs hV
 go_enter Tryz.func47,Tryz.ntmps47
 go_wp2_with fail
 refine (rfma_any 2 0 a b c _ a0 a1 b0 b1 c0 c1).mono ?_
 exact dx_14

set_option maxHeartbeats 1000000 in
theorem nadd_any (a b:Int) (w:World) (a0:0≤a) (a1:a≤4294967295) (b0:0≤b) (b1:b≤4294967295):
  Calls Tryz.prog 38 #[.int .u32 a,.int .u32 b] w fun e w'=>e=.returned (.int .u32 (addV a b))∧0≤addV a b∧addV a b≤4294967295∧Grown w w':=by
 obtain ⟨V,hV⟩:∃ V,addV a b=V:=⟨_,rfl⟩
 obtain ⟨q1,q2,q3,q4,q5,hs,h0,h1⟩:=op_val (add_shapeE 2 0 a b) hV
 rw [hV]
 have HS:=Lib.hid hs
 clear hs hV
 go_enter Tryz.func38,Tryz.ntmps38
 go_wp2_with fail
 refine (radd_any 2 0 a b _ a0 a1 b0 b1).mono ?_
 exact dx_14

set_option maxHeartbeats 1000000 in
theorem nsub_any (a b:Int) (w:World) (a0:0≤a) (a1:a≤4294967295) (b0:0≤b) (b1:b≤4294967295):
  Calls Tryz.prog 21 #[.int .u32 a,.int .u32 b] w fun e w'=>e=.returned (.int .u32 (subV a b))∧0≤subV a b∧subV a b≤4294967295∧Grown w w':=by
 obtain ⟨V,hV⟩:∃ V,subV a b=V:=⟨_,rfl⟩
 obtain ⟨q1,q2,q3,q4,q5,hs,h0,h1⟩:=op_val (sub_shapeE 2 0 a b) hV
 rw [hV]
 have HS:=Lib.hid hs
 clear hs hV
 go_enter Tryz.func21,Tryz.ntmps21
 go_wp2_with fail
 refine (rsub_any 2 0 a b _ a0 a1 b0 b1).mono ?_
 exact dx_14

set_option maxHeartbeats 1000000 in
theorem nmul_any (a b:Int) (w:World) (a0:0≤a) (a1:a≤4294967295) (b0:0≤b) (b1:b≤4294967295):
  Calls Tryz.prog 56 #[.int .u32 a,.int .u32 b] w fun e w'=>e=.returned (.int .u32 (mulV a b))∧0≤mulV a b∧mulV a b≤4294967295∧Grown w w':=by
 obtain ⟨V,hV⟩:∃ V,mulV a b=V:=⟨_,rfl⟩
 obtain ⟨q1,q2,q3,q4,q5,hs,h0,h1⟩:=op_val (mul_shape 2 0 a b) hV
 rw [hV]
 have HS:=Lib.hid hs
 clear hs hV
 go_enter Tryz.func56,Tryz.ntmps56
 go_wp2_with fail
 refine (rmul_any 2 0 a b _ a0 a1 b0 b1).mono ?_
 exact dx_14

set_option maxHeartbeats 1000000 in
theorem ndiv_any (a b:Int) (w:World) (a0:0≤a) (a1:a≤4294967295) (b0:0≤b) (b1:b≤4294967295):
  Calls Tryz.prog 19 #[.int .u32 a,.int .u32 b] w fun e w'=>e=.returned (.int .u32 (divV a b))∧0≤divV a b∧divV a b≤4294967295∧Grown w w':=by
 obtain ⟨V,hV⟩:∃ V,divV a b=V:=⟨_,rfl⟩
 obtain ⟨q1,q2,q3,q4,q5,hs,h0,h1⟩:=op_val (div_shape 2 0 a b) hV
 rw [hV]
 have HS:=Lib.hid hs
 clear hs hV
 go_enter Tryz.func19,Tryz.ntmps19
 go_wp2_with fail
 refine (rdiv_any 2 0 a b _ a0 a1 b0 b1).mono ?_
 exact dx_14

set_option maxHeartbeats 1000000 in
theorem nint_any (v:Int) (w:World) (v0:-9223372036854775808≤v) (v1:v≤9223372036854775807):
  Calls Tryz.prog 20 #[.int .i64 v] w fun e w'=>e=.returned (.int .u32 (frmV v))∧0≤frmV v∧frmV v≤4294967295∧Grown w w':=by
 obtain ⟨V,hV⟩:∃ V,frmV v=V:=⟨_,rfl⟩
 obtain ⟨q1,q2,q3,q4,q5,hs,h0,h1⟩:=op_val (from_shapeE 2 0 v) hV
 rw [hV]
 have HS:=Lib.hid hs
 clear hs hV
 go_enter Tryz.func20,Tryz.ntmps20
 go_wp2_with fail
 refine (rfromint_any 2 0 v _ v0 v1).mono ?_
 exact dx_14

set_option maxHeartbeats 1000000 in
theorem nsca_any (a n:Int) (w:World) (a0:0≤a) (a1:a≤4294967295) (n0:-9223372036854775808≤n) (n1:n≤9223372036854775807):
  Calls Tryz.prog 73 #[.int .u32 a,.int .i64 n] w fun e w'=>e=.returned (.int .u32 (scaV a n))∧0≤scaV a n∧scaV a n≤4294967295∧Grown w w':=by
 obtain ⟨V,hV⟩:∃ V,scaV a n=V:=⟨_,rfl⟩
 obtain ⟨q1,q2,q3,q4,q5,hs,h0,h1⟩:=op_val (sca_shapeE 2 0 a n a0 a1) hV
 rw [hV]
 have HS:=Lib.hid hs
 clear hs hV
 go_enter Tryz.func73,Tryz.ntmps73
 go_wp2_with fail
 refine (rscale_any 2 0 a n _ a0 a1 n0 n1).mono ?_
 exact dx_14

set_option maxHeartbeats 1000000 in
theorem nneg_any (a:Int) (w:World) (a0:0≤a) (a1:a≤4294967295):
  Calls Tryz.prog 72 #[.int .u32 a] w fun e w'=>e=.returned (.int .u32 (negV a))∧0≤negV a∧negV a≤4294967295∧Grown w w':=by
 have hb:=min_bd 2 a a0 a1
 go_enter Tryz.func72,Tryz.ntmps72
 go_wp2_with (go_at_call 93;refine (rminus_any 2 a _ a0 a1).mono ?_;rintro e W1 ⟨rfl,hW1⟩)
 go_ret
 exact ⟨rfl,hb.1,hb.2,hW1⟩

set_option maxHeartbeats 1000000 in
theorem nnan_any (a:Int) (w:World) (a0:0≤a) (a1:a≤4294967295):
  Calls Tryz.prog 55 #[.int .u32 a] w fun e w'=>e=.returned (.bool (nanB 2 a))∧Grown w w':=by
 obtain ⟨C,hC⟩:∃ C,clsI 2 a=C:=⟨_,rfl⟩
 have HB:=Lib.hid (show nanB 2 a=(C==4 || C==5) by unfold nanB;rw [hC])
 have HC:=Lib.hid (show Ending.returned (.int .i64 (clsI 2 a))=.returned (.int .i64 C) by rw [hC])
 clear hC
 go_enter Tryz.func55,Tryz.ntmps55
 by_cases c4:C=4
 ·subst c4
  go_wp2_with (go_at_call 54;refine (rclass_any _ _ _ a0 a1).mono ?_;rintro e w' ⟨he,dm,rfl⟩;rw [HC.out] at he;subst he)
  go_ret
  exact ⟨by rw [HB.out];rfl,grown_drewN _ _⟩
 ·by_cases c5:C=5
  ·subst c5
   go_wp2_with (go_at_call 54;refine (rclass_any _ _ _ a0 a1).mono ?_;rintro e w' ⟨he,dm,rfl⟩;rw [HC.out] at he;subst he)
   go_ret
   exact ⟨by rw [HB.out];rfl,grown_drewN _ _⟩
  ·have d4:(C==4)=false:=by simpa using c4
   have d5:(C==5)=false:=by simpa using c5
   go_wp2_with (go_at_call 54;refine (rclass_any _ _ _ a0 a1).mono ?_;rintro e w' ⟨he,dm,rfl⟩;rw [HC.out] at he;subst he)
   go_ret
   exact ⟨by rw [HB.out,d4,d5];rfl,grown_drewN _ _⟩

set_option maxHeartbeats 1000000 in
theorem nabo_any (a b:Int) (w:World) (a0:0≤a) (a1:a≤4294967295) (b0:0≤b) (b1:b≤4294967295):
  Calls Tryz.prog 40 #[.int .u32 a,.int .u32 b] w fun e w'=>e=.returned (.bool (lesB 2 b a))∧Grown w w':=by
 go_enter Tryz.func40,Tryz.ntmps40
 go_wp2_with (go_at_call 76;refine (rless_any 2 b a _ b0 b1 a0 a1).mono ?_;rintro e W1 ⟨rfl,hW1⟩)
 go_ret
 exact ⟨rfl,hW1⟩

set_option maxHeartbeats 4000000 in
theorem nalong6_any (p r c0 c1 c2 c3 c4 c5:Int) (b:Nat) (w:World) (p0:0≤p) (p1:p≤4294967295) (r0:0≤r) (r1:r≤4294967295) (c00:0≤c0) (c01:c0≤4294967295) (c10:0≤c1) (c11:c1≤4294967295) (c20:0≤c2) (c21:c2≤4294967295) (c30:0≤c3) (c31:c3≤4294967295) (c40:0≤c4) (c41:c4≤4294967295) (c50:0≤c5) (c51:c5≤4294967295) (hc:CellsAt b [.int .u32 c0,.int .u32 c1,.int .u32 c2,.int .u32 c3,.int .u32 c4,.int .u32 c5] w):
  Calls Tryz.prog 57 #[.int .u32 p,.int .u32 r,.slice (some ⟨b,0,none⟩) 6 6] w fun e w'=>e=.returned (.int .u32 (alongV p r [c0,c1,c2,c3,c4,c5]))∧0≤alongV p r [c0,c1,c2,c3,c4,c5]∧alongV p r [c0,c1,c2,c3,c4,c5]≤4294967295∧Grown w w':=by
 have HC:=Lib.hid hc
 have HG:=Lib.hid (Grown.refl w)
 have y0:w.cell? ⟨b,0,none⟩=some (.int .u32 c0):=hc.cell 0 (by simp)
 have y1:w.cell? ⟨b,1,none⟩=some (.int .u32 c1):=hc.cell 1 (by simp)
 have y2:w.cell? ⟨b,2,none⟩=some (.int .u32 c2):=hc.cell 2 (by simp)
 have y3:w.cell? ⟨b,3,none⟩=some (.int .u32 c3):=hc.cell 3 (by simp)
 have y4:w.cell? ⟨b,4,none⟩=some (.int .u32 c4):=hc.cell 4 (by simp)
 have y5:w.cell? ⟨b,5,none⟩=some (.int .u32 c5):=hc.cell 5 (by simp)
 clear hc
 go_enter Tryz.func57,Tryz.ntmps57
 go_wp2
 refine wp_loop_rounds 7 ?_
 repeat any_goals (rw [rounds_succ];go_wp2_with (go_at_call 47;refine (nfma_any _ _ _ _ (by omega) (by omega) (by omega) (by omega) (by omega) (by omega)).mono ?_;rintro e W1 ⟨rfl,h0,h1,hW1⟩;replace HG:=Lib.hid (grown_trans HG.out hW1);replace HC:=Lib.hid (HC.out.grown hW1);clear hW1;have y0:W1.cell? ⟨b,0,none⟩=some (.int .u32 c0):=HC.out.cell 0 (by simp);have y1:W1.cell? ⟨b,1,none⟩=some (.int .u32 c1):=HC.out.cell 1 (by simp);have y2:W1.cell? ⟨b,2,none⟩=some (.int .u32 c2):=HC.out.cell 2 (by simp);have y3:W1.cell? ⟨b,3,none⟩=some (.int .u32 c3):=HC.out.cell 3 (by simp);have y4:W1.cell? ⟨b,4,none⟩=some (.int .u32 c4):=HC.out.cell 4 (by simp);have y5:W1.cell? ⟨b,5,none⟩=some (.int .u32 c5):=HC.out.cell 5 (by simp)))
 go_ret
 exact ⟨rfl,h0,h1,HG.out⟩

set_option maxHeartbeats 4000000 in
theorem nalong3_any (p r c0 c1 c2:Int) (b:Nat) (w:World) (p0:0≤p) (p1:p≤4294967295) (r0:0≤r) (r1:r≤4294967295) (c00:0≤c0) (c01:c0≤4294967295) (c10:0≤c1) (c11:c1≤4294967295) (c20:0≤c2) (c21:c2≤4294967295) (hc:CellsAt b [.int .u32 c0,.int .u32 c1,.int .u32 c2] w):
  Calls Tryz.prog 57 #[.int .u32 p,.int .u32 r,.slice (some ⟨b,0,none⟩) 3 3] w fun e w'=>e=.returned (.int .u32 (alongV p r [c0,c1,c2]))∧0≤alongV p r [c0,c1,c2]∧alongV p r [c0,c1,c2]≤4294967295∧Grown w w':=by
 have HC:=Lib.hid hc
 have HG:=Lib.hid (Grown.refl w)
 have y0:w.cell? ⟨b,0,none⟩=some (.int .u32 c0):=hc.cell 0 (by simp)
 have y1:w.cell? ⟨b,1,none⟩=some (.int .u32 c1):=hc.cell 1 (by simp)
 have y2:w.cell? ⟨b,2,none⟩=some (.int .u32 c2):=hc.cell 2 (by simp)
 clear hc
 go_enter Tryz.func57,Tryz.ntmps57
 go_wp2
 refine wp_loop_rounds 4 ?_
 repeat any_goals (rw [rounds_succ];go_wp2_with (go_at_call 47;refine (nfma_any _ _ _ _ (by omega) (by omega) (by omega) (by omega) (by omega) (by omega)).mono ?_;rintro e W1 ⟨rfl,h0,h1,hW1⟩;replace HG:=Lib.hid (grown_trans HG.out hW1);replace HC:=Lib.hid (HC.out.grown hW1);clear hW1;have y0:W1.cell? ⟨b,0,none⟩=some (.int .u32 c0):=HC.out.cell 0 (by simp);have y1:W1.cell? ⟨b,1,none⟩=some (.int .u32 c1):=HC.out.cell 1 (by simp);have y2:W1.cell? ⟨b,2,none⟩=some (.int .u32 c2):=HC.out.cell 2 (by simp)))
 go_ret
 exact ⟨rfl,h0,h1,HG.out⟩

set_option maxRecDepth 100000 in
set_option maxHeartbeats 4000000 in
theorem nexp_any (x:Int) (w:World) (x0:0≤x) (x1:x≤4294967295):
  Calls Tryz.prog 37 #[.int .u32 x] w fun e w'=>e=.returned (.int .u32 (expI x))∧0≤expI x∧expI x≤4294967295∧Grown w w':=by
 have HG:=Lib.hid (Grown.refl w)
 obtain ⟨NN,hN⟩:∃ NN,nanB 2 x=NN:=⟨_,rfl⟩
 have HN:=Lib.hid (show Ending.returned (.bool (nanB 2 x))=.returned (.bool NN) by rw [hN])
 obtain ⟨A1,hA⟩:∃ A1,lesB 2 1118925336 x=A1:=⟨_,rfl⟩
 obtain ⟨B1,hB⟩:∃ B1,lesB 2 x 3268407733=B1:=⟨_,rfl⟩
 have HA:=Lib.hid (show Ending.returned (.bool (lesB 2 1118925336 x))=.returned (.bool A1) by rw [hA])
 have HB:=Lib.hid (show Ending.returned (.bool (lesB 2 x 3268407733))=.returned (.bool B1) by rw [hB])
 obtain ⟨N,hNN⟩:∃ N,expN x=N:=⟨_,rfl⟩
 obtain ⟨q1,q2,q3,q4,q5,ht,n0,n1⟩:=to_val 2 0 (mulV x 1069066811) (V:=N) hNN
 have HT:=Lib.hid ht
 have HM:=Lib.hid (show expI x=if NN then 2143289344 else if A1 then 2139095040 else if B1 then 0 else scaV (alongV 985008993 (fmaV (negV (frmV N)) 901758606 (fmaV (negV (frmV N)) 1060205056 x)) [1007192201,1026206379,1042983595,1056964608,1065353216,1065353216]) N by
  unfold expI expP expR;rw [hN,hA,hB,hNN])
 clear hN hA hB hNN ht
 have hi:IntKind.i64.wrap N=N:=by rw [IntKind.wrap_i64];omega
 have hi2:wrap64 N=N:=by rw [wrap64_is];exact hi
 cases NN
 case true=>
  have HQ:=HM.out
  simp only [if_true] at HQ
  have HQ2:=Lib.hid HQ
  clear HM HQ
  go_enter Tryz.func37,Tryz.ntmps37
  go_wp2_with (first
   | (go_at_call 55;refine (nnan_any _ _ (by omega) (by omega)).mono ?_;rintro e W1 ⟨he,hW1⟩;rw [HN.out] at he;subst he;replace HG:=Lib.hid (show Grown w W1 from grown_trans (by repeat (first | with_reducible exact HG.out | with_reducible refine Grown.setCell ?_ (by simp <;> omega) _ | with_reducible refine Grown.alloc ?_ _ _ | with_reducible refine grown_more ?_ _ | with_reducible refine Grown.drew ?_)) hW1);clear hW1))
  go_ret
  exact ⟨by rw [HQ2.out];rfl,by rw [HQ2.out];omega,by rw [HQ2.out];omega,HG.out⟩
 case false=>
  cases A1
  case true=>
   exact dx_26
  case false=>
   cases B1
   case true=>
    exact dx_26
   case false=>
    have HQ:=HM.out
    simp only [Bool.false_eq_true,if_false] at HQ
    have HQ2:=Lib.hid HQ
    clear HM HQ
    go_enter Tryz.func37,Tryz.ntmps37
    go_wp2_with (first
     | (go_at_call 55;refine (nnan_any _ _ (by omega) (by omega)).mono ?_;rintro e W1 ⟨he,hW1⟩;rw [HN.out] at he;subst he;replace HG:=Lib.hid (show Grown w W1 from grown_trans (by repeat (first | with_reducible exact HG.out | with_reducible refine Grown.setCell ?_ (by simp <;> omega) _ | with_reducible refine Grown.alloc ?_ _ _ | with_reducible refine grown_more ?_ _ | with_reducible refine Grown.drew ?_)) hW1);clear hW1)
     | (go_at_call 40;refine (nabo_any _ _ _ (by omega) (by omega) (by omega) (by omega)).mono ?_;rintro e W1 ⟨he,hW1⟩;(first | rw [HA.out] at he | rw [HB.out] at he);subst he;replace HG:=Lib.hid (show Grown w W1 from grown_trans (by repeat (first | with_reducible exact HG.out | with_reducible refine Grown.setCell ?_ (by simp <;> omega) _ | with_reducible refine Grown.alloc ?_ _ _ | with_reducible refine grown_more ?_ _ | with_reducible refine Grown.drew ?_)) hW1);clear hW1)
     | (go_at_call 71;refine (rtoint_any 2 0 _ _ (by omega) (by omega)).mono ?_;rintro e W1 ⟨he,hW1⟩;rw [HT.out] at he;subst he;replace HG:=Lib.hid (show Grown w W1 from grown_trans (by repeat (first | with_reducible exact HG.out | with_reducible refine Grown.setCell ?_ (by simp <;> omega) _ | with_reducible refine Grown.alloc ?_ _ _ | with_reducible refine grown_more ?_ _ | with_reducible refine Grown.drew ?_)) hW1);clear hW1)
     | (go_at_call 57;refine (nalong6_any _ _ 1007192201 1026206379 1042983595 1056964608 1065353216 1065353216 _ _ (by omega) (by omega) (by omega) (by omega) (by omega) (by omega) (by omega) (by omega) (by omega) (by omega) (by omega) (by omega) (by omega) (by omega) (by omega) (by omega) (cells_new _ [.int .u32 1007192201,.int .u32 1026206379,.int .u32 1042983595,.int .u32 1056964608,.int .u32 1065353216,.int .u32 1065353216] _)).mono ?_;rintro e W1 ⟨rfl,h0,h1,hW1⟩;replace HG:=Lib.hid (show Grown w W1 from grown_trans (by repeat (first | with_reducible exact HG.out | with_reducible refine Grown.setCell ?_ (by simp <;> omega) _ | with_reducible refine Grown.alloc ?_ _ _ | with_reducible refine grown_more ?_ _ | with_reducible refine Grown.drew ?_)) hW1);clear hW1)
     | (go_at_call 47;refine (nfma_any _ _ _ _ (by omega) (by omega) (by omega) (by omega) (by omega) (by omega)).mono ?_;rintro e W1 ⟨rfl,h0,h1,hW1⟩;replace HG:=Lib.hid (show Grown w W1 from grown_trans (by repeat (first | with_reducible exact HG.out | with_reducible refine Grown.setCell ?_ (by simp <;> omega) _ | with_reducible refine Grown.alloc ?_ _ _ | with_reducible refine grown_more ?_ _ | with_reducible refine Grown.drew ?_)) hW1);clear hW1)
     | (go_at_call 38;refine (nadd_any _ _ _ (by omega) (by omega) (by omega) (by omega)).mono ?_;rintro e W1 ⟨rfl,h0,h1,hW1⟩;replace HG:=Lib.hid (show Grown w W1 from grown_trans (by repeat (first | with_reducible exact HG.out | with_reducible refine Grown.setCell ?_ (by simp <;> omega) _ | with_reducible refine Grown.alloc ?_ _ _ | with_reducible refine grown_more ?_ _ | with_reducible refine Grown.drew ?_)) hW1);clear hW1)
     | (go_at_call 21;refine (nsub_any _ _ _ (by omega) (by omega) (by omega) (by omega)).mono ?_;rintro e W1 ⟨rfl,h0,h1,hW1⟩;replace HG:=Lib.hid (show Grown w W1 from grown_trans (by repeat (first | with_reducible exact HG.out | with_reducible refine Grown.setCell ?_ (by simp <;> omega) _ | with_reducible refine Grown.alloc ?_ _ _ | with_reducible refine grown_more ?_ _ | with_reducible refine Grown.drew ?_)) hW1);clear hW1)
     | (go_at_call 56;refine (nmul_any _ _ _ (by omega) (by omega) (by omega) (by omega)).mono ?_;rintro e W1 ⟨rfl,h0,h1,hW1⟩;replace HG:=Lib.hid (show Grown w W1 from grown_trans (by repeat (first | with_reducible exact HG.out | with_reducible refine Grown.setCell ?_ (by simp <;> omega) _ | with_reducible refine Grown.alloc ?_ _ _ | with_reducible refine grown_more ?_ _ | with_reducible refine Grown.drew ?_)) hW1);clear hW1)
     | (go_at_call 19;refine (ndiv_any _ _ _ (by omega) (by omega) (by omega) (by omega)).mono ?_;rintro e W1 ⟨rfl,h0,h1,hW1⟩;replace HG:=Lib.hid (show Grown w W1 from grown_trans (by repeat (first | with_reducible exact HG.out | with_reducible refine Grown.setCell ?_ (by simp <;> omega) _ | with_reducible refine Grown.alloc ?_ _ _ | with_reducible refine grown_more ?_ _ | with_reducible refine Grown.drew ?_)) hW1);clear hW1)
     | (go_at_call 20;refine (nint_any _ _ (by omega) (by omega)).mono ?_;rintro e W1 ⟨rfl,h0,h1,hW1⟩;replace HG:=Lib.hid (show Grown w W1 from grown_trans (by repeat (first | with_reducible exact HG.out | with_reducible refine Grown.setCell ?_ (by simp <;> omega) _ | with_reducible refine Grown.alloc ?_ _ _ | with_reducible refine grown_more ?_ _ | with_reducible refine Grown.drew ?_)) hW1);clear hW1)
     | (go_at_call 73;refine (nsca_any _ _ _ (by omega) (by omega) (by omega) (by omega)).mono ?_;rintro e W1 ⟨rfl,h0,h1,hW1⟩;replace HG:=Lib.hid (show Grown w W1 from grown_trans (by repeat (first | with_reducible exact HG.out | with_reducible refine Grown.setCell ?_ (by simp <;> omega) _ | with_reducible refine Grown.alloc ?_ _ _ | with_reducible refine grown_more ?_ _ | with_reducible refine Grown.drew ?_)) hW1);clear hW1)
     | (go_at_call 72;refine (nneg_any _ _ (by omega) (by omega)).mono ?_;rintro e W1 ⟨rfl,h0,h1,hW1⟩;replace HG:=Lib.hid (show Grown w W1 from grown_trans (by repeat (first | with_reducible exact HG.out | with_reducible refine Grown.setCell ?_ (by simp <;> omega) _ | with_reducible refine Grown.alloc ?_ _ _ | with_reducible refine grown_more ?_ _ | with_reducible refine Grown.drew ?_)) hW1);clear hW1))
    go_ret
    exact ⟨by rw [HQ2.out];rfl,by rw [HQ2.out];omega,by rw [HQ2.out];omega,HG.out⟩

structure LogAt (M E m e:Int):Prop where
 ok:∃ j:Nat,(j:Int)≤24 - lenI M∧m=M*2^j∧e=E - j

theorem len_two (M:Int) (m0:0<M) (m1:M<16777216):1≤lenI M∧lenI M≤24∧2^(lenI M - 1).toNat≤M∧M<2^(lenI M).toNat:=by
 obtain ⟨X,rfl⟩:=Int.eq_ofNat_of_zero_le (Int.le_of_lt m0)
 have hl:=len_log (X:Int) m0
 rw [Int.toNat_natCast] at hl
 have h1:=Nat.log2_self_le (n:=X) (by omega)
 have h2:=Nat.lt_log2_self (n:=X)
 have h3:X.log2<24:=(Nat.log2_lt (by omega)).2 (by omega)
 rw [hl,show ((X.log2:Int)+1 - 1).toNat=X.log2 by omega,show ((X.log2:Int)+1).toNat=X.log2+1 by omega,pow2_cast,pow2_cast]
 exact ⟨by omega,by omega,by omega,by omega⟩

theorem log_bits (m:Int) (m0:0≤m) (m1:m<16777216):bits .or .u32 1065353216 (bits .and .u64 m 8388607%4294967296)=1065353216+m%8388608:=by
 have e:bits .and .u64 m 8388607=m%8388608:=by
  rw [u64_and m 8388607 m0 (by omega) (by omega) (by omega),show (8388607:Int).toNat=2^23 - 1 by decide,Nat.and_two_pow_sub_one_eq_mod]
  omega
 rw [e,Int.emod_eq_of_lt (by omega) (by omega)]
 exact or32 127 _ 23 (by omega) (by omega) (by omega) (by decide) (by omega)

theorem logat_start (M E:Int) (m0:0<M) (m1:M<16777216):LogAt M E M E:=⟨0,by have:=len_two M m0 m1;omega,by simp,by simp⟩

theorem logat_bd {M E m e:Int} (h:LogAt M E m e) (m0:0<M) (m1:M<16777216):0<m∧m<16777216∧E - 24≤e∧e≤E:=by
 obtain ⟨j,hj,rfl,rfl⟩:=h.ok
 obtain ⟨l0,l1,l2,l3⟩:=len_two M m0 m1
 have hp:=pow2_pos j
 have a:M*2^j<2^(lenI M).toNat*2^j:=Int.mul_lt_mul_of_pos_right l3 hp
 rw [←Int.pow_add] at a
 have b:(2:Int)^((lenI M).toNat+j)≤2^24:=pow2_le (by omega)
 have e24:(2:Int)^24=16777216:=by decide
 exact ⟨Int.mul_pos m0 hp,by omega,by omega,by omega⟩

theorem logat_more {M E m e:Int} (h:LogAt M E m e) (m0:0<M) (m1:M<16777216) (c:m<8388608):LogAt M E (m*2) (e - 1):=by
 obtain ⟨j,hj,rfl,rfl⟩:=h.ok
 obtain ⟨l0,l1,l2,l3⟩:=len_two M m0 m1
 refine ⟨j+1,?_,by rw [Int.pow_succ,Int.mul_assoc],by omega⟩
 rcases Int.lt_or_le (j:Int) (24 - lenI M) with g | g
 ·omega
 ·exfalso
  have a:2^(lenI M - 1).toNat*2^j≤M*2^j:=Int.mul_le_mul_of_nonneg_right l2 (Int.le_of_lt (pow2_pos j))
  rw [←Int.pow_add,show (lenI M - 1).toNat+j=23 by omega] at a
  have e23:(2:Int)^23=8388608:=by decide
  omega

theorem logat_end {M E m e:Int} (h:LogAt M E m e) (m0:0<M) (m1:M<16777216) (c:¬m<8388608):m=M*2^(24 - lenI M).toNat∧e+23=E+(lenI M - 1):=by
 obtain ⟨j,hj,rfl,rfl⟩:=h.ok
 obtain ⟨l0,l1,l2,l3⟩:=len_two M m0 m1
 have hjj:(j:Int)=24 - lenI M:=by
  rcases Int.lt_or_le (j:Int) (24 - lenI M) with g | g
  ·exfalso
   have a:M*2^j<2^(lenI M).toNat*2^j:=Int.mul_lt_mul_of_pos_right l3 (pow2_pos j)
   rw [←Int.pow_add] at a
   have b:(2:Int)^((lenI M).toNat+j)≤2^23:=pow2_le (by omega)
   have e23:(2:Int)^23=8388608:=by decide
   omega
  ·omega
 exact ⟨by rw [show (24 - lenI M).toNat=j by omega],by omega⟩

set_option maxRecDepth 100000 in
set_option maxHeartbeats 16000000 in
theorem nlog_any (x:Int) (w:World) (x0:0≤x) (x1:x≤4294967295):
  Calls Tryz.prog 22 #[.int .u32 x] w fun e w'=>e=.returned (.int .u32 (logI x))∧0≤logI x∧logI x≤4294967295∧Grown w w':=by
 have HG:=Lib.hid (Grown.refl w)
 obtain ⟨NN,hN⟩:∃ NN,nanB 2 x=NN:=⟨_,rfl⟩
 have HN:=Lib.hid (show Ending.returned (.bool (nanB 2 x))=.returned (.bool NN) by rw [hN])
 obtain ⟨C,hC⟩:∃ C,clsI 2 x=C:=⟨_,rfl⟩
 obtain ⟨s,hs⟩:∃ s,fS 2 x=s:=⟨_,rfl⟩
 obtain ⟨E,hE⟩:∃ E,unE 2 x=E:=⟨_,rfl⟩
 obtain ⟨M,hM⟩:∃ M,unM 2 x=M:=⟨_,rfl⟩
 have HU:=Lib.hid (show Ending.returned (.tuple #[.bool (fS 2 x),.int .i64 (unE 2 x),.int .u64 (unM 2 x)])=.returned (.tuple #[.bool s,.int .i64 E,.int .u64 M]) by rw [hs,hE,hM])
 have HC:=Lib.hid (show Ending.returned (.int .i64 (clsI 2 x))=.returned (.int .i64 C) by rw [hC])
 obtain ⟨e0,e1⟩:=unE_bd 2 x
 obtain ⟨m0,m1⟩:=unM_bd 2 x
 have hpos:nanB 2 x=false→nouB 2 x=false→infB 2 x=false→0<M:=fun a b c=>by rw [←hM];exact num_pos 2 x a b c
 rw [hE] at e0 e1
 rw [hM] at m0 m1
 have hno:nouB 2 x=(C==0):=by unfold nouB;rw [hC]
 have hinf:infB 2 x=(C==3):=by unfold infB;rw [hC]
 have HM:=Lib.hid (show logI x=if NN then 2143289344 else if (C==0) then 4286578688 else if s then 2143289344 else if (C==3) then 2139095040 else logT (frmV (logK x)) (logY (logS (subV (logV x) 1065353216))) by
  unfold logI;rw [hN,hno,hs,hinf])
 rw [hN,hno,hinf] at hpos
 have hlm:logM x=1065353216+M*2^(24 - lenI M).toNat%8388608:=by unfold logM;rw [hM]
 have hle:logE x=E+(lenI M - 1):=by unfold logE;rw [hM,hE]
 clear hN hC hs hE hM hno hinf
 cases NN
 case true=>
  have HQ:=HM.out
  simp only [if_true] at HQ
  exact dx_18
 case false=>
  by_cases c0:C=0
  ·subst c0
   have HQ:=HM.out
   simp only [beq_self_eq_true,if_true,Bool.false_eq_true,if_false] at HQ
   exact dx_18
  ·have d0:(C==0)=false:=by simpa using c0
   cases s
   case true=>
    have HQ:=HM.out
    simp only [d0,if_true,Bool.false_eq_true,if_false] at HQ
    exact dx_18
   case false=>
    by_cases c3:C=3
    ·subst c3
     have HQ:=HM.out
     simp only [d0,beq_self_eq_true,if_true,Bool.false_eq_true,if_false] at HQ
     exact dx_18
    ·have d3:(C==3)=false:=by simpa using c3
     have mp:=hpos rfl d0 d3
     have HP:=Lib.hid hpos
     clear hpos
     have HQ:=HM.out
     simp only [d0,d3,Bool.false_eq_true,if_false] at HQ
     have HQ2:=Lib.hid HQ
     clear HM HQ
     go_enter Tryz.func22,Tryz.ntmps22
     go_wp2_with (first
      | (go_at_call 53;refine (runpack_any _ _ _ x0 x1).mono ?_;rintro e w1 ⟨he,dm,rfl⟩;rw [HU.out] at he;subst he)
      | (go_at_call 54;refine (rclass_any _ _ _ x0 x1).mono ?_;rintro e w1 ⟨he,dm2,rfl⟩;rw [HC.out] at he;subst he)
      | (go_at_call 55;refine (nnan_any _ _ (by omega) (by omega)).mono ?_;rintro e W1 ⟨he,hW1⟩;rw [HN.out] at he;subst he;replace HG:=Lib.hid (show Grown w W1 from grown_trans (by repeat (first | with_reducible exact HG.out | with_reducible refine Grown.setCell ?_ (by simp <;> omega) _ | with_reducible refine Grown.alloc ?_ _ _ | with_reducible refine grown_more ?_ _ | with_reducible refine Grown.drew ?_)) hW1);clear hW1))
     go_loop [4,5] (fun e m=>∃ e' m':Int,e=.int .i64 e'∧m=.int .u64 m'∧LogAt M E m' e') (fun _ m=>(16777216 - intOf m).toNat)
     case atStart=>exact ⟨E,M,rfl,rfl,logat_start M E mp m1⟩
     case round=>
      obtain ⟨e',m',rfl,rfl,hL⟩:=hrel
      obtain ⟨b0,b1,b2,b3⟩:=logat_bd hL mp m1
      by_cases c:m'<8388608
      ·go_wp2
       exact ⟨⟨_,_,rfl,rfl,logat_more hL mp m1 c⟩,by simp only [intOf];omega⟩
      ·obtain ⟨hm,he⟩:=logat_end hL mp m1 c
       obtain ⟨LM,hLM⟩:∃ LM,logM x=LM:=⟨_,rfl⟩
       obtain ⟨LE,hLE⟩:∃ LE,logE x=LE:=⟨_,rfl⟩
       have hv:bits .or .u32 1065353216 (bits .and .u64 m' 8388607%4294967296)=LM:=by rw [←hLM,hlm,←hm];exact log_bits m' (by omega) b1
       have hLb:0≤LM∧LM≤4294967295:=by rw [←hLM,hlm];omega
       obtain ⟨v0,v1⟩:=hLb
       have he2:e'+23=LE:=by rw [he,←hle,hLE]
       obtain ⟨A1,hA⟩:∃ A1,lesB 2 1068827891 LM=A1:=⟨_,rfl⟩
       have HA:=Lib.hid (show Ending.returned (.bool (lesB 2 1068827891 LM))=.returned (.bool A1) by rw [hA])
       have HK:=Lib.hid (show logK x=if A1 then LE+1 else LE by unfold logK;rw [hLM,hLE,hA])
       have HV:=Lib.hid (show logV x=if A1 then mulV LM 1056964608 else LM by unfold logV;rw [hLM,hA])
       have hLEb:-200≤LE∧LE≤300:=by omega
       obtain ⟨k0,k1⟩:=hLEb
       clear hL hm he hLM hLE hA hlm hle
       cases A1
       case true=>
        have HQ3:=HQ2.out
        rw [HK.out,HV.out] at HQ3
        simp only [if_true] at HQ3
        exact dx_11
       case false=>
        have HQ3:=HQ2.out
        rw [HK.out,HV.out] at HQ3
        simp only [Bool.false_eq_true,if_false] at HQ3
        exact dx_11
end Go.Proofs.YteifobleigfbaaaGreat
