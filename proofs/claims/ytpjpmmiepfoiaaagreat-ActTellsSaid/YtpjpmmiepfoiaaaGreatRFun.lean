/- The contract of the reference's Fma. (Written by gen11.py.) The contracts of annealref10's operations of Singles. (Written by gen29.py.) The contracts of annealref10's functions. (Written by gen30.py.) The contract of annealref10's Log. (Written by gen31.py.) -/
import Derived.Test.YtpjpmmiepfoiaaaGreatRFmaZ
import Derived.Test.YtpjpmmiepfoiaaaGreatRFmaI
import Derived.Test.YtpjpmmiepfoiaaaGreatRFmaO
import Derived.Test.YtpjpmmiepfoiaaaGreatFunMath
import Derived.Test.YtpjpmmiepfoiaaaGreatRMul
import Derived.Test.YtpjpmmiepfoiaaaGreatRDiv
import Derived.Test.YtpjpmmiepfoiaaaGreatAdd
import Derived.Test.YtpjpmmiepfoiaaaGreatRWhoB
import Derived.Lib.Hide
namespace Go.Proofs.YtpjpmmiepfoiaaaGreat
open Go.RowKit
set_option linter.unusedVariables false
set_option linter.unusedSimpArgs false

theorem rfma_any (f mode a b c:Int) (w:World) (a0:0≤a) (a1:a≤4294967295) (b0:0≤b) (b1:b≤4294967295) (c0:0≤c) (c1:c≤4294967295):
  Calls Tryz.prog 116 #[.int .i64 f,.int .i64 mode,.int .u32 a,.int .u32 b,.int .u32 c] w fun e w'=>e=fmaE f mode a b c∧Grown w w':=by
 rcases nou_inf f a with h | h | h
 ·exact rfma_Z f mode a b c w a0 a1 b0 b1 c0 c1 h
 ·exact rfma_I f mode a b c w a0 a1 b0 b1 c0 c1 h
 ·exact rfma_O f mode a b c w a0 a1 b0 b1 c0 c1 h

structure CellsAt (b:Nat) (L:List Value) (W:World):Prop where
 lies:b<W.heap.size
 cell:∀ i (h:i<L.length),W.cell? ⟨b,i,none⟩=some L[i]

theorem CellsAt.grown {b:Nat} {L:List Value} {W W':World} (h:CellsAt b L W) (g:Grown W W'):CellsAt b L W':=
 ⟨Nat.lt_of_lt_of_le h.lies g.2.2,fun i hi=>grown_cell g (h.cell i hi) h.lies⟩

theorem cells_new (W:World) (L:List Value) (t:TypeId):CellsAt W.heap.size L (W.alloc (.cells L.toArray t)):=by
 refine ⟨by show W.heap.size<(W.heap.push _).size;simp,fun i hi=>?_⟩
 rw [World.cell?_alloc_at (hn:=rfl)]
 simp [hi]

set_option maxHeartbeats 1000000 in
theorem nfma_any (a b c:Int) (w:World) (a0:0≤a) (a1:a≤4294967295) (b0:0≤b) (b1:b≤4294967295) (c0:0≤c) (c1:c≤4294967295):
  Calls Tryz.prog 78 #[.int .u32 a,.int .u32 b,.int .u32 c] w fun e w'=>e=.returned (.int .u32 (fmaV a b c))∧0≤fmaV a b c∧fmaV a b c≤4294967295∧Grown w w':=by
 obtain ⟨V,hV⟩:∃ V,fmaV a b c=V:=⟨_,rfl⟩
 obtain ⟨q1,q2,q3,q4,q5,hs,h0,h1⟩:=op_val (fma_shape 2 0 a b c) hV
 rw [hV]
 have HS:=Lib.hid hs
 clear hs hV
 go_enter Tryz.func78,Tryz.ntmps78
 go_wp2_with fail
 refine (rfma_any 2 0 a b c _ a0 a1 b0 b1 c0 c1).mono ?_
 rintro e W1 ⟨he,hW1⟩
 rw [HS.out] at he
 subst he
 have HG:=Lib.hid hW1
 clear hW1
 go_wp2
 go_ret
 exact ⟨rfl,h0,h1,by repeat (first | with_reducible exact HG.out | with_reducible refine Grown.setCell ?_ (by simp <;> omega) _ | with_reducible refine Grown.alloc ?_ _ _ | with_reducible refine grown_more ?_ _ | with_reducible refine Grown.drew ?_)⟩

set_option maxHeartbeats 1000000 in
theorem nadd_any (a b:Int) (w:World) (a0:0≤a) (a1:a≤4294967295) (b0:0≤b) (b1:b≤4294967295):
  Calls Tryz.prog 72 #[.int .u32 a,.int .u32 b] w fun e w'=>e=.returned (.int .u32 (addV a b))∧0≤addV a b∧addV a b≤4294967295∧Grown w w':=by
 obtain ⟨V,hV⟩:∃ V,addV a b=V:=⟨_,rfl⟩
 obtain ⟨q1,q2,q3,q4,q5,hs,h0,h1⟩:=op_val (add_shapeE 2 0 a b) hV
 rw [hV]
 have HS:=Lib.hid hs
 clear hs hV
 go_enter Tryz.func72,Tryz.ntmps72
 go_wp2_with fail
 refine (radd_any 2 0 a b _ a0 a1 b0 b1).mono ?_
 rintro e W1 ⟨he,hW1⟩
 rw [HS.out] at he
 subst he
 have HG:=Lib.hid hW1
 clear hW1
 go_wp2
 go_ret
 exact ⟨rfl,h0,h1,by repeat (first | with_reducible exact HG.out | with_reducible refine Grown.setCell ?_ (by simp <;> omega) _ | with_reducible refine Grown.alloc ?_ _ _ | with_reducible refine grown_more ?_ _ | with_reducible refine Grown.drew ?_)⟩

set_option maxHeartbeats 1000000 in
theorem nsub_any (a b:Int) (w:World) (a0:0≤a) (a1:a≤4294967295) (b0:0≤b) (b1:b≤4294967295):
  Calls Tryz.prog 37 #[.int .u32 a,.int .u32 b] w fun e w'=>e=.returned (.int .u32 (subV a b))∧0≤subV a b∧subV a b≤4294967295∧Grown w w':=by
 obtain ⟨V,hV⟩:∃ V,subV a b=V:=⟨_,rfl⟩
 obtain ⟨q1,q2,q3,q4,q5,hs,h0,h1⟩:=op_val (sub_shapeE 2 0 a b) hV
 rw [hV]
 have HS:=Lib.hid hs
 clear hs hV
 go_enter Tryz.func37,Tryz.ntmps37
 go_wp2_with fail
 refine (rsub_any 2 0 a b _ a0 a1 b0 b1).mono ?_
 rintro e W1 ⟨he,hW1⟩
 rw [HS.out] at he
 subst he
 have HG:=Lib.hid hW1
 clear hW1
 go_wp2
 go_ret
 exact ⟨rfl,h0,h1,by repeat (first | with_reducible exact HG.out | with_reducible refine Grown.setCell ?_ (by simp <;> omega) _ | with_reducible refine Grown.alloc ?_ _ _ | with_reducible refine grown_more ?_ _ | with_reducible refine Grown.drew ?_)⟩

set_option maxHeartbeats 1000000 in
theorem nmul_any (a b:Int) (w:World) (a0:0≤a) (a1:a≤4294967295) (b0:0≤b) (b1:b≤4294967295):
  Calls Tryz.prog 38 #[.int .u32 a,.int .u32 b] w fun e w'=>e=.returned (.int .u32 (mulV a b))∧0≤mulV a b∧mulV a b≤4294967295∧Grown w w':=by
 obtain ⟨V,hV⟩:∃ V,mulV a b=V:=⟨_,rfl⟩
 obtain ⟨q1,q2,q3,q4,q5,hs,h0,h1⟩:=op_val (mul_shape 2 0 a b) hV
 rw [hV]
 have HS:=Lib.hid hs
 clear hs hV
 go_enter Tryz.func38,Tryz.ntmps38
 go_wp2_with fail
 refine (rmul_any 2 0 a b _ a0 a1 b0 b1).mono ?_
 rintro e W1 ⟨he,hW1⟩
 rw [HS.out] at he
 subst he
 have HG:=Lib.hid hW1
 clear hW1
 go_wp2
 go_ret
 exact ⟨rfl,h0,h1,by repeat (first | with_reducible exact HG.out | with_reducible refine Grown.setCell ?_ (by simp <;> omega) _ | with_reducible refine Grown.alloc ?_ _ _ | with_reducible refine grown_more ?_ _ | with_reducible refine Grown.drew ?_)⟩

set_option maxHeartbeats 1000000 in
theorem ndiv_any (a b:Int) (w:World) (a0:0≤a) (a1:a≤4294967295) (b0:0≤b) (b1:b≤4294967295):
  Calls Tryz.prog 55 #[.int .u32 a,.int .u32 b] w fun e w'=>e=.returned (.int .u32 (divV a b))∧0≤divV a b∧divV a b≤4294967295∧Grown w w':=by
 obtain ⟨V,hV⟩:∃ V,divV a b=V:=⟨_,rfl⟩
 obtain ⟨q1,q2,q3,q4,q5,hs,h0,h1⟩:=op_val (div_shape 2 0 a b) hV
 rw [hV]
 have HS:=Lib.hid hs
 clear hs hV
 go_enter Tryz.func55,Tryz.ntmps55
 go_wp2_with fail
 refine (rdiv_any 2 0 a b _ a0 a1 b0 b1).mono ?_
 rintro e W1 ⟨he,hW1⟩
 rw [HS.out] at he
 subst he
 have HG:=Lib.hid hW1
 clear hW1
 go_wp2
 go_ret
 exact ⟨rfl,h0,h1,by repeat (first | with_reducible exact HG.out | with_reducible refine Grown.setCell ?_ (by simp <;> omega) _ | with_reducible refine Grown.alloc ?_ _ _ | with_reducible refine grown_more ?_ _ | with_reducible refine Grown.drew ?_)⟩

set_option maxHeartbeats 1000000 in
theorem nint_any (v:Int) (w:World) (v0:-9223372036854775808≤v) (v1:v≤9223372036854775807):
  Calls Tryz.prog 56 #[.int .i64 v] w fun e w'=>e=.returned (.int .u32 (frmV v))∧0≤frmV v∧frmV v≤4294967295∧Grown w w':=by
 obtain ⟨V,hV⟩:∃ V,frmV v=V:=⟨_,rfl⟩
 obtain ⟨q1,q2,q3,q4,q5,hs,h0,h1⟩:=op_val (from_shapeE 2 0 v) hV
 rw [hV]
 have HS:=Lib.hid hs
 clear hs hV
 go_enter Tryz.func56,Tryz.ntmps56
 go_wp2_with fail
 refine (rfromint_any 2 0 v _ v0 v1).mono ?_
 rintro e W1 ⟨he,hW1⟩
 rw [HS.out] at he
 subst he
 have HG:=Lib.hid hW1
 clear hW1
 go_wp2
 go_ret
 exact ⟨rfl,h0,h1,by repeat (first | with_reducible exact HG.out | with_reducible refine Grown.setCell ?_ (by simp <;> omega) _ | with_reducible refine Grown.alloc ?_ _ _ | with_reducible refine grown_more ?_ _ | with_reducible refine Grown.drew ?_)⟩

set_option maxHeartbeats 1000000 in
theorem nsca_any (a n:Int) (w:World) (a0:0≤a) (a1:a≤4294967295) (n0:-9223372036854775808≤n) (n1:n≤9223372036854775807):
  Calls Tryz.prog 112 #[.int .u32 a,.int .i64 n] w fun e w'=>e=.returned (.int .u32 (scaV a n))∧0≤scaV a n∧scaV a n≤4294967295∧Grown w w':=by
 obtain ⟨V,hV⟩:∃ V,scaV a n=V:=⟨_,rfl⟩
 obtain ⟨q1,q2,q3,q4,q5,hs,h0,h1⟩:=op_val (sca_shapeE 2 0 a n a0 a1) hV
 rw [hV]
 have HS:=Lib.hid hs
 clear hs hV
 go_enter Tryz.func112,Tryz.ntmps112
 go_wp2_with fail
 refine (rscale_any 2 0 a n _ a0 a1 n0 n1).mono ?_
 rintro e W1 ⟨he,hW1⟩
 rw [HS.out] at he
 subst he
 have HG:=Lib.hid hW1
 clear hW1
 go_wp2
 go_ret
 exact ⟨rfl,h0,h1,by repeat (first | with_reducible exact HG.out | with_reducible refine Grown.setCell ?_ (by simp <;> omega) _ | with_reducible refine Grown.alloc ?_ _ _ | with_reducible refine grown_more ?_ _ | with_reducible refine Grown.drew ?_)⟩

set_option maxHeartbeats 1000000 in
theorem nneg_any (a:Int) (w:World) (a0:0≤a) (a1:a≤4294967295):
  Calls Tryz.prog 74 #[.int .u32 a] w fun e w'=>e=.returned (.int .u32 (negV a))∧0≤negV a∧negV a≤4294967295∧Grown w w':=by
 have hb:=min_bd 2 a a0 a1
 go_enter Tryz.func74,Tryz.ntmps74
 go_wp2_with (go_at_call 114;refine (rminus_any 2 a _ a0 a1).mono ?_;rintro e W1 ⟨rfl,hW1⟩)
 go_ret
 exact ⟨rfl,hb.1,hb.2,hW1⟩

set_option maxHeartbeats 1000000 in
theorem nnan_any (a:Int) (w:World) (a0:0≤a) (a1:a≤4294967295):
  Calls Tryz.prog 33 #[.int .u32 a] w fun e w'=>e=.returned (.bool (nanB 2 a))∧Grown w w':=by
 obtain ⟨C,hC⟩:∃ C,clsI 2 a=C:=⟨_,rfl⟩
 have HB:=Lib.hid (show nanB 2 a=(C==4 || C==5) by unfold nanB;rw [hC])
 have HC:=Lib.hid (show Ending.returned (.int .i64 (clsI 2 a))=.returned (.int .i64 C) by rw [hC])
 clear hC
 go_enter Tryz.func33,Tryz.ntmps33
 by_cases c4:C=4
 ·subst c4
  go_wp2_with (go_at_call 24;refine (rclass_any _ _ _ a0 a1).mono ?_;rintro e w' ⟨he,dm,rfl⟩;rw [HC.out] at he;subst he)
  go_ret
  exact ⟨by rw [HB.out];rfl,grown_drewN _ _⟩
 ·by_cases c5:C=5
  ·subst c5
   go_wp2_with (go_at_call 24;refine (rclass_any _ _ _ a0 a1).mono ?_;rintro e w' ⟨he,dm,rfl⟩;rw [HC.out] at he;subst he)
   go_ret
   exact ⟨by rw [HB.out];rfl,grown_drewN _ _⟩
  ·have d4:(C==4)=false:=by simpa using c4
   have d5:(C==5)=false:=by simpa using c5
   go_wp2_with (go_at_call 24;refine (rclass_any _ _ _ a0 a1).mono ?_;rintro e w' ⟨he,dm,rfl⟩;rw [HC.out] at he;subst he)
   go_ret
   exact ⟨by rw [HB.out,d4,d5];rfl,grown_drewN _ _⟩

set_option maxHeartbeats 1000000 in
theorem nabo_any (a b:Int) (w:World) (a0:0≤a) (a1:a≤4294967295) (b0:0≤b) (b1:b≤4294967295):
  Calls Tryz.prog 25 #[.int .u32 a,.int .u32 b] w fun e w'=>e=.returned (.bool (lesB 2 b a))∧Grown w w':=by
 go_enter Tryz.func25,Tryz.ntmps25
 go_wp2_with (go_at_call 58;refine (rless_any 2 b a _ b0 b1 a0 a1).mono ?_;rintro e W1 ⟨rfl,hW1⟩)
 go_ret
 exact ⟨rfl,hW1⟩

set_option maxHeartbeats 4000000 in
theorem nalong6_any (p r c0 c1 c2 c3 c4 c5:Int) (b:Nat) (w:World) (p0:0≤p) (p1:p≤4294967295) (r0:0≤r) (r1:r≤4294967295) (c00:0≤c0) (c01:c0≤4294967295) (c10:0≤c1) (c11:c1≤4294967295) (c20:0≤c2) (c21:c2≤4294967295) (c30:0≤c3) (c31:c3≤4294967295) (c40:0≤c4) (c41:c4≤4294967295) (c50:0≤c5) (c51:c5≤4294967295) (hc:CellsAt b [.int .u32 c0,.int .u32 c1,.int .u32 c2,.int .u32 c3,.int .u32 c4,.int .u32 c5] w):
  Calls Tryz.prog 113 #[.int .u32 p,.int .u32 r,.slice (some ⟨b,0,none⟩) 6 6] w fun e w'=>e=.returned (.int .u32 (alongV p r [c0,c1,c2,c3,c4,c5]))∧0≤alongV p r [c0,c1,c2,c3,c4,c5]∧alongV p r [c0,c1,c2,c3,c4,c5]≤4294967295∧Grown w w':=by
 have HC:=Lib.hid hc
 have HG:=Lib.hid (Grown.refl w)
 have y0:w.cell? ⟨b,0,none⟩=some (.int .u32 c0):=hc.cell 0 (by simp)
 have y1:w.cell? ⟨b,1,none⟩=some (.int .u32 c1):=hc.cell 1 (by simp)
 have y2:w.cell? ⟨b,2,none⟩=some (.int .u32 c2):=hc.cell 2 (by simp)
 have y3:w.cell? ⟨b,3,none⟩=some (.int .u32 c3):=hc.cell 3 (by simp)
 have y4:w.cell? ⟨b,4,none⟩=some (.int .u32 c4):=hc.cell 4 (by simp)
 have y5:w.cell? ⟨b,5,none⟩=some (.int .u32 c5):=hc.cell 5 (by simp)
 clear hc
 go_enter Tryz.func113,Tryz.ntmps113
 go_wp2
 refine wp_loop_rounds 7 ?_
 repeat any_goals (rw [rounds_succ];go_wp2_with (go_at_call 78;refine (nfma_any _ _ _ _ (by omega) (by omega) (by omega) (by omega) (by omega) (by omega)).mono ?_;rintro e W1 ⟨rfl,h0,h1,hW1⟩;replace HG:=Lib.hid (grown_trans HG.out hW1);replace HC:=Lib.hid (HC.out.grown hW1);clear hW1;have y0:W1.cell? ⟨b,0,none⟩=some (.int .u32 c0):=HC.out.cell 0 (by simp);have y1:W1.cell? ⟨b,1,none⟩=some (.int .u32 c1):=HC.out.cell 1 (by simp);have y2:W1.cell? ⟨b,2,none⟩=some (.int .u32 c2):=HC.out.cell 2 (by simp);have y3:W1.cell? ⟨b,3,none⟩=some (.int .u32 c3):=HC.out.cell 3 (by simp);have y4:W1.cell? ⟨b,4,none⟩=some (.int .u32 c4):=HC.out.cell 4 (by simp);have y5:W1.cell? ⟨b,5,none⟩=some (.int .u32 c5):=HC.out.cell 5 (by simp)))
 go_ret
 exact ⟨rfl,h0,h1,HG.out⟩

theorem abs_code (x:Int) (x0:0≤x) (x1:x≤4294967295):bits .andNot .u32 x 2147483648=absI x:=by
 have h:=no_sign 2 x x0 x1
 rw [low_is 2 x x0 (by rw [show msk 2=4294967295 by rfl];exact x1)] at h
 exact h

set_option maxRecDepth 100000 in
set_option maxHeartbeats 4000000 in
theorem nexp_any (x:Int) (w:World) (x0:0≤x) (x1:x≤4294967295):
  Calls Tryz.prog 73 #[.int .u32 x] w fun e w'=>e=.returned (.int .u32 (expI x))∧0≤expI x∧expI x≤4294967295∧Grown w w':=by
 have HG:=Lib.hid (Grown.refl w)
 obtain ⟨NN,hN⟩:∃ NN,nanB 2 x=NN:=⟨_,rfl⟩
 have HN:=Lib.hid (show Ending.returned (.bool (nanB 2 x))=.returned (.bool NN) by rw [hN])
 obtain ⟨A1,hA⟩:∃ A1,lesB 2 1118925336 x=A1:=⟨_,rfl⟩
 obtain ⟨B1,hB⟩:∃ B1,lesB 2 x 3268407733=B1:=⟨_,rfl⟩
 have HA:=Lib.hid (show Ending.returned (.bool (lesB 2 1118925336 x))=.returned (.bool A1) by rw [hA])
 have HB:=Lib.hid (show Ending.returned (.bool (lesB 2 x 3268407733))=.returned (.bool B1) by rw [hB])
 obtain ⟨N,hNN⟩:∃ N,expN x=N:=⟨_,rfl⟩
 obtain ⟨q1,q2,q3,q4,q5,ht,n0,n1⟩:=to_val 2 0 (mulV x 1069066811) (V:=N) hNN
 have HT:=Lib.hid ht
 have HM:=Lib.hid (show expI x=if NN then 2143289344 else if A1 then 2139095040 else if B1 then 0 else scaV (alongV 985008993 (fmaV (negV (frmV N)) 901758606 (fmaV (negV (frmV N)) 1060205056 x)) [1007192201,1026206379,1042983595,1056964608,1065353216,1065353216]) N by
  unfold expI expP expR;rw [hN,hA,hB,hNN])
 clear hN hA hB hNN ht
 have hi:IntKind.i64.wrap N=N:=by rw [IntKind.wrap_i64];omega
 have hi2:wrap64 N=N:=by rw [wrap64_is];exact hi
 cases NN
 case true=>
  have HQ:=HM.out
  simp only [if_true] at HQ
  have HQ2:=Lib.hid HQ
  clear HM HQ
  go_enter Tryz.func73,Tryz.ntmps73
  go_wp2_with (first
   | (go_at_call 33;refine (nnan_any _ _ (by omega) (by omega)).mono ?_;rintro e W1 ⟨he,hW1⟩;rw [HN.out] at he;subst he;replace HG:=Lib.hid (show Grown w W1 from grown_trans (by repeat (first | with_reducible exact HG.out | with_reducible refine Grown.setCell ?_ (by simp <;> omega) _ | with_reducible refine Grown.alloc ?_ _ _ | with_reducible refine grown_more ?_ _ | with_reducible refine Grown.drew ?_)) hW1);clear hW1))
  go_ret
  exact ⟨by rw [HQ2.out];rfl,by rw [HQ2.out];omega,by rw [HQ2.out];omega,HG.out⟩
 case false=>
  cases A1
  case true=>
   have HQ:=HM.out
   simp only [if_true,Bool.false_eq_true,if_false] at HQ
   have HQ2:=Lib.hid HQ
   clear HM HQ
   go_enter Tryz.func73,Tryz.ntmps73
   go_wp2_with (first
    | (go_at_call 33;refine (nnan_any _ _ (by omega) (by omega)).mono ?_;rintro e W1 ⟨he,hW1⟩;rw [HN.out] at he;subst he;replace HG:=Lib.hid (show Grown w W1 from grown_trans (by repeat (first | with_reducible exact HG.out | with_reducible refine Grown.setCell ?_ (by simp <;> omega) _ | with_reducible refine Grown.alloc ?_ _ _ | with_reducible refine grown_more ?_ _ | with_reducible refine Grown.drew ?_)) hW1);clear hW1)
    | (go_at_call 25;refine (nabo_any _ _ _ (by omega) (by omega) (by omega) (by omega)).mono ?_;rintro e W1 ⟨he,hW1⟩;(first | rw [HA.out] at he | rw [HB.out] at he);subst he;replace HG:=Lib.hid (show Grown w W1 from grown_trans (by repeat (first | with_reducible exact HG.out | with_reducible refine Grown.setCell ?_ (by simp <;> omega) _ | with_reducible refine Grown.alloc ?_ _ _ | with_reducible refine grown_more ?_ _ | with_reducible refine Grown.drew ?_)) hW1);clear hW1))
   go_ret
   exact ⟨by rw [HQ2.out];rfl,by rw [HQ2.out];omega,by rw [HQ2.out];omega,HG.out⟩
  case false=>
   cases B1
   case true=>
    have HQ:=HM.out
    simp only [if_true,Bool.false_eq_true,if_false] at HQ
    have HQ2:=Lib.hid HQ
    clear HM HQ
    go_enter Tryz.func73,Tryz.ntmps73
    go_wp2_with (first
     | (go_at_call 33;refine (nnan_any _ _ (by omega) (by omega)).mono ?_;rintro e W1 ⟨he,hW1⟩;rw [HN.out] at he;subst he;replace HG:=Lib.hid (show Grown w W1 from grown_trans (by repeat (first | with_reducible exact HG.out | with_reducible refine Grown.setCell ?_ (by simp <;> omega) _ | with_reducible refine Grown.alloc ?_ _ _ | with_reducible refine grown_more ?_ _ | with_reducible refine Grown.drew ?_)) hW1);clear hW1)
     | (go_at_call 25;refine (nabo_any _ _ _ (by omega) (by omega) (by omega) (by omega)).mono ?_;rintro e W1 ⟨he,hW1⟩;(first | rw [HA.out] at he | rw [HB.out] at he);subst he;replace HG:=Lib.hid (show Grown w W1 from grown_trans (by repeat (first | with_reducible exact HG.out | with_reducible refine Grown.setCell ?_ (by simp <;> omega) _ | with_reducible refine Grown.alloc ?_ _ _ | with_reducible refine grown_more ?_ _ | with_reducible refine Grown.drew ?_)) hW1);clear hW1))
    go_ret
    exact ⟨by rw [HQ2.out];rfl,by rw [HQ2.out];omega,by rw [HQ2.out];omega,HG.out⟩
   case false=>
    have HQ:=HM.out
    simp only [Bool.false_eq_true,if_false] at HQ
    have HQ2:=Lib.hid HQ
    clear HM HQ
    go_enter Tryz.func73,Tryz.ntmps73
    go_wp2_with (first
     | (go_at_call 33;refine (nnan_any _ _ (by omega) (by omega)).mono ?_;rintro e W1 ⟨he,hW1⟩;rw [HN.out] at he;subst he;replace HG:=Lib.hid (show Grown w W1 from grown_trans (by repeat (first | with_reducible exact HG.out | with_reducible refine Grown.setCell ?_ (by simp <;> omega) _ | with_reducible refine Grown.alloc ?_ _ _ | with_reducible refine grown_more ?_ _ | with_reducible refine Grown.drew ?_)) hW1);clear hW1)
     | (go_at_call 25;refine (nabo_any _ _ _ (by omega) (by omega) (by omega) (by omega)).mono ?_;rintro e W1 ⟨he,hW1⟩;(first | rw [HA.out] at he | rw [HB.out] at he);subst he;replace HG:=Lib.hid (show Grown w W1 from grown_trans (by repeat (first | with_reducible exact HG.out | with_reducible refine Grown.setCell ?_ (by simp <;> omega) _ | with_reducible refine Grown.alloc ?_ _ _ | with_reducible refine grown_more ?_ _ | with_reducible refine Grown.drew ?_)) hW1);clear hW1)
     | (go_at_call 111;refine (rtoint_any 2 0 _ _ (by omega) (by omega)).mono ?_;rintro e W1 ⟨he,hW1⟩;rw [HT.out] at he;subst he;replace HG:=Lib.hid (show Grown w W1 from grown_trans (by repeat (first | with_reducible exact HG.out | with_reducible refine Grown.setCell ?_ (by simp <;> omega) _ | with_reducible refine Grown.alloc ?_ _ _ | with_reducible refine grown_more ?_ _ | with_reducible refine Grown.drew ?_)) hW1);clear hW1)
     | (go_at_call 113;refine (nalong6_any _ _ 1007192201 1026206379 1042983595 1056964608 1065353216 1065353216 _ _ (by omega) (by omega) (by omega) (by omega) (by omega) (by omega) (by omega) (by omega) (by omega) (by omega) (by omega) (by omega) (by omega) (by omega) (by omega) (by omega) (cells_new _ [.int .u32 1007192201,.int .u32 1026206379,.int .u32 1042983595,.int .u32 1056964608,.int .u32 1065353216,.int .u32 1065353216] _)).mono ?_;rintro e W1 ⟨rfl,h0,h1,hW1⟩;replace HG:=Lib.hid (show Grown w W1 from grown_trans (by repeat (first | with_reducible exact HG.out | with_reducible refine Grown.setCell ?_ (by simp <;> omega) _ | with_reducible refine Grown.alloc ?_ _ _ | with_reducible refine grown_more ?_ _ | with_reducible refine Grown.drew ?_)) hW1);clear hW1)
     | (go_at_call 78;refine (nfma_any _ _ _ _ (by omega) (by omega) (by omega) (by omega) (by omega) (by omega)).mono ?_;rintro e W1 ⟨rfl,h0,h1,hW1⟩;replace HG:=Lib.hid (show Grown w W1 from grown_trans (by repeat (first | with_reducible exact HG.out | with_reducible refine Grown.setCell ?_ (by simp <;> omega) _ | with_reducible refine Grown.alloc ?_ _ _ | with_reducible refine grown_more ?_ _ | with_reducible refine Grown.drew ?_)) hW1);clear hW1)
     | (go_at_call 72;refine (nadd_any _ _ _ (by omega) (by omega) (by omega) (by omega)).mono ?_;rintro e W1 ⟨rfl,h0,h1,hW1⟩;replace HG:=Lib.hid (show Grown w W1 from grown_trans (by repeat (first | with_reducible exact HG.out | with_reducible refine Grown.setCell ?_ (by simp <;> omega) _ | with_reducible refine Grown.alloc ?_ _ _ | with_reducible refine grown_more ?_ _ | with_reducible refine Grown.drew ?_)) hW1);clear hW1)
     | (go_at_call 37;refine (nsub_any _ _ _ (by omega) (by omega) (by omega) (by omega)).mono ?_;rintro e W1 ⟨rfl,h0,h1,hW1⟩;replace HG:=Lib.hid (show Grown w W1 from grown_trans (by repeat (first | with_reducible exact HG.out | with_reducible refine Grown.setCell ?_ (by simp <;> omega) _ | with_reducible refine Grown.alloc ?_ _ _ | with_reducible refine grown_more ?_ _ | with_reducible refine Grown.drew ?_)) hW1);clear hW1)
     | (go_at_call 38;refine (nmul_any _ _ _ (by omega) (by omega) (by omega) (by omega)).mono ?_;rintro e W1 ⟨rfl,h0,h1,hW1⟩;replace HG:=Lib.hid (show Grown w W1 from grown_trans (by repeat (first | with_reducible exact HG.out | with_reducible refine Grown.setCell ?_ (by simp <;> omega) _ | with_reducible refine Grown.alloc ?_ _ _ | with_reducible refine grown_more ?_ _ | with_reducible refine Grown.drew ?_)) hW1);clear hW1)
     | (go_at_call 55;refine (ndiv_any _ _ _ (by omega) (by omega) (by omega) (by omega)).mono ?_;rintro e W1 ⟨rfl,h0,h1,hW1⟩;replace HG:=Lib.hid (show Grown w W1 from grown_trans (by repeat (first | with_reducible exact HG.out | with_reducible refine Grown.setCell ?_ (by simp <;> omega) _ | with_reducible refine Grown.alloc ?_ _ _ | with_reducible refine grown_more ?_ _ | with_reducible refine Grown.drew ?_)) hW1);clear hW1)
     | (go_at_call 56;refine (nint_any _ _ (by omega) (by omega)).mono ?_;rintro e W1 ⟨rfl,h0,h1,hW1⟩;replace HG:=Lib.hid (show Grown w W1 from grown_trans (by repeat (first | with_reducible exact HG.out | with_reducible refine Grown.setCell ?_ (by simp <;> omega) _ | with_reducible refine Grown.alloc ?_ _ _ | with_reducible refine grown_more ?_ _ | with_reducible refine Grown.drew ?_)) hW1);clear hW1)
     | (go_at_call 112;refine (nsca_any _ _ _ (by omega) (by omega) (by omega) (by omega)).mono ?_;rintro e W1 ⟨rfl,h0,h1,hW1⟩;replace HG:=Lib.hid (show Grown w W1 from grown_trans (by repeat (first | with_reducible exact HG.out | with_reducible refine Grown.setCell ?_ (by simp <;> omega) _ | with_reducible refine Grown.alloc ?_ _ _ | with_reducible refine grown_more ?_ _ | with_reducible refine Grown.drew ?_)) hW1);clear hW1)
     | (go_at_call 74;refine (nneg_any _ _ (by omega) (by omega)).mono ?_;rintro e W1 ⟨rfl,h0,h1,hW1⟩;replace HG:=Lib.hid (show Grown w W1 from grown_trans (by repeat (first | with_reducible exact HG.out | with_reducible refine Grown.setCell ?_ (by simp <;> omega) _ | with_reducible refine Grown.alloc ?_ _ _ | with_reducible refine grown_more ?_ _ | with_reducible refine Grown.drew ?_)) hW1);clear hW1))
    go_ret
    exact ⟨by rw [HQ2.out];rfl,by rw [HQ2.out];omega,by rw [HQ2.out];omega,HG.out⟩

set_option maxRecDepth 100000 in
set_option maxHeartbeats 4000000 in
theorem ninn_any (x:Int) (w:World) (x0:0≤x) (x1:x≤4294967295):
  Calls Tryz.prog 75 #[.int .u32 x] w fun e w'=>e=.returned (.int .u32 (innI x))∧0≤innI x∧innI x≤4294967295∧Grown w w':=by
 have HG:=Lib.hid (Grown.refl w)
 go_enter Tryz.func75,Tryz.ntmps75
 go_wp2_with (first
  | (go_at_call 78;refine (nfma_any _ _ _ _ (by omega) (by omega) (by omega) (by omega) (by omega) (by omega)).mono ?_;rintro e W1 ⟨rfl,h0,h1,hW1⟩;replace HG:=Lib.hid (show Grown w W1 from grown_trans (by repeat (first | with_reducible exact HG.out | with_reducible refine Grown.setCell ?_ (by simp <;> omega) _ | with_reducible refine Grown.alloc ?_ _ _ | with_reducible refine grown_more ?_ _ | with_reducible refine Grown.drew ?_)) hW1);clear hW1)
  | (go_at_call 72;refine (nadd_any _ _ _ (by omega) (by omega) (by omega) (by omega)).mono ?_;rintro e W1 ⟨rfl,h0,h1,hW1⟩;replace HG:=Lib.hid (show Grown w W1 from grown_trans (by repeat (first | with_reducible exact HG.out | with_reducible refine Grown.setCell ?_ (by simp <;> omega) _ | with_reducible refine Grown.alloc ?_ _ _ | with_reducible refine grown_more ?_ _ | with_reducible refine Grown.drew ?_)) hW1);clear hW1)
  | (go_at_call 37;refine (nsub_any _ _ _ (by omega) (by omega) (by omega) (by omega)).mono ?_;rintro e W1 ⟨rfl,h0,h1,hW1⟩;replace HG:=Lib.hid (show Grown w W1 from grown_trans (by repeat (first | with_reducible exact HG.out | with_reducible refine Grown.setCell ?_ (by simp <;> omega) _ | with_reducible refine Grown.alloc ?_ _ _ | with_reducible refine grown_more ?_ _ | with_reducible refine Grown.drew ?_)) hW1);clear hW1)
  | (go_at_call 38;refine (nmul_any _ _ _ (by omega) (by omega) (by omega) (by omega)).mono ?_;rintro e W1 ⟨rfl,h0,h1,hW1⟩;replace HG:=Lib.hid (show Grown w W1 from grown_trans (by repeat (first | with_reducible exact HG.out | with_reducible refine Grown.setCell ?_ (by simp <;> omega) _ | with_reducible refine Grown.alloc ?_ _ _ | with_reducible refine grown_more ?_ _ | with_reducible refine Grown.drew ?_)) hW1);clear hW1)
  | (go_at_call 55;refine (ndiv_any _ _ _ (by omega) (by omega) (by omega) (by omega)).mono ?_;rintro e W1 ⟨rfl,h0,h1,hW1⟩;replace HG:=Lib.hid (show Grown w W1 from grown_trans (by repeat (first | with_reducible exact HG.out | with_reducible refine Grown.setCell ?_ (by simp <;> omega) _ | with_reducible refine Grown.alloc ?_ _ _ | with_reducible refine grown_more ?_ _ | with_reducible refine Grown.drew ?_)) hW1);clear hW1)
  | (go_at_call 56;refine (nint_any _ _ (by omega) (by omega)).mono ?_;rintro e W1 ⟨rfl,h0,h1,hW1⟩;replace HG:=Lib.hid (show Grown w W1 from grown_trans (by repeat (first | with_reducible exact HG.out | with_reducible refine Grown.setCell ?_ (by simp <;> omega) _ | with_reducible refine Grown.alloc ?_ _ _ | with_reducible refine grown_more ?_ _ | with_reducible refine Grown.drew ?_)) hW1);clear hW1)
  | (go_at_call 112;refine (nsca_any _ _ _ (by omega) (by omega) (by omega) (by omega)).mono ?_;rintro e W1 ⟨rfl,h0,h1,hW1⟩;replace HG:=Lib.hid (show Grown w W1 from grown_trans (by repeat (first | with_reducible exact HG.out | with_reducible refine Grown.setCell ?_ (by simp <;> omega) _ | with_reducible refine Grown.alloc ?_ _ _ | with_reducible refine grown_more ?_ _ | with_reducible refine Grown.drew ?_)) hW1);clear hW1)
  | (go_at_call 74;refine (nneg_any _ _ (by omega) (by omega)).mono ?_;rintro e W1 ⟨rfl,h0,h1,hW1⟩;replace HG:=Lib.hid (show Grown w W1 from grown_trans (by repeat (first | with_reducible exact HG.out | with_reducible refine Grown.setCell ?_ (by simp <;> omega) _ | with_reducible refine Grown.alloc ?_ _ _ | with_reducible refine grown_more ?_ _ | with_reducible refine Grown.drew ?_)) hW1);clear hW1))
 go_ret
 exact ⟨rfl,h0,h1,HG.out⟩

set_option maxRecDepth 100000 in
set_option maxHeartbeats 4000000 in
theorem ntan_any (x:Int) (w:World) (x0:0≤x) (x1:x≤4294967295):
  Calls Tryz.prog 35 #[.int .u32 x] w fun e w'=>e=.returned (.int .u32 (tanI x))∧0≤tanI x∧tanI x≤4294967295∧Grown w w':=by
 have HG:=Lib.hid (Grown.refl w)
 obtain ⟨NN,hN⟩:∃ NN,nanB 2 x=NN:=⟨_,rfl⟩
 have HN:=Lib.hid (show Ending.returned (.bool (nanB 2 x))=.returned (.bool NN) by rw [hN])
 obtain ⟨y,hy⟩:∃ y,absI x=y:=⟨_,rfl⟩
 have hyb:0≤y∧y≤2147483647:=by unfold absI at hy;omega
 obtain ⟨y0,y1⟩:=hyb
 have hand:bits .andNot .u32 x 2147483648=y:=by rw [←hy];exact abs_code x x0 x1
 have hsh:(x / 2147483648==1)=decide (2147483648≤x):=by rw [Bool.eq_iff_iff,beq_iff_eq,decide_eq_true_eq];omega
 obtain ⟨A1,hA⟩:∃ A1,lesB 2 1091579060 y=A1:=⟨_,rfl⟩
 have HA:=Lib.hid (show Ending.returned (.bool (lesB 2 1091579060 y))=.returned (.bool A1) by rw [hA])
 have HM:=Lib.hid (show tanI x=if NN then 2143289344 else if y=0 then x else if 2147483648≤x then negV (if A1 then 1065353216 else subV 1065353216 (divV 1073741824 (addV (expI (addV y y)) 1065353216))) else (if A1 then 1065353216 else subV 1065353216 (divV 1073741824 (addV (expI (addV y y)) 1065353216))) by
  unfold tanI tanB;rw [hN,hy,hA])
 clear hN hy hA
 cases NN
 case true=>
  have HQ:=HM.out
  simp only [if_true] at HQ
  have HQ2:=Lib.hid HQ
  clear HM HQ
  go_enter Tryz.func35,Tryz.ntmps35
  go_wp2_with (first
   | (go_at_call 33;refine (nnan_any _ _ (by omega) (by omega)).mono ?_;rintro e W1 ⟨he,hW1⟩;rw [HN.out] at he;subst he;replace HG:=Lib.hid (show Grown w W1 from grown_trans (by repeat (first | with_reducible exact HG.out | with_reducible refine Grown.setCell ?_ (by simp <;> omega) _ | with_reducible refine Grown.alloc ?_ _ _ | with_reducible refine grown_more ?_ _ | with_reducible refine Grown.drew ?_)) hW1);clear hW1))
  go_ret
  exact ⟨by rw [HQ2.out];rfl,by rw [HQ2.out];omega,by rw [HQ2.out];omega,HG.out⟩
 case false=>
  by_cases z:y=0
  ·subst z
   have HQ:=HM.out
   simp only [if_true,Bool.false_eq_true,if_false] at HQ
   have HQ2:=Lib.hid HQ
   clear HM HQ
   go_enter Tryz.func35,Tryz.ntmps35
   go_wp2_with (first
    | (go_at_call 33;refine (nnan_any _ _ (by omega) (by omega)).mono ?_;rintro e W1 ⟨he,hW1⟩;rw [HN.out] at he;subst he;replace HG:=Lib.hid (show Grown w W1 from grown_trans (by repeat (first | with_reducible exact HG.out | with_reducible refine Grown.setCell ?_ (by simp <;> omega) _ | with_reducible refine Grown.alloc ?_ _ _ | with_reducible refine grown_more ?_ _ | with_reducible refine Grown.drew ?_)) hW1);clear hW1))
   go_ret
   exact ⟨by rw [HQ2.out];rfl,by rw [HQ2.out];omega,by rw [HQ2.out];omega,HG.out⟩
  ·by_cases c:2147483648≤x
   ·have hs1:x / 2147483648=1:=by omega
    cases A1
    case true=>
     have HQ:=HM.out
     simp only [z,c,if_true,Bool.false_eq_true,if_false] at HQ
     have HQ2:=Lib.hid HQ
     clear HM HQ
     go_enter Tryz.func35,Tryz.ntmps35
     go_wp2_with (first
      | (go_at_call 33;refine (nnan_any _ _ (by omega) (by omega)).mono ?_;rintro e W1 ⟨he,hW1⟩;rw [HN.out] at he;subst he;replace HG:=Lib.hid (show Grown w W1 from grown_trans (by repeat (first | with_reducible exact HG.out | with_reducible refine Grown.setCell ?_ (by simp <;> omega) _ | with_reducible refine Grown.alloc ?_ _ _ | with_reducible refine grown_more ?_ _ | with_reducible refine Grown.drew ?_)) hW1);clear hW1)
      | (go_at_call 25;refine (nabo_any _ _ _ (by omega) (by omega) (by omega) (by omega)).mono ?_;rintro e W1 ⟨he,hW1⟩;(first | rw [HA.out] at he);subst he;replace HG:=Lib.hid (show Grown w W1 from grown_trans (by repeat (first | with_reducible exact HG.out | with_reducible refine Grown.setCell ?_ (by simp <;> omega) _ | with_reducible refine Grown.alloc ?_ _ _ | with_reducible refine grown_more ?_ _ | with_reducible refine Grown.drew ?_)) hW1);clear hW1)
      | (go_at_call 73;refine (nexp_any _ _ (by omega) (by omega)).mono ?_;rintro e W1 ⟨rfl,h0,h1,hW1⟩;replace HG:=Lib.hid (show Grown w W1 from grown_trans (by repeat (first | with_reducible exact HG.out | with_reducible refine Grown.setCell ?_ (by simp <;> omega) _ | with_reducible refine Grown.alloc ?_ _ _ | with_reducible refine grown_more ?_ _ | with_reducible refine Grown.drew ?_)) hW1);clear hW1)
      | (go_at_call 78;refine (nfma_any _ _ _ _ (by omega) (by omega) (by omega) (by omega) (by omega) (by omega)).mono ?_;rintro e W1 ⟨rfl,h0,h1,hW1⟩;replace HG:=Lib.hid (show Grown w W1 from grown_trans (by repeat (first | with_reducible exact HG.out | with_reducible refine Grown.setCell ?_ (by simp <;> omega) _ | with_reducible refine Grown.alloc ?_ _ _ | with_reducible refine grown_more ?_ _ | with_reducible refine Grown.drew ?_)) hW1);clear hW1)
      | (go_at_call 72;refine (nadd_any _ _ _ (by omega) (by omega) (by omega) (by omega)).mono ?_;rintro e W1 ⟨rfl,h0,h1,hW1⟩;replace HG:=Lib.hid (show Grown w W1 from grown_trans (by repeat (first | with_reducible exact HG.out | with_reducible refine Grown.setCell ?_ (by simp <;> omega) _ | with_reducible refine Grown.alloc ?_ _ _ | with_reducible refine grown_more ?_ _ | with_reducible refine Grown.drew ?_)) hW1);clear hW1)
      | (go_at_call 37;refine (nsub_any _ _ _ (by omega) (by omega) (by omega) (by omega)).mono ?_;rintro e W1 ⟨rfl,h0,h1,hW1⟩;replace HG:=Lib.hid (show Grown w W1 from grown_trans (by repeat (first | with_reducible exact HG.out | with_reducible refine Grown.setCell ?_ (by simp <;> omega) _ | with_reducible refine Grown.alloc ?_ _ _ | with_reducible refine grown_more ?_ _ | with_reducible refine Grown.drew ?_)) hW1);clear hW1)
      | (go_at_call 38;refine (nmul_any _ _ _ (by omega) (by omega) (by omega) (by omega)).mono ?_;rintro e W1 ⟨rfl,h0,h1,hW1⟩;replace HG:=Lib.hid (show Grown w W1 from grown_trans (by repeat (first | with_reducible exact HG.out | with_reducible refine Grown.setCell ?_ (by simp <;> omega) _ | with_reducible refine Grown.alloc ?_ _ _ | with_reducible refine grown_more ?_ _ | with_reducible refine Grown.drew ?_)) hW1);clear hW1)
      | (go_at_call 55;refine (ndiv_any _ _ _ (by omega) (by omega) (by omega) (by omega)).mono ?_;rintro e W1 ⟨rfl,h0,h1,hW1⟩;replace HG:=Lib.hid (show Grown w W1 from grown_trans (by repeat (first | with_reducible exact HG.out | with_reducible refine Grown.setCell ?_ (by simp <;> omega) _ | with_reducible refine Grown.alloc ?_ _ _ | with_reducible refine grown_more ?_ _ | with_reducible refine Grown.drew ?_)) hW1);clear hW1)
      | (go_at_call 56;refine (nint_any _ _ (by omega) (by omega)).mono ?_;rintro e W1 ⟨rfl,h0,h1,hW1⟩;replace HG:=Lib.hid (show Grown w W1 from grown_trans (by repeat (first | with_reducible exact HG.out | with_reducible refine Grown.setCell ?_ (by simp <;> omega) _ | with_reducible refine Grown.alloc ?_ _ _ | with_reducible refine grown_more ?_ _ | with_reducible refine Grown.drew ?_)) hW1);clear hW1)
      | (go_at_call 112;refine (nsca_any _ _ _ (by omega) (by omega) (by omega) (by omega)).mono ?_;rintro e W1 ⟨rfl,h0,h1,hW1⟩;replace HG:=Lib.hid (show Grown w W1 from grown_trans (by repeat (first | with_reducible exact HG.out | with_reducible refine Grown.setCell ?_ (by simp <;> omega) _ | with_reducible refine Grown.alloc ?_ _ _ | with_reducible refine grown_more ?_ _ | with_reducible refine Grown.drew ?_)) hW1);clear hW1)
      | (go_at_call 74;refine (nneg_any _ _ (by omega) (by omega)).mono ?_;rintro e W1 ⟨rfl,h0,h1,hW1⟩;replace HG:=Lib.hid (show Grown w W1 from grown_trans (by repeat (first | with_reducible exact HG.out | with_reducible refine Grown.setCell ?_ (by simp <;> omega) _ | with_reducible refine Grown.alloc ?_ _ _ | with_reducible refine grown_more ?_ _ | with_reducible refine Grown.drew ?_)) hW1);clear hW1))
     go_ret
     exact ⟨by rw [HQ2.out];rfl,by rw [HQ2.out];omega,by rw [HQ2.out];omega,HG.out⟩
    case false=>
     have HQ:=HM.out
     simp only [z,c,if_true,Bool.false_eq_true,if_false] at HQ
     have HQ2:=Lib.hid HQ
     clear HM HQ
     go_enter Tryz.func35,Tryz.ntmps35
     go_wp2_with (first
      | (go_at_call 33;refine (nnan_any _ _ (by omega) (by omega)).mono ?_;rintro e W1 ⟨he,hW1⟩;rw [HN.out] at he;subst he;replace HG:=Lib.hid (show Grown w W1 from grown_trans (by repeat (first | with_reducible exact HG.out | with_reducible refine Grown.setCell ?_ (by simp <;> omega) _ | with_reducible refine Grown.alloc ?_ _ _ | with_reducible refine grown_more ?_ _ | with_reducible refine Grown.drew ?_)) hW1);clear hW1)
      | (go_at_call 25;refine (nabo_any _ _ _ (by omega) (by omega) (by omega) (by omega)).mono ?_;rintro e W1 ⟨he,hW1⟩;(first | rw [HA.out] at he);subst he;replace HG:=Lib.hid (show Grown w W1 from grown_trans (by repeat (first | with_reducible exact HG.out | with_reducible refine Grown.setCell ?_ (by simp <;> omega) _ | with_reducible refine Grown.alloc ?_ _ _ | with_reducible refine grown_more ?_ _ | with_reducible refine Grown.drew ?_)) hW1);clear hW1)
      | (go_at_call 73;refine (nexp_any _ _ (by omega) (by omega)).mono ?_;rintro e W1 ⟨rfl,h0,h1,hW1⟩;replace HG:=Lib.hid (show Grown w W1 from grown_trans (by repeat (first | with_reducible exact HG.out | with_reducible refine Grown.setCell ?_ (by simp <;> omega) _ | with_reducible refine Grown.alloc ?_ _ _ | with_reducible refine grown_more ?_ _ | with_reducible refine Grown.drew ?_)) hW1);clear hW1)
      | (go_at_call 78;refine (nfma_any _ _ _ _ (by omega) (by omega) (by omega) (by omega) (by omega) (by omega)).mono ?_;rintro e W1 ⟨rfl,h0,h1,hW1⟩;replace HG:=Lib.hid (show Grown w W1 from grown_trans (by repeat (first | with_reducible exact HG.out | with_reducible refine Grown.setCell ?_ (by simp <;> omega) _ | with_reducible refine Grown.alloc ?_ _ _ | with_reducible refine grown_more ?_ _ | with_reducible refine Grown.drew ?_)) hW1);clear hW1)
      | (go_at_call 72;refine (nadd_any _ _ _ (by omega) (by omega) (by omega) (by omega)).mono ?_;rintro e W1 ⟨rfl,h0,h1,hW1⟩;replace HG:=Lib.hid (show Grown w W1 from grown_trans (by repeat (first | with_reducible exact HG.out | with_reducible refine Grown.setCell ?_ (by simp <;> omega) _ | with_reducible refine Grown.alloc ?_ _ _ | with_reducible refine grown_more ?_ _ | with_reducible refine Grown.drew ?_)) hW1);clear hW1)
      | (go_at_call 37;refine (nsub_any _ _ _ (by omega) (by omega) (by omega) (by omega)).mono ?_;rintro e W1 ⟨rfl,h0,h1,hW1⟩;replace HG:=Lib.hid (show Grown w W1 from grown_trans (by repeat (first | with_reducible exact HG.out | with_reducible refine Grown.setCell ?_ (by simp <;> omega) _ | with_reducible refine Grown.alloc ?_ _ _ | with_reducible refine grown_more ?_ _ | with_reducible refine Grown.drew ?_)) hW1);clear hW1)
      | (go_at_call 38;refine (nmul_any _ _ _ (by omega) (by omega) (by omega) (by omega)).mono ?_;rintro e W1 ⟨rfl,h0,h1,hW1⟩;replace HG:=Lib.hid (show Grown w W1 from grown_trans (by repeat (first | with_reducible exact HG.out | with_reducible refine Grown.setCell ?_ (by simp <;> omega) _ | with_reducible refine Grown.alloc ?_ _ _ | with_reducible refine grown_more ?_ _ | with_reducible refine Grown.drew ?_)) hW1);clear hW1)
      | (go_at_call 55;refine (ndiv_any _ _ _ (by omega) (by omega) (by omega) (by omega)).mono ?_;rintro e W1 ⟨rfl,h0,h1,hW1⟩;replace HG:=Lib.hid (show Grown w W1 from grown_trans (by repeat (first | with_reducible exact HG.out | with_reducible refine Grown.setCell ?_ (by simp <;> omega) _ | with_reducible refine Grown.alloc ?_ _ _ | with_reducible refine grown_more ?_ _ | with_reducible refine Grown.drew ?_)) hW1);clear hW1)
      | (go_at_call 56;refine (nint_any _ _ (by omega) (by omega)).mono ?_;rintro e W1 ⟨rfl,h0,h1,hW1⟩;replace HG:=Lib.hid (show Grown w W1 from grown_trans (by repeat (first | with_reducible exact HG.out | with_reducible refine Grown.setCell ?_ (by simp <;> omega) _ | with_reducible refine Grown.alloc ?_ _ _ | with_reducible refine grown_more ?_ _ | with_reducible refine Grown.drew ?_)) hW1);clear hW1)
      | (go_at_call 112;refine (nsca_any _ _ _ (by omega) (by omega) (by omega) (by omega)).mono ?_;rintro e W1 ⟨rfl,h0,h1,hW1⟩;replace HG:=Lib.hid (show Grown w W1 from grown_trans (by repeat (first | with_reducible exact HG.out | with_reducible refine Grown.setCell ?_ (by simp <;> omega) _ | with_reducible refine Grown.alloc ?_ _ _ | with_reducible refine grown_more ?_ _ | with_reducible refine Grown.drew ?_)) hW1);clear hW1)
      | (go_at_call 74;refine (nneg_any _ _ (by omega) (by omega)).mono ?_;rintro e W1 ⟨rfl,h0,h1,hW1⟩;replace HG:=Lib.hid (show Grown w W1 from grown_trans (by repeat (first | with_reducible exact HG.out | with_reducible refine Grown.setCell ?_ (by simp <;> omega) _ | with_reducible refine Grown.alloc ?_ _ _ | with_reducible refine grown_more ?_ _ | with_reducible refine Grown.drew ?_)) hW1);clear hW1))
     go_ret
     exact ⟨by rw [HQ2.out];rfl,by rw [HQ2.out];omega,by rw [HQ2.out];omega,HG.out⟩
   ·have hs1:x / 2147483648=0:=by omega
    cases A1
    case true=>
     have HQ:=HM.out
     simp only [z,c,if_true,Bool.false_eq_true,if_false] at HQ
     have HQ2:=Lib.hid HQ
     clear HM HQ
     go_enter Tryz.func35,Tryz.ntmps35
     go_wp2_with (first
      | (go_at_call 33;refine (nnan_any _ _ (by omega) (by omega)).mono ?_;rintro e W1 ⟨he,hW1⟩;rw [HN.out] at he;subst he;replace HG:=Lib.hid (show Grown w W1 from grown_trans (by repeat (first | with_reducible exact HG.out | with_reducible refine Grown.setCell ?_ (by simp <;> omega) _ | with_reducible refine Grown.alloc ?_ _ _ | with_reducible refine grown_more ?_ _ | with_reducible refine Grown.drew ?_)) hW1);clear hW1)
      | (go_at_call 25;refine (nabo_any _ _ _ (by omega) (by omega) (by omega) (by omega)).mono ?_;rintro e W1 ⟨he,hW1⟩;(first | rw [HA.out] at he);subst he;replace HG:=Lib.hid (show Grown w W1 from grown_trans (by repeat (first | with_reducible exact HG.out | with_reducible refine Grown.setCell ?_ (by simp <;> omega) _ | with_reducible refine Grown.alloc ?_ _ _ | with_reducible refine grown_more ?_ _ | with_reducible refine Grown.drew ?_)) hW1);clear hW1)
      | (go_at_call 73;refine (nexp_any _ _ (by omega) (by omega)).mono ?_;rintro e W1 ⟨rfl,h0,h1,hW1⟩;replace HG:=Lib.hid (show Grown w W1 from grown_trans (by repeat (first | with_reducible exact HG.out | with_reducible refine Grown.setCell ?_ (by simp <;> omega) _ | with_reducible refine Grown.alloc ?_ _ _ | with_reducible refine grown_more ?_ _ | with_reducible refine Grown.drew ?_)) hW1);clear hW1)
      | (go_at_call 78;refine (nfma_any _ _ _ _ (by omega) (by omega) (by omega) (by omega) (by omega) (by omega)).mono ?_;rintro e W1 ⟨rfl,h0,h1,hW1⟩;replace HG:=Lib.hid (show Grown w W1 from grown_trans (by repeat (first | with_reducible exact HG.out | with_reducible refine Grown.setCell ?_ (by simp <;> omega) _ | with_reducible refine Grown.alloc ?_ _ _ | with_reducible refine grown_more ?_ _ | with_reducible refine Grown.drew ?_)) hW1);clear hW1)
      | (go_at_call 72;refine (nadd_any _ _ _ (by omega) (by omega) (by omega) (by omega)).mono ?_;rintro e W1 ⟨rfl,h0,h1,hW1⟩;replace HG:=Lib.hid (show Grown w W1 from grown_trans (by repeat (first | with_reducible exact HG.out | with_reducible refine Grown.setCell ?_ (by simp <;> omega) _ | with_reducible refine Grown.alloc ?_ _ _ | with_reducible refine grown_more ?_ _ | with_reducible refine Grown.drew ?_)) hW1);clear hW1)
      | (go_at_call 37;refine (nsub_any _ _ _ (by omega) (by omega) (by omega) (by omega)).mono ?_;rintro e W1 ⟨rfl,h0,h1,hW1⟩;replace HG:=Lib.hid (show Grown w W1 from grown_trans (by repeat (first | with_reducible exact HG.out | with_reducible refine Grown.setCell ?_ (by simp <;> omega) _ | with_reducible refine Grown.alloc ?_ _ _ | with_reducible refine grown_more ?_ _ | with_reducible refine Grown.drew ?_)) hW1);clear hW1)
      | (go_at_call 38;refine (nmul_any _ _ _ (by omega) (by omega) (by omega) (by omega)).mono ?_;rintro e W1 ⟨rfl,h0,h1,hW1⟩;replace HG:=Lib.hid (show Grown w W1 from grown_trans (by repeat (first | with_reducible exact HG.out | with_reducible refine Grown.setCell ?_ (by simp <;> omega) _ | with_reducible refine Grown.alloc ?_ _ _ | with_reducible refine grown_more ?_ _ | with_reducible refine Grown.drew ?_)) hW1);clear hW1)
      | (go_at_call 55;refine (ndiv_any _ _ _ (by omega) (by omega) (by omega) (by omega)).mono ?_;rintro e W1 ⟨rfl,h0,h1,hW1⟩;replace HG:=Lib.hid (show Grown w W1 from grown_trans (by repeat (first | with_reducible exact HG.out | with_reducible refine Grown.setCell ?_ (by simp <;> omega) _ | with_reducible refine Grown.alloc ?_ _ _ | with_reducible refine grown_more ?_ _ | with_reducible refine Grown.drew ?_)) hW1);clear hW1)
      | (go_at_call 56;refine (nint_any _ _ (by omega) (by omega)).mono ?_;rintro e W1 ⟨rfl,h0,h1,hW1⟩;replace HG:=Lib.hid (show Grown w W1 from grown_trans (by repeat (first | with_reducible exact HG.out | with_reducible refine Grown.setCell ?_ (by simp <;> omega) _ | with_reducible refine Grown.alloc ?_ _ _ | with_reducible refine grown_more ?_ _ | with_reducible refine Grown.drew ?_)) hW1);clear hW1)
      | (go_at_call 112;refine (nsca_any _ _ _ (by omega) (by omega) (by omega) (by omega)).mono ?_;rintro e W1 ⟨rfl,h0,h1,hW1⟩;replace HG:=Lib.hid (show Grown w W1 from grown_trans (by repeat (first | with_reducible exact HG.out | with_reducible refine Grown.setCell ?_ (by simp <;> omega) _ | with_reducible refine Grown.alloc ?_ _ _ | with_reducible refine grown_more ?_ _ | with_reducible refine Grown.drew ?_)) hW1);clear hW1)
      | (go_at_call 74;refine (nneg_any _ _ (by omega) (by omega)).mono ?_;rintro e W1 ⟨rfl,h0,h1,hW1⟩;replace HG:=Lib.hid (show Grown w W1 from grown_trans (by repeat (first | with_reducible exact HG.out | with_reducible refine Grown.setCell ?_ (by simp <;> omega) _ | with_reducible refine Grown.alloc ?_ _ _ | with_reducible refine grown_more ?_ _ | with_reducible refine Grown.drew ?_)) hW1);clear hW1))
     go_ret
     exact ⟨by rw [HQ2.out];rfl,by rw [HQ2.out];omega,by rw [HQ2.out];omega,HG.out⟩
    case false=>
     have HQ:=HM.out
     simp only [z,c,if_true,Bool.false_eq_true,if_false] at HQ
     have HQ2:=Lib.hid HQ
     clear HM HQ
     go_enter Tryz.func35,Tryz.ntmps35
     go_wp2_with (first
      | (go_at_call 33;refine (nnan_any _ _ (by omega) (by omega)).mono ?_;rintro e W1 ⟨he,hW1⟩;rw [HN.out] at he;subst he;replace HG:=Lib.hid (show Grown w W1 from grown_trans (by repeat (first | with_reducible exact HG.out | with_reducible refine Grown.setCell ?_ (by simp <;> omega) _ | with_reducible refine Grown.alloc ?_ _ _ | with_reducible refine grown_more ?_ _ | with_reducible refine Grown.drew ?_)) hW1);clear hW1)
      | (go_at_call 25;refine (nabo_any _ _ _ (by omega) (by omega) (by omega) (by omega)).mono ?_;rintro e W1 ⟨he,hW1⟩;(first | rw [HA.out] at he);subst he;replace HG:=Lib.hid (show Grown w W1 from grown_trans (by repeat (first | with_reducible exact HG.out | with_reducible refine Grown.setCell ?_ (by simp <;> omega) _ | with_reducible refine Grown.alloc ?_ _ _ | with_reducible refine grown_more ?_ _ | with_reducible refine Grown.drew ?_)) hW1);clear hW1)
      | (go_at_call 73;refine (nexp_any _ _ (by omega) (by omega)).mono ?_;rintro e W1 ⟨rfl,h0,h1,hW1⟩;replace HG:=Lib.hid (show Grown w W1 from grown_trans (by repeat (first | with_reducible exact HG.out | with_reducible refine Grown.setCell ?_ (by simp <;> omega) _ | with_reducible refine Grown.alloc ?_ _ _ | with_reducible refine grown_more ?_ _ | with_reducible refine Grown.drew ?_)) hW1);clear hW1)
      | (go_at_call 78;refine (nfma_any _ _ _ _ (by omega) (by omega) (by omega) (by omega) (by omega) (by omega)).mono ?_;rintro e W1 ⟨rfl,h0,h1,hW1⟩;replace HG:=Lib.hid (show Grown w W1 from grown_trans (by repeat (first | with_reducible exact HG.out | with_reducible refine Grown.setCell ?_ (by simp <;> omega) _ | with_reducible refine Grown.alloc ?_ _ _ | with_reducible refine grown_more ?_ _ | with_reducible refine Grown.drew ?_)) hW1);clear hW1)
      | (go_at_call 72;refine (nadd_any _ _ _ (by omega) (by omega) (by omega) (by omega)).mono ?_;rintro e W1 ⟨rfl,h0,h1,hW1⟩;replace HG:=Lib.hid (show Grown w W1 from grown_trans (by repeat (first | with_reducible exact HG.out | with_reducible refine Grown.setCell ?_ (by simp <;> omega) _ | with_reducible refine Grown.alloc ?_ _ _ | with_reducible refine grown_more ?_ _ | with_reducible refine Grown.drew ?_)) hW1);clear hW1)
      | (go_at_call 37;refine (nsub_any _ _ _ (by omega) (by omega) (by omega) (by omega)).mono ?_;rintro e W1 ⟨rfl,h0,h1,hW1⟩;replace HG:=Lib.hid (show Grown w W1 from grown_trans (by repeat (first | with_reducible exact HG.out | with_reducible refine Grown.setCell ?_ (by simp <;> omega) _ | with_reducible refine Grown.alloc ?_ _ _ | with_reducible refine grown_more ?_ _ | with_reducible refine Grown.drew ?_)) hW1);clear hW1)
      | (go_at_call 38;refine (nmul_any _ _ _ (by omega) (by omega) (by omega) (by omega)).mono ?_;rintro e W1 ⟨rfl,h0,h1,hW1⟩;replace HG:=Lib.hid (show Grown w W1 from grown_trans (by repeat (first | with_reducible exact HG.out | with_reducible refine Grown.setCell ?_ (by simp <;> omega) _ | with_reducible refine Grown.alloc ?_ _ _ | with_reducible refine grown_more ?_ _ | with_reducible refine Grown.drew ?_)) hW1);clear hW1)
      | (go_at_call 55;refine (ndiv_any _ _ _ (by omega) (by omega) (by omega) (by omega)).mono ?_;rintro e W1 ⟨rfl,h0,h1,hW1⟩;replace HG:=Lib.hid (show Grown w W1 from grown_trans (by repeat (first | with_reducible exact HG.out | with_reducible refine Grown.setCell ?_ (by simp <;> omega) _ | with_reducible refine Grown.alloc ?_ _ _ | with_reducible refine grown_more ?_ _ | with_reducible refine Grown.drew ?_)) hW1);clear hW1)
      | (go_at_call 56;refine (nint_any _ _ (by omega) (by omega)).mono ?_;rintro e W1 ⟨rfl,h0,h1,hW1⟩;replace HG:=Lib.hid (show Grown w W1 from grown_trans (by repeat (first | with_reducible exact HG.out | with_reducible refine Grown.setCell ?_ (by simp <;> omega) _ | with_reducible refine Grown.alloc ?_ _ _ | with_reducible refine grown_more ?_ _ | with_reducible refine Grown.drew ?_)) hW1);clear hW1)
      | (go_at_call 112;refine (nsca_any _ _ _ (by omega) (by omega) (by omega) (by omega)).mono ?_;rintro e W1 ⟨rfl,h0,h1,hW1⟩;replace HG:=Lib.hid (show Grown w W1 from grown_trans (by repeat (first | with_reducible exact HG.out | with_reducible refine Grown.setCell ?_ (by simp <;> omega) _ | with_reducible refine Grown.alloc ?_ _ _ | with_reducible refine grown_more ?_ _ | with_reducible refine Grown.drew ?_)) hW1);clear hW1)
      | (go_at_call 74;refine (nneg_any _ _ (by omega) (by omega)).mono ?_;rintro e W1 ⟨rfl,h0,h1,hW1⟩;replace HG:=Lib.hid (show Grown w W1 from grown_trans (by repeat (first | with_reducible exact HG.out | with_reducible refine Grown.setCell ?_ (by simp <;> omega) _ | with_reducible refine Grown.alloc ?_ _ _ | with_reducible refine grown_more ?_ _ | with_reducible refine Grown.drew ?_)) hW1);clear hW1))
     go_ret
     exact ⟨by rw [HQ2.out];rfl,by rw [HQ2.out];omega,by rw [HQ2.out];omega,HG.out⟩

set_option maxRecDepth 100000 in
set_option maxHeartbeats 4000000 in
theorem ngel_any (x:Int) (w:World) (x0:0≤x) (x1:x≤4294967295):
  Calls Tryz.prog 36 #[.int .u32 x] w fun e w'=>e=.returned (.int .u32 (gelI x))∧0≤gelI x∧gelI x≤4294967295∧Grown w w':=by
 have HG:=Lib.hid (Grown.refl w)
 obtain ⟨NN,hN⟩:∃ NN,nanB 2 x=NN:=⟨_,rfl⟩
 have HN:=Lib.hid (show Ending.returned (.bool (nanB 2 x))=.returned (.bool NN) by rw [hN])
 have HM:=Lib.hid (show gelI x=if NN then 2143289344 else mulV (mulV 1056964608 x) (addV 1065353216 (tanI (innI x))) by unfold gelI;first | (rw [hN];done) | (unfold cosY;rw [hN]))
 clear hN
 cases NN
 case true=>
  have HQ:=HM.out
  simp only [if_true] at HQ
  have HQ2:=Lib.hid HQ
  clear HM HQ
  go_enter Tryz.func36,Tryz.ntmps36
  go_wp2_with (first
   | (go_at_call 33;refine (nnan_any _ _ (by omega) (by omega)).mono ?_;rintro e W1 ⟨he,hW1⟩;rw [HN.out] at he;subst he;replace HG:=Lib.hid (show Grown w W1 from grown_trans (by repeat (first | with_reducible exact HG.out | with_reducible refine Grown.setCell ?_ (by simp <;> omega) _ | with_reducible refine Grown.alloc ?_ _ _ | with_reducible refine grown_more ?_ _ | with_reducible refine Grown.drew ?_)) hW1);clear hW1))
  go_ret
  exact ⟨by rw [HQ2.out];rfl,by rw [HQ2.out];omega,by rw [HQ2.out];omega,HG.out⟩
 case false=>
  have HQ:=HM.out
  simp only [Bool.false_eq_true,if_false] at HQ
  have HQ2:=Lib.hid HQ
  clear HM HQ
  go_enter Tryz.func36,Tryz.ntmps36
  go_wp2_with (first
   | (go_at_call 33;refine (nnan_any _ _ (by omega) (by omega)).mono ?_;rintro e W1 ⟨he,hW1⟩;rw [HN.out] at he;subst he;replace HG:=Lib.hid (show Grown w W1 from grown_trans (by repeat (first | with_reducible exact HG.out | with_reducible refine Grown.setCell ?_ (by simp <;> omega) _ | with_reducible refine Grown.alloc ?_ _ _ | with_reducible refine grown_more ?_ _ | with_reducible refine Grown.drew ?_)) hW1);clear hW1)
   | (go_at_call 35;refine (ntan_any _ _ (by omega) (by omega)).mono ?_;rintro e W1 ⟨rfl,h0,h1,hW1⟩;replace HG:=Lib.hid (show Grown w W1 from grown_trans (by repeat (first | with_reducible exact HG.out | with_reducible refine Grown.setCell ?_ (by simp <;> omega) _ | with_reducible refine Grown.alloc ?_ _ _ | with_reducible refine grown_more ?_ _ | with_reducible refine Grown.drew ?_)) hW1);clear hW1)
   | (go_at_call 75;refine (ninn_any _ _ (by omega) (by omega)).mono ?_;rintro e W1 ⟨rfl,h0,h1,hW1⟩;replace HG:=Lib.hid (show Grown w W1 from grown_trans (by repeat (first | with_reducible exact HG.out | with_reducible refine Grown.setCell ?_ (by simp <;> omega) _ | with_reducible refine Grown.alloc ?_ _ _ | with_reducible refine grown_more ?_ _ | with_reducible refine Grown.drew ?_)) hW1);clear hW1)
   | (go_at_call 78;refine (nfma_any _ _ _ _ (by omega) (by omega) (by omega) (by omega) (by omega) (by omega)).mono ?_;rintro e W1 ⟨rfl,h0,h1,hW1⟩;replace HG:=Lib.hid (show Grown w W1 from grown_trans (by repeat (first | with_reducible exact HG.out | with_reducible refine Grown.setCell ?_ (by simp <;> omega) _ | with_reducible refine Grown.alloc ?_ _ _ | with_reducible refine grown_more ?_ _ | with_reducible refine Grown.drew ?_)) hW1);clear hW1)
   | (go_at_call 72;refine (nadd_any _ _ _ (by omega) (by omega) (by omega) (by omega)).mono ?_;rintro e W1 ⟨rfl,h0,h1,hW1⟩;replace HG:=Lib.hid (show Grown w W1 from grown_trans (by repeat (first | with_reducible exact HG.out | with_reducible refine Grown.setCell ?_ (by simp <;> omega) _ | with_reducible refine Grown.alloc ?_ _ _ | with_reducible refine grown_more ?_ _ | with_reducible refine Grown.drew ?_)) hW1);clear hW1)
   | (go_at_call 37;refine (nsub_any _ _ _ (by omega) (by omega) (by omega) (by omega)).mono ?_;rintro e W1 ⟨rfl,h0,h1,hW1⟩;replace HG:=Lib.hid (show Grown w W1 from grown_trans (by repeat (first | with_reducible exact HG.out | with_reducible refine Grown.setCell ?_ (by simp <;> omega) _ | with_reducible refine Grown.alloc ?_ _ _ | with_reducible refine grown_more ?_ _ | with_reducible refine Grown.drew ?_)) hW1);clear hW1)
   | (go_at_call 38;refine (nmul_any _ _ _ (by omega) (by omega) (by omega) (by omega)).mono ?_;rintro e W1 ⟨rfl,h0,h1,hW1⟩;replace HG:=Lib.hid (show Grown w W1 from grown_trans (by repeat (first | with_reducible exact HG.out | with_reducible refine Grown.setCell ?_ (by simp <;> omega) _ | with_reducible refine Grown.alloc ?_ _ _ | with_reducible refine grown_more ?_ _ | with_reducible refine Grown.drew ?_)) hW1);clear hW1)
   | (go_at_call 55;refine (ndiv_any _ _ _ (by omega) (by omega) (by omega) (by omega)).mono ?_;rintro e W1 ⟨rfl,h0,h1,hW1⟩;replace HG:=Lib.hid (show Grown w W1 from grown_trans (by repeat (first | with_reducible exact HG.out | with_reducible refine Grown.setCell ?_ (by simp <;> omega) _ | with_reducible refine Grown.alloc ?_ _ _ | with_reducible refine grown_more ?_ _ | with_reducible refine Grown.drew ?_)) hW1);clear hW1)
   | (go_at_call 56;refine (nint_any _ _ (by omega) (by omega)).mono ?_;rintro e W1 ⟨rfl,h0,h1,hW1⟩;replace HG:=Lib.hid (show Grown w W1 from grown_trans (by repeat (first | with_reducible exact HG.out | with_reducible refine Grown.setCell ?_ (by simp <;> omega) _ | with_reducible refine Grown.alloc ?_ _ _ | with_reducible refine grown_more ?_ _ | with_reducible refine Grown.drew ?_)) hW1);clear hW1)
   | (go_at_call 112;refine (nsca_any _ _ _ (by omega) (by omega) (by omega) (by omega)).mono ?_;rintro e W1 ⟨rfl,h0,h1,hW1⟩;replace HG:=Lib.hid (show Grown w W1 from grown_trans (by repeat (first | with_reducible exact HG.out | with_reducible refine Grown.setCell ?_ (by simp <;> omega) _ | with_reducible refine Grown.alloc ?_ _ _ | with_reducible refine grown_more ?_ _ | with_reducible refine Grown.drew ?_)) hW1);clear hW1)
   | (go_at_call 74;refine (nneg_any _ _ (by omega) (by omega)).mono ?_;rintro e W1 ⟨rfl,h0,h1,hW1⟩;replace HG:=Lib.hid (show Grown w W1 from grown_trans (by repeat (first | with_reducible exact HG.out | with_reducible refine Grown.setCell ?_ (by simp <;> omega) _ | with_reducible refine Grown.alloc ?_ _ _ | with_reducible refine grown_more ?_ _ | with_reducible refine Grown.drew ?_)) hW1);clear hW1))
  go_ret
  exact ⟨by rw [HQ2.out];rfl,by rw [HQ2.out];omega,by rw [HQ2.out];omega,HG.out⟩

set_option maxRecDepth 100000 in
set_option maxHeartbeats 4000000 in
theorem nslo_any (x:Int) (w:World) (x0:0≤x) (x1:x≤4294967295):
  Calls Tryz.prog 39 #[.int .u32 x] w fun e w'=>e=.returned (.int .u32 (sloI x))∧0≤sloI x∧sloI x≤4294967295∧Grown w w':=by
 have HG:=Lib.hid (Grown.refl w)
 obtain ⟨NN,hN⟩:∃ NN,nanB 2 x=NN:=⟨_,rfl⟩
 have HN:=Lib.hid (show Ending.returned (.bool (nanB 2 x))=.returned (.bool NN) by rw [hN])
 have HM:=Lib.hid (show sloI x=if NN then 2143289344 else fmaV (mulV (mulV 1056964608 x) (subV 1065353216 (mulV (tanI (innI x)) (tanI (innI x))))) (mulV 1061962282 (fmaV 1040801103 (mulV x x) 1065353216)) (mulV 1056964608 (addV 1065353216 (tanI (innI x)))) by unfold sloI;first | (rw [hN];done) | (unfold cosY;rw [hN]))
 clear hN
 cases NN
 case true=>
  have HQ:=HM.out
  simp only [if_true] at HQ
  have HQ2:=Lib.hid HQ
  clear HM HQ
  go_enter Tryz.func39,Tryz.ntmps39
  go_wp2_with (first
   | (go_at_call 33;refine (nnan_any _ _ (by omega) (by omega)).mono ?_;rintro e W1 ⟨he,hW1⟩;rw [HN.out] at he;subst he;replace HG:=Lib.hid (show Grown w W1 from grown_trans (by repeat (first | with_reducible exact HG.out | with_reducible refine Grown.setCell ?_ (by simp <;> omega) _ | with_reducible refine Grown.alloc ?_ _ _ | with_reducible refine grown_more ?_ _ | with_reducible refine Grown.drew ?_)) hW1);clear hW1))
  go_ret
  exact ⟨by rw [HQ2.out];rfl,by rw [HQ2.out];omega,by rw [HQ2.out];omega,HG.out⟩
 case false=>
  have HQ:=HM.out
  simp only [Bool.false_eq_true,if_false] at HQ
  have HQ2:=Lib.hid HQ
  clear HM HQ
  go_enter Tryz.func39,Tryz.ntmps39
  go_wp2_with (first
   | (go_at_call 33;refine (nnan_any _ _ (by omega) (by omega)).mono ?_;rintro e W1 ⟨he,hW1⟩;rw [HN.out] at he;subst he;replace HG:=Lib.hid (show Grown w W1 from grown_trans (by repeat (first | with_reducible exact HG.out | with_reducible refine Grown.setCell ?_ (by simp <;> omega) _ | with_reducible refine Grown.alloc ?_ _ _ | with_reducible refine grown_more ?_ _ | with_reducible refine Grown.drew ?_)) hW1);clear hW1)
   | (go_at_call 35;refine (ntan_any _ _ (by omega) (by omega)).mono ?_;rintro e W1 ⟨rfl,h0,h1,hW1⟩;replace HG:=Lib.hid (show Grown w W1 from grown_trans (by repeat (first | with_reducible exact HG.out | with_reducible refine Grown.setCell ?_ (by simp <;> omega) _ | with_reducible refine Grown.alloc ?_ _ _ | with_reducible refine grown_more ?_ _ | with_reducible refine Grown.drew ?_)) hW1);clear hW1)
   | (go_at_call 75;refine (ninn_any _ _ (by omega) (by omega)).mono ?_;rintro e W1 ⟨rfl,h0,h1,hW1⟩;replace HG:=Lib.hid (show Grown w W1 from grown_trans (by repeat (first | with_reducible exact HG.out | with_reducible refine Grown.setCell ?_ (by simp <;> omega) _ | with_reducible refine Grown.alloc ?_ _ _ | with_reducible refine grown_more ?_ _ | with_reducible refine Grown.drew ?_)) hW1);clear hW1)
   | (go_at_call 78;refine (nfma_any _ _ _ _ (by omega) (by omega) (by omega) (by omega) (by omega) (by omega)).mono ?_;rintro e W1 ⟨rfl,h0,h1,hW1⟩;replace HG:=Lib.hid (show Grown w W1 from grown_trans (by repeat (first | with_reducible exact HG.out | with_reducible refine Grown.setCell ?_ (by simp <;> omega) _ | with_reducible refine Grown.alloc ?_ _ _ | with_reducible refine grown_more ?_ _ | with_reducible refine Grown.drew ?_)) hW1);clear hW1)
   | (go_at_call 72;refine (nadd_any _ _ _ (by omega) (by omega) (by omega) (by omega)).mono ?_;rintro e W1 ⟨rfl,h0,h1,hW1⟩;replace HG:=Lib.hid (show Grown w W1 from grown_trans (by repeat (first | with_reducible exact HG.out | with_reducible refine Grown.setCell ?_ (by simp <;> omega) _ | with_reducible refine Grown.alloc ?_ _ _ | with_reducible refine grown_more ?_ _ | with_reducible refine Grown.drew ?_)) hW1);clear hW1)
   | (go_at_call 37;refine (nsub_any _ _ _ (by omega) (by omega) (by omega) (by omega)).mono ?_;rintro e W1 ⟨rfl,h0,h1,hW1⟩;replace HG:=Lib.hid (show Grown w W1 from grown_trans (by repeat (first | with_reducible exact HG.out | with_reducible refine Grown.setCell ?_ (by simp <;> omega) _ | with_reducible refine Grown.alloc ?_ _ _ | with_reducible refine grown_more ?_ _ | with_reducible refine Grown.drew ?_)) hW1);clear hW1)
   | (go_at_call 38;refine (nmul_any _ _ _ (by omega) (by omega) (by omega) (by omega)).mono ?_;rintro e W1 ⟨rfl,h0,h1,hW1⟩;replace HG:=Lib.hid (show Grown w W1 from grown_trans (by repeat (first | with_reducible exact HG.out | with_reducible refine Grown.setCell ?_ (by simp <;> omega) _ | with_reducible refine Grown.alloc ?_ _ _ | with_reducible refine grown_more ?_ _ | with_reducible refine Grown.drew ?_)) hW1);clear hW1)
   | (go_at_call 55;refine (ndiv_any _ _ _ (by omega) (by omega) (by omega) (by omega)).mono ?_;rintro e W1 ⟨rfl,h0,h1,hW1⟩;replace HG:=Lib.hid (show Grown w W1 from grown_trans (by repeat (first | with_reducible exact HG.out | with_reducible refine Grown.setCell ?_ (by simp <;> omega) _ | with_reducible refine Grown.alloc ?_ _ _ | with_reducible refine grown_more ?_ _ | with_reducible refine Grown.drew ?_)) hW1);clear hW1)
   | (go_at_call 56;refine (nint_any _ _ (by omega) (by omega)).mono ?_;rintro e W1 ⟨rfl,h0,h1,hW1⟩;replace HG:=Lib.hid (show Grown w W1 from grown_trans (by repeat (first | with_reducible exact HG.out | with_reducible refine Grown.setCell ?_ (by simp <;> omega) _ | with_reducible refine Grown.alloc ?_ _ _ | with_reducible refine grown_more ?_ _ | with_reducible refine Grown.drew ?_)) hW1);clear hW1)
   | (go_at_call 112;refine (nsca_any _ _ _ (by omega) (by omega) (by omega) (by omega)).mono ?_;rintro e W1 ⟨rfl,h0,h1,hW1⟩;replace HG:=Lib.hid (show Grown w W1 from grown_trans (by repeat (first | with_reducible exact HG.out | with_reducible refine Grown.setCell ?_ (by simp <;> omega) _ | with_reducible refine Grown.alloc ?_ _ _ | with_reducible refine grown_more ?_ _ | with_reducible refine Grown.drew ?_)) hW1);clear hW1)
   | (go_at_call 74;refine (nneg_any _ _ (by omega) (by omega)).mono ?_;rintro e W1 ⟨rfl,h0,h1,hW1⟩;replace HG:=Lib.hid (show Grown w W1 from grown_trans (by repeat (first | with_reducible exact HG.out | with_reducible refine Grown.setCell ?_ (by simp <;> omega) _ | with_reducible refine Grown.alloc ?_ _ _ | with_reducible refine grown_more ?_ _ | with_reducible refine Grown.drew ?_)) hW1);clear hW1))
  go_ret
  exact ⟨by rw [HQ2.out];rfl,by rw [HQ2.out];omega,by rw [HQ2.out];omega,HG.out⟩
end Go.Proofs.YtpjpmmiepfoiaaaGreat
