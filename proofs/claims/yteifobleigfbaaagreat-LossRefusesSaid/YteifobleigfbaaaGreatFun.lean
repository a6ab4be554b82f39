/- The contracts of the landed package funcs: its operations, its series, each program, what runs them. (Written by gen41.py.) -/
import Derived.Test.YteifobleigfbaaaGreatDict
import Derived.Test.YteifobleigfbaaaGreatFunLand
import Derived.Test.YteifobleigfbaaaGreatPFma
import Derived.Test.YteifobleigfbaaaGreatQuoA
import Derived.Test.YteifobleigfbaaaGreatWho
import Derived.Test.YteifobleigfbaaaGreatOrd
import Derived.Test.YteifobleigfbaaaGreatAdd
import Derived.Test.YteifobleigfbaaaGreatRd
import Derived.Lib.Hide
namespace Go.Proofs.YteifobleigfbaaaGreat
open Go.RowKit
set_option linter.unusedVariables false
set_option linter.unusedSimpArgs false

structure CellsOf (b:Nat) (L:List Value) (W:World):Prop where
 lies:b<W.heap.size
 cell:∀ i (h:i<L.length),W.cell? ⟨b,i,none⟩=some L[i]

theorem CellsOf.grown {b:Nat} {L:List Value} {W W':World} (h:CellsOf b L W) (g:Grown W W'):CellsOf b L W':=
 ⟨Nat.lt_of_lt_of_le h.lies g.2.2,fun i hi=>grown_cell g (h.cell i hi) h.lies⟩

theorem grown_of_drew {W W1:World} {m:Nat} (h:W1=W.drewN m):Grown W W1:=h▸grown_drewN W m

theorem cellsof_new (W:World) (L:List Value) (t:TypeId):CellsOf W.heap.size L (W.alloc (.cells L.toArray t)):=by
 refine ⟨by show W.heap.size<(W.heap.push _).size;simp,fun i hi=>?_⟩
 rw [World.cell?_alloc_at (hn:=rfl)]
 simp [hi]

set_option maxHeartbeats 1000000 in
theorem gadd_any (a b:Int) (w:World) (a0:0≤a) (a1:a≤4294967295) (b0:0≤b) (b1:b≤4294967295):
  Calls Tryz.prog 163 #[.int .u32 a,.int .u32 b] w fun e w'=>e=.returned (.int .u32 (addV a b))∧0≤addV a b∧addV a b≤4294967295∧Grown w w':=by
 obtain ⟨V,hV⟩:∃ V,addV a b=V:=⟨_,rfl⟩
 obtain ⟨q1,q2,q3,q4,q5,hs,h0,h1⟩:=op_val (add_shapeE 2 0 a b) hV
 rw [hV]
 have HS:=Lib.hid hs
 clear hs hV
 go_enter Tryz.func163,Tryz.ntmps163
 go_wp2_with fail
 refine (sadd_any 2 0 a b _ a0 a1 b0 b1).mono ?_
 exact dx_14

set_option maxHeartbeats 1000000 in
theorem gsub_any (a b:Int) (w:World) (a0:0≤a) (a1:a≤4294967295) (b0:0≤b) (b1:b≤4294967295):
  Calls Tryz.prog 161 #[.int .u32 a,.int .u32 b] w fun e w'=>e=.returned (.int .u32 (subV a b))∧0≤subV a b∧subV a b≤4294967295∧Grown w w':=by
 obtain ⟨V,hV⟩:∃ V,subV a b=V:=⟨_,rfl⟩
 obtain ⟨q1,q2,q3,q4,q5,hs,h0,h1⟩:=op_val (sub_shapeE 2 0 a b) hV
 rw [hV]
 have HS:=Lib.hid hs
 clear hs hV
 go_enter Tryz.func161,Tryz.ntmps161
 go_wp2_with fail
 refine (ssub_any 2 0 a b _ a0 a1 b0 b1).mono ?_
 exact dx_14

set_option maxHeartbeats 1000000 in
theorem gmul_any (a b:Int) (w:World) (a0:0≤a) (a1:a≤4294967295) (b0:0≤b) (b1:b≤4294967295):
  Calls Tryz.prog 153 #[.int .u32 a,.int .u32 b] w fun e w'=>e=.returned (.int .u32 (mulV a b))∧0≤mulV a b∧mulV a b≤4294967295∧Grown w w':=by
 obtain ⟨V,hV⟩:∃ V,mulV a b=V:=⟨_,rfl⟩
 obtain ⟨q1,q2,q3,q4,q5,hs,h0,h1⟩:=op_val (mul_shape 2 0 a b) hV
 rw [hV]
 have HS:=Lib.hid hs
 clear hs hV
 go_enter Tryz.func153,Tryz.ntmps153
 go_wp2_with fail
 refine (pmul_any 2 0 a b _ a0 a1 b0 b1).mono ?_
 exact dx_14

set_option maxHeartbeats 1000000 in
theorem gfma_any (a b c:Int) (w:World) (a0:0≤a) (a1:a≤4294967295) (b0:0≤b) (b1:b≤4294967295) (c0:0≤c) (c1:c≤4294967295):
  Calls Tryz.prog 156 #[.int .u32 a,.int .u32 b,.int .u32 c] w fun e w'=>e=.returned (.int .u32 (fmaV a b c))∧0≤fmaV a b c∧fmaV a b c≤4294967295∧Grown w w':=by
 obtain ⟨V,hV⟩:∃ V,fmaV a b c=V:=⟨_,rfl⟩
 obtain ⟨q1,q2,q3,q4,q5,hs,h0,h1⟩:=op_val (fma_shape 2 0 a b c) hV
 rw [hV]
 have HS:=Lib.hid hs
 clear hs hV
 go_enter Tryz.func156,Tryz.ntmps156
 go_wp2_with fail
 refine (pfma_any 2 0 a b c _ a0 a1 b0 b1 c0 c1).mono ?_
 exact dx_14

set_option maxHeartbeats 1000000 in
theorem gdiv_any (a b:Int) (w:World) (a0:0≤a) (a1:a≤4294967295) (b0:0≤b) (b1:b≤4294967295):
  Calls Tryz.prog 162 #[.int .u32 a,.int .u32 b] w fun e w'=>e=.returned (.int .u32 (divV a b))∧0≤divV a b∧divV a b≤4294967295∧Grown w w':=by
 obtain ⟨V,hV⟩:∃ V,divV a b=V:=⟨_,rfl⟩
 obtain ⟨q1,q2,q3,q4,q5,hs,h0,h1⟩:=op_val (div_shape 2 0 a b) hV
 rw [hV]
 have HS:=Lib.hid hs
 clear hs hV
 go_enter Tryz.func162,Tryz.ntmps162
 go_wp2_with fail
 refine (qdiv_any 2 0 a b _ a0 a1 b0 b1).mono ?_
 exact dx_14

set_option maxHeartbeats 1000000 in
theorem gint_any (v:Int) (w:World) (v0:-9223372036854775808≤v) (v1:v≤9223372036854775807):
  Calls Tryz.prog 155 #[.int .i64 v] w fun e w'=>e=.returned (.int .u32 (frmV v))∧0≤frmV v∧frmV v≤4294967295∧Grown w w':=by
 obtain ⟨V,hV⟩:∃ V,frmV v=V:=⟨_,rfl⟩
 obtain ⟨q1,q2,q3,q4,q5,hs,h0,h1⟩:=op_val (from_shapeE 2 0 v) hV
 rw [hV]
 have HS:=Lib.hid hs
 clear hs hV
 go_enter Tryz.func155,Tryz.ntmps155
 go_wp2_with fail
 refine (wfromint_any 2 0 v _ v0 v1).mono ?_
 exact dx_14

set_option maxHeartbeats 1000000 in
theorem gsca_any (a n:Int) (w:World) (a0:0≤a) (a1:a≤4294967295) (n0:-9223372036854775808≤n) (n1:n≤9223372036854775807):
  Calls Tryz.prog 158 #[.int .u32 a,.int .i64 n] w fun e w'=>e=.returned (.int .u32 (scaV a n))∧0≤scaV a n∧scaV a n≤4294967295∧Grown w w':=by
 obtain ⟨V,hV⟩:∃ V,scaV a n=V:=⟨_,rfl⟩
 obtain ⟨q1,q2,q3,q4,q5,hs,h0,h1⟩:=op_val (sca_shapeE 2 0 a n a0 a1) hV
 rw [hV]
 have HS:=Lib.hid hs
 clear hs hV
 go_enter Tryz.func158,Tryz.ntmps158
 go_wp2_with fail
 refine (wscale_any 2 0 a n _ a0 a1 n0 n1).mono ?_
 exact dx_14

set_option maxHeartbeats 1000000 in
theorem gto_any (a:Int) (w:World) (a0:0≤a) (a1:a≤4294967295):
  Calls Tryz.prog 152 #[.int .u32 a] w fun e w'=>e=.returned (.int .i64 (toV a))∧-2147483648≤toV a∧toV a≤2147483647∧Grown w w':=by
 obtain ⟨V,hV⟩:∃ V,toV a=V:=⟨_,rfl⟩
 obtain ⟨q1,q2,q3,q4,q5,hs,h0,h1⟩:=to_val 2 0 a hV
 rw [hV]
 have hi:IntKind.i64.wrap V=V:=by rw [IntKind.wrap_i64];omega
 have hi2:wrap64 V=V:=by rw [wrap64_is];exact hi
 have HS:=Lib.hid hs
 clear hs hV
 go_enter Tryz.func152,Tryz.ntmps152
 go_wp2_with fail
 refine (wtoint_any 2 0 a _ a0 a1).mono ?_
 exact dx_14

set_option maxHeartbeats 1000000 in
theorem gopp_any (x:Int) (w:World) (x0:0≤x) (x1:x≤4294967295):
  Calls Tryz.prog 154 #[.int .u32 x] w fun e w'=>e=.returned (.int .u32 (xorI 2 x))∧0≤xorI 2 x∧xorI 2 x≤4294967295∧Grown w w':=by
 obtain ⟨_,_,_,h0,h1⟩:=xor_parts 2 x x0 x1
 have hx:bits .xor .u32 x 2147483648=xorI 2 x:=rfl
 go_enter Tryz.func154,Tryz.ntmps154
 go_wp2
 go_ret
 exact ⟨rfl,h0,h1,Grown.refl w⟩

set_option maxHeartbeats 1000000 in
theorem gabove_any (a b:Int) (w:World) (a0:0≤a) (a1:a≤4294967295) (b0:0≤b) (b1:b≤4294967295):
  Calls Tryz.prog 151 #[.int .u32 a,.int .u32 b] w fun e w'=>e=.returned (.bool (lesB 2 b a))∧Grown w w':=by
 go_enter Tryz.func151,Tryz.ntmps151
 go_wp2_with (go_at_call 173;refine (oless_any 2 b a _ b0 b1 a0 a1).mono ?_;rintro e W1 ⟨rfl,hW1⟩)
 go_ret
 exact ⟨rfl,hW1⟩

set_option maxHeartbeats 1000000 in
theorem gnought_any (x:Int) (w:World) (x0:0≤x) (x1:x≤4294967295):
  Calls Tryz.prog 159 #[.int .u32 x] w fun e w'=>e=.returned (.bool (nouB 2 x))∧Grown w w':=by
 obtain ⟨C,hC⟩:∃ C,clsI 2 x=C:=⟨_,rfl⟩
 have HB:=Lib.hid (show nouB 2 x=(C==0) by unfold nouB;rw [hC])
 have HC:=Lib.hid (show Ending.returned (.int .i64 (clsI 2 x))=.returned (.int .i64 C) by rw [hC])
 clear hC
 go_enter Tryz.func159,Tryz.ntmps159
 go_wp2_with (go_at_call 100;refine (class_any _ _ _ x0 x1).mono ?_;rintro e w' ⟨he,dm,rfl⟩;rw [HC.out] at he;subst he)
 go_ret
 exact ⟨by rw [HB.out];rfl,grown_drewN _ _⟩

set_option maxHeartbeats 4000000 in
theorem gseries6_any (r p c0 c1 c2 c3 c4 c5:Int) (b:Nat) (w:World) (r0:0≤r) (r1:r≤4294967295) (p0:0≤p) (p1:p≤4294967295) (c00:0≤c0) (c01:c0≤4294967295) (c10:0≤c1) (c11:c1≤4294967295) (c20:0≤c2) (c21:c2≤4294967295) (c30:0≤c3) (c31:c3≤4294967295) (c40:0≤c4) (c41:c4≤4294967295) (c50:0≤c5) (c51:c5≤4294967295) (hc:CellsOf b [.int .u32 c0,.int .u32 c1,.int .u32 c2,.int .u32 c3,.int .u32 c4,.int .u32 c5] w):
  Calls Tryz.prog 157 #[.int .u32 r,.int .u32 p,.slice (some ⟨b,0,none⟩) 6 6] w fun e w'=>e=.returned (.int .u32 (alongV p r [c0,c1,c2,c3,c4,c5]))∧0≤alongV p r [c0,c1,c2,c3,c4,c5]∧alongV p r [c0,c1,c2,c3,c4,c5]≤4294967295∧Grown w w':=by
 have HC:=Lib.hid hc
 have HG:=Lib.hid (Grown.refl w)
 have y0:w.cell? ⟨b,0,none⟩=some (.int .u32 c0):=hc.cell 0 (by simp)
 have y1:w.cell? ⟨b,1,none⟩=some (.int .u32 c1):=hc.cell 1 (by simp)
 have y2:w.cell? ⟨b,2,none⟩=some (.int .u32 c2):=hc.cell 2 (by simp)
 have y3:w.cell? ⟨b,3,none⟩=some (.int .u32 c3):=hc.cell 3 (by simp)
 have y4:w.cell? ⟨b,4,none⟩=some (.int .u32 c4):=hc.cell 4 (by simp)
 have y5:w.cell? ⟨b,5,none⟩=some (.int .u32 c5):=hc.cell 5 (by simp)
 clear hc
 go_enter Tryz.func157,Tryz.ntmps157
 go_wp2
 refine wp_loop_rounds 7 ?_
 repeat any_goals (rw [rounds_succ];go_wp2_with (go_at_call 156;refine (gfma_any _ _ _ _ (by omega) (by omega) (by omega) (by omega) (by omega) (by omega)).mono ?_;rintro e W1 ⟨rfl,h0,h1,hW1⟩;replace HG:=Lib.hid (grown_trans HG.out hW1);replace HC:=Lib.hid (HC.out.grown hW1);clear hW1;have y0:W1.cell? ⟨b,0,none⟩=some (.int .u32 c0):=HC.out.cell 0 (by simp);have y1:W1.cell? ⟨b,1,none⟩=some (.int .u32 c1):=HC.out.cell 1 (by simp);have y2:W1.cell? ⟨b,2,none⟩=some (.int .u32 c2):=HC.out.cell 2 (by simp);have y3:W1.cell? ⟨b,3,none⟩=some (.int .u32 c3):=HC.out.cell 3 (by simp);have y4:W1.cell? ⟨b,4,none⟩=some (.int .u32 c4):=HC.out.cell 4 (by simp);have y5:W1.cell? ⟨b,5,none⟩=some (.int .u32 c5):=HC.out.cell 5 (by simp)))
 go_ret
 exact ⟨rfl,h0,h1,HG.out⟩

set_option maxHeartbeats 4000000 in
theorem gseries3_any (r p c0 c1 c2:Int) (b:Nat) (w:World) (r0:0≤r) (r1:r≤4294967295) (p0:0≤p) (p1:p≤4294967295) (c00:0≤c0) (c01:c0≤4294967295) (c10:0≤c1) (c11:c1≤4294967295) (c20:0≤c2) (c21:c2≤4294967295) (hc:CellsOf b [.int .u32 c0,.int .u32 c1,.int .u32 c2] w):
  Calls Tryz.prog 157 #[.int .u32 r,.int .u32 p,.slice (some ⟨b,0,none⟩) 3 3] w fun e w'=>e=.returned (.int .u32 (alongV p r [c0,c1,c2]))∧0≤alongV p r [c0,c1,c2]∧alongV p r [c0,c1,c2]≤4294967295∧Grown w w':=by
 have HC:=Lib.hid hc
 have HG:=Lib.hid (Grown.refl w)
 have y0:w.cell? ⟨b,0,none⟩=some (.int .u32 c0):=hc.cell 0 (by simp)
 have y1:w.cell? ⟨b,1,none⟩=some (.int .u32 c1):=hc.cell 1 (by simp)
 have y2:w.cell? ⟨b,2,none⟩=some (.int .u32 c2):=hc.cell 2 (by simp)
 clear hc
 go_enter Tryz.func157,Tryz.ntmps157
 go_wp2
 refine wp_loop_rounds 4 ?_
 repeat any_goals (rw [rounds_succ];go_wp2_with (go_at_call 156;refine (gfma_any _ _ _ _ (by omega) (by omega) (by omega) (by omega) (by omega) (by omega)).mono ?_;rintro e W1 ⟨rfl,h0,h1,hW1⟩;replace HG:=Lib.hid (grown_trans HG.out hW1);replace HC:=Lib.hid (HC.out.grown hW1);clear hW1;have y0:W1.cell? ⟨b,0,none⟩=some (.int .u32 c0):=HC.out.cell 0 (by simp);have y1:W1.cell? ⟨b,1,none⟩=some (.int .u32 c1):=HC.out.cell 1 (by simp);have y2:W1.cell? ⟨b,2,none⟩=some (.int .u32 c2):=HC.out.cell 2 (by simp)))
 go_ret
 exact ⟨rfl,h0,h1,HG.out⟩

set_option maxRecDepth 100000 in
set_option maxHeartbeats 4000000 in
theorem gexp_any (x:Int) (w:World) (x0:0≤x) (x1:x≤4294967295) (hn:nanB 2 x=false):
  Calls Tryz.prog 108 #[.int .u32 x] w fun e w'=>e=.returned (.int .u32 (expI x))∧0≤expI x∧expI x≤4294967295∧Grown w w':=by
 have HG:=Lib.hid (Grown.refl w)
 obtain ⟨A1,hA⟩:∃ A1,lesB 2 1118925336 x=A1:=⟨_,rfl⟩
 obtain ⟨B1,hB⟩:∃ B1,lesB 2 x 3268407733=B1:=⟨_,rfl⟩
 have HA:=Lib.hid (show Ending.returned (.bool (lesB 2 1118925336 x))=.returned (.bool A1) by rw [hA])
 have HB:=Lib.hid (show Ending.returned (.bool (lesB 2 x 3268407733))=.returned (.bool B1) by rw [hB])
 obtain ⟨N,hNN⟩:∃ N,expN x=N:=⟨_,rfl⟩
 obtain ⟨q1,q2,q3,q4,q5,ht,n0,n1⟩:=to_val 2 0 (mulV x 1069066811) (V:=N) hNN
 have HT:=Lib.hid (show Ending.returned (.int .i64 (toV (mulV x 1069066811)))=.returned (.int .i64 N) by rw [show toV (mulV x 1069066811)=N from hNN])
 have HI:=Lib.hid (show Ending.returned (.int .u32 (infI 2 false))=.returned (.int .u32 2139095040) by rfl)
 have HZ:=Lib.hid (show Ending.returned (.int .u32 (zerI 2 false))=.returned (.int .u32 0) by rfl)
 have HM:=Lib.hid (show expI x=if A1 then 2139095040 else if B1 then 0 else scaV (alongV 985008993 (fmaV (xorI 2 (frmV N)) 901758606 (fmaV (xorI 2 (frmV N)) 1060205056 x)) [1007192201,1026206379,1042983595,1056964608,1065353216,1065353216]) N by
  unfold expI expP expR;rw [hn,hA,hB,hNN,frm_neg];rfl)
 clear hn hA hB hNN ht
 have hi:IntKind.i64.wrap N=N:=by rw [IntKind.wrap_i64];omega
 have hi2:wrap64 N=N:=by rw [wrap64_is];exact hi
 cases A1
 case true=>
  have HQ:=Lib.hid (show expI x=2139095040 by have:=HM.out;simpa only [if_true] using this)
  clear HM
  go_enter Tryz.func108,Tryz.ntmps108
  go_wp2_with (first
   | (go_at_call 151;refine (gabove_any _ _ _ (by omega) (by omega) (by omega) (by omega)).mono ?_;rintro e W1 ⟨he,hW1⟩;(first | rw [HA.out] at he | rw [HB.out] at he);subst he;replace HG:=Lib.hid (show Grown w W1 from grown_trans (by repeat (first | with_reducible exact HG.out | with_reducible refine Grown.setCell ?_ (by simp <;> omega) _ | with_reducible refine Grown.alloc ?_ _ _ | with_reducible refine grown_more ?_ _ | with_reducible refine Grown.drew ?_)) hW1);clear hW1)
   | (go_at_call 104;refine (inf_any 2 _ _).mono ?_;rintro e w1 ⟨he,rfl⟩;rw [HI.out] at he;subst he))
  exact dx_28
 case false=>
  cases B1
  case true=>
   have HQ:=Lib.hid (show expI x=0 by have:=HM.out;simpa only [if_true,Bool.false_eq_true,if_false] using this)
   clear HM
   go_enter Tryz.func108,Tryz.ntmps108
   go_wp2_with (first
    | (go_at_call 151;refine (gabove_any _ _ _ (by omega) (by omega) (by omega) (by omega)).mono ?_;rintro e W1 ⟨he,hW1⟩;(first | rw [HA.out] at he | rw [HB.out] at he);subst he;replace HG:=Lib.hid (show Grown w W1 from grown_trans (by repeat (first | with_reducible exact HG.out | with_reducible refine Grown.setCell ?_ (by simp <;> omega) _ | with_reducible refine Grown.alloc ?_ _ _ | with_reducible refine grown_more ?_ _ | with_reducible refine Grown.drew ?_)) hW1);clear hW1)
    | (go_at_call 122;refine (zero_any 2 _ _).mono ?_;rintro e w1 ⟨he,rfl⟩;rw [HZ.out] at he;subst he))
   exact dx_28
  case false=>
   have HQ:=Lib.hid (show expI x=scaV (alongV 985008993 (fmaV (xorI 2 (frmV N)) 901758606 (fmaV (xorI 2 (frmV N)) 1060205056 x)) [1007192201,1026206379,1042983595,1056964608,1065353216,1065353216]) N by have:=HM.out;simpa only [Bool.false_eq_true,if_false] using this)
   clear HM
   go_enter Tryz.func108,Tryz.ntmps108
   go_wp2_with (first
    | (go_at_call 151;refine (gabove_any _ _ _ (by omega) (by omega) (by omega) (by omega)).mono ?_;rintro e W1 ⟨he,hW1⟩;(first | rw [HA.out] at he | rw [HB.out] at he);subst he;replace HG:=Lib.hid (show Grown w W1 from grown_trans (by repeat (first | with_reducible exact HG.out | with_reducible refine Grown.setCell ?_ (by simp <;> omega) _ | with_reducible refine Grown.alloc ?_ _ _ | with_reducible refine grown_more ?_ _ | with_reducible refine Grown.drew ?_)) hW1);clear hW1)
    | (go_at_call 152;refine (gto_any _ _ (by omega) (by omega)).mono ?_;rintro e W1 ⟨he,_,_,hW1⟩;rw [HT.out] at he;subst he;replace HG:=Lib.hid (show Grown w W1 from grown_trans (by repeat (first | with_reducible exact HG.out | with_reducible refine Grown.setCell ?_ (by simp <;> omega) _ | with_reducible refine Grown.alloc ?_ _ _ | with_reducible refine grown_more ?_ _ | with_reducible refine Grown.drew ?_)) hW1);clear hW1)
    | (go_at_call 155;refine (gint_any _ _ (by omega) (by omega)).mono ?_;rintro e W1 ⟨rfl,h0,h1,hW1⟩;replace HG:=Lib.hid (show Grown w W1 from grown_trans (by repeat (first | with_reducible exact HG.out | with_reducible refine Grown.setCell ?_ (by simp <;> omega) _ | with_reducible refine Grown.alloc ?_ _ _ | with_reducible refine grown_more ?_ _ | with_reducible refine Grown.drew ?_)) hW1);clear hW1)
    | (go_at_call 154;refine (gopp_any _ _ (by omega) (by omega)).mono ?_;rintro e W1 ⟨rfl,h0,h1,hW1⟩;replace HG:=Lib.hid (show Grown w W1 from grown_trans (by repeat (first | with_reducible exact HG.out | with_reducible refine Grown.setCell ?_ (by simp <;> omega) _ | with_reducible refine Grown.alloc ?_ _ _ | with_reducible refine grown_more ?_ _ | with_reducible refine Grown.drew ?_)) hW1);clear hW1)
    | (go_at_call 157;refine (gseries6_any _ _ 1007192201 1026206379 1042983595 1056964608 1065353216 1065353216 _ _ (by omega) (by omega) (by omega) (by omega) (by omega) (by omega) (by omega) (by omega) (by omega) (by omega) (by omega) (by omega) (by omega) (by omega) (by omega) (by omega) (cellsof_new _ [.int .u32 1007192201,.int .u32 1026206379,.int .u32 1042983595,.int .u32 1056964608,.int .u32 1065353216,.int .u32 1065353216] _)).mono ?_;rintro e W1 ⟨rfl,h0,h1,hW1⟩;replace HG:=Lib.hid (show Grown w W1 from grown_trans (by repeat (first | with_reducible exact HG.out | with_reducible refine Grown.setCell ?_ (by simp <;> omega) _ | with_reducible refine Grown.alloc ?_ _ _ | with_reducible refine grown_more ?_ _ | with_reducible refine Grown.drew ?_)) hW1);clear hW1)
    | (go_at_call 158;refine (gsca_any _ _ _ (by omega) (by omega) (by omega) (by omega)).mono ?_;rintro e W1 ⟨rfl,h0,h1,hW1⟩;replace HG:=Lib.hid (show Grown w W1 from grown_trans (by repeat (first | with_reducible exact HG.out | with_reducible refine Grown.setCell ?_ (by simp <;> omega) _ | with_reducible refine Grown.alloc ?_ _ _ | with_reducible refine grown_more ?_ _ | with_reducible refine Grown.drew ?_)) hW1);clear hW1)
    | (go_at_call 156;refine (gfma_any _ _ _ _ (by omega) (by omega) (by omega) (by omega) (by omega) (by omega)).mono ?_;rintro e W1 ⟨rfl,h0,h1,hW1⟩;replace HG:=Lib.hid (show Grown w W1 from grown_trans (by repeat (first | with_reducible exact HG.out | with_reducible refine Grown.setCell ?_ (by simp <;> omega) _ | with_reducible refine Grown.alloc ?_ _ _ | with_reducible refine grown_more ?_ _ | with_reducible refine Grown.drew ?_)) hW1);clear hW1)
    | (go_at_call 153;refine (gmul_any _ _ _ (by omega) (by omega) (by omega) (by omega)).mono ?_;rintro e W1 ⟨rfl,h0,h1,hW1⟩;replace HG:=Lib.hid (show Grown w W1 from grown_trans (by repeat (first | with_reducible exact HG.out | with_reducible refine Grown.setCell ?_ (by simp <;> omega) _ | with_reducible refine Grown.alloc ?_ _ _ | with_reducible refine grown_more ?_ _ | with_reducible refine Grown.drew ?_)) hW1);clear hW1))
   exact dx_28

set_option maxRecDepth 100000 in
set_option maxHeartbeats 4000000 in
theorem grun_exp (x:Int) (w:World) (x0:0≤x) (x1:x≤4294967295):
  Calls Tryz.prog 107 #[.func (Fn.func 108) #[] #[],.int .u32 x] w fun e w'=>e=.returned (.int .u32 (expI x))∧0≤expI x∧expI x≤4294967295∧Grown w w':=by
 have HG:=Lib.hid (Grown.refl w)
 obtain ⟨C,hC⟩:∃ C,clsI 2 x=C:=⟨_,rfl⟩
 have HB:=Lib.hid (show nanB 2 x=(C==4 || C==5) by unfold nanB;rw [hC])
 have HC:=Lib.hid (show Ending.returned (.int .i64 (clsI 2 x))=.returned (.int .i64 C) by rw [hC])
 have HV:=Lib.hid (show nanB 2 x=true→expI x=2143289344 from fun h=>by unfold expI;rw [h];rfl)
 have HF:=Lib.hid (show Ending.returned (.int .u32 (nanI 2))=.returned (.int .u32 2143289344) by rfl)
 clear hC
 go_enter Tryz.func107,Tryz.ntmps107
 by_cases c4:C=4
 ·subst c4
  exact dx_21
 ·by_cases c5:C=5
  ·subst c5
   exact dx_21
  ·have d4:(C==4)=false:=by simpa using c4
   have d5:(C==5)=false:=by simpa using c5
   have hn:nanB 2 x=false:=by rw [HB.out,d4,d5];rfl
   have HNN:=Lib.hid hn
   clear hn
   go_wp2_with (first
    | (go_at_call 100;refine (class_any _ _ _ x0 x1).mono ?_;rintro e W1 ⟨he,dm,hd⟩;rw [HC.out] at he;subst he;have hW1:=grown_of_drew hd;clear hd;replace HG:=Lib.hid (show Grown w W1 from grown_trans (by repeat (first | with_reducible exact HG.out | with_reducible refine Grown.setCell ?_ (by simp <;> omega) _ | with_reducible refine Grown.alloc ?_ _ _ | with_reducible refine grown_more ?_ _ | with_reducible refine Grown.drew ?_)) hW1);clear hW1)
    | (go_at_call 108;refine (gexp_any _ _ x0 x1 HNN.out).mono ?_;rintro e W1 ⟨rfl,h0,h1,hW1⟩;replace HG:=Lib.hid (show Grown w W1 from grown_trans (by repeat (first | with_reducible exact HG.out | with_reducible refine Grown.setCell ?_ (by simp <;> omega) _ | with_reducible refine Grown.alloc ?_ _ _ | with_reducible refine grown_more ?_ _ | with_reducible refine Grown.drew ?_)) hW1);clear hW1))
   go_ret
   exact ⟨rfl,h0,h1,HG.out⟩

set_option maxRecDepth 100000 in
set_option maxHeartbeats 4000000 in
theorem fexp_any (x:Int) (w:World) (x0:0≤x) (x1:x≤4294967295):
  Calls Tryz.prog 66 #[.int .u32 x] w fun e w'=>e=.returned (.int .u32 (expI x))∧0≤expI x∧expI x≤4294967295∧Grown w w':=by
 go_enter Tryz.func66,Tryz.ntmps66
 go_wp2_with (go_at_call 107;refine (grun_exp _ _ x0 x1).mono ?_;rintro e W1 ⟨rfl,h0,h1,hW1⟩)
 go_ret
 exact ⟨rfl,h0,h1,hW1⟩

set_option maxRecDepth 100000 in
set_option maxHeartbeats 4000000 in
theorem gnear_any (x:Int) (w:World) (x0:0≤x) (x1:x≤4294967295) (hm:0<unM 2 x):
  Calls Tryz.prog 160 #[.int .u32 x] w fun e w'=>e=.returned (.tuple #[.int .u32 (logV x),.int .i64 (logK x)])∧0≤logV x∧logV x≤4294967295∧-1000≤logK x∧logK x≤1000∧Grown w w':=by
 have HG:=Lib.hid (Grown.refl w)
 obtain ⟨f0,f1,hu,l0,l1,hsc,hhalf,g0,g1⟩:=near_is x hm
 obtain ⟨e0,e1⟩:=unE_bd 2 x
 obtain ⟨m0,m1⟩:=unM_bd 2 x
 obtain ⟨A1,hA⟩:∃ A1,lesB 2 1068827891 (logM x)=A1:=⟨_,rfl⟩
 have hv:logV x=if A1 then mulV (logM x) 1056964608 else logM x:=by unfold logV;rw [hA]
 have hk:logK x=if A1 then logE x+1 else logE x:=by unfold logK;rw [hA]
 have hle:logE x=unE 2 x+(lenI (unM 2 x) - 1):=rfl
 obtain ⟨s,hs⟩:∃ s,fS 2 x=s:=⟨_,rfl⟩
 obtain ⟨E,hE⟩:∃ E,unE 2 x=E:=⟨_,rfl⟩
 obtain ⟨M,hM⟩:∃ M,unM 2 x=M:=⟨_,rfl⟩
 obtain ⟨J,hJ⟩:∃ J,logM x=J:=⟨_,rfl⟩
 rw [hE] at e0 e1 hle
 rw [hM] at m0 m1 hm f0 f1 hu l0 l1 hsc hle
 rw [hJ] at hsc hhalf g0 g1 hv hA
 obtain ⟨Z,hZ⟩:∃ Z,frmV M=Z:=⟨_,rfl⟩
 rw [hZ] at f0 f1 hu hsc
 obtain ⟨L,hL⟩:∃ L,lenI M=L:=⟨_,rfl⟩
 rw [hL] at hu l0 l1 hsc hle
 obtain ⟨H,hH⟩:∃ H,mulV J 1056964608=H:=⟨_,rfl⟩
 have hb:=mul_word J 1056964608
 rw [hH] at hhalf hv hb
 obtain ⟨b0,b1⟩:=hb
 have HA:=Lib.hid (show Ending.returned (.bool (lesB 2 1068827891 J))=.returned (.bool A1) by rw [hA])
 have HU:=Lib.hid (show Ending.returned (.tuple #[.bool (fS 2 x),.int .i64 (unE 2 x),.int .u64 (unM 2 x)])=.returned (.tuple #[.bool s,.int .i64 E,.int .u64 M]) by rw [hs,hE,hM])
 obtain ⟨s2,hs2⟩:∃ s2,fS 2 Z=s2:=⟨_,rfl⟩
 obtain ⟨M2,hM2⟩:∃ M2,unM 2 Z=M2:=⟨_,rfl⟩
 have HU2:=Lib.hid (show Ending.returned (.tuple #[.bool (fS 2 Z),.int .i64 (unE 2 Z),.int .u64 (unM 2 Z)])=.returned (.tuple #[.bool s2,.int .i64 (L - 24),.int .u64 M2]) by rw [hs2,hu,hM2])
 have HF:=Lib.hid (show Ending.returned (.int .u32 (frmV M))=.returned (.int .u32 Z) by rw [hZ])
 have HS1:=Lib.hid (show Ending.returned (.int .u32 (scaV Z (1 - L)))=.returned (.int .u32 J) by rw [hsc])
 have HS2:=Lib.hid (show Ending.returned (.int .u32 (scaV J (-1)))=.returned (.int .u32 H) by rw [hhalf])
 have HV:=Lib.hid hv
 have HK:=Lib.hid (show logK x=if A1 then E+(L - 1)+1 else E+(L - 1) by rw [hk,hle])
 clear hv hk hle hs hE hM hJ hZ hL hH hu hsc hhalf hs2 hM2 hA
 have hw1:wrap64 M=M:=by rw [wrap64_is,IntKind.wrap_i64];omega
 have hw1':IntKind.i64.wrap M=M:=by rw [IntKind.wrap_i64];omega
 have hw2:-(L - 24) - 23=1 - L:=by omega
 have hw3:E+(L - 24)+23=E+(L - 1):=by omega
 cases A1
 all_goals
  go_enter Tryz.func160,Tryz.ntmps160
  go_wp2_with (first
   | (go_at_call 145;refine (unpack_any 2 _ _ (by omega) (by omega)).mono ?_;rintro e W1 ⟨he,dm,hd⟩;(first | rw [HU.out] at he | rw [HU2.out] at he);subst he;have hW1:=grown_of_drew hd;clear hd;replace HG:=Lib.hid (show Grown w W1 from grown_trans (by repeat (first | with_reducible exact HG.out | with_reducible refine Grown.setCell ?_ (by simp <;> omega) _ | with_reducible refine Grown.alloc ?_ _ _ | with_reducible refine grown_more ?_ _ | with_reducible refine Grown.drew ?_)) hW1);clear hW1)
   | (go_at_call 155;refine (gint_any _ _ (by omega) (by omega)).mono ?_;rintro e W1 ⟨he,_,_,hW1⟩;rw [HF.out] at he;subst he;replace HG:=Lib.hid (show Grown w W1 from grown_trans (by repeat (first | with_reducible exact HG.out | with_reducible refine Grown.setCell ?_ (by simp <;> omega) _ | with_reducible refine Grown.alloc ?_ _ _ | with_reducible refine grown_more ?_ _ | with_reducible refine Grown.drew ?_)) hW1);clear hW1)
   | (go_at_call 158;refine (gsca_any _ _ _ (by omega) (by omega) (by omega) (by omega)).mono ?_;rintro e W1 ⟨he,_,_,hW1⟩;(first | rw [HS1.out] at he | rw [HS2.out] at he);subst he;replace HG:=Lib.hid (show Grown w W1 from grown_trans (by repeat (first | with_reducible exact HG.out | with_reducible refine Grown.setCell ?_ (by simp <;> omega) _ | with_reducible refine Grown.alloc ?_ _ _ | with_reducible refine grown_more ?_ _ | with_reducible refine Grown.drew ?_)) hW1);clear hW1)
   | (go_at_call 151;refine (gabove_any _ _ _ (by omega) (by omega) (by omega) (by omega)).mono ?_;rintro e W1 ⟨he,hW1⟩;(first | rw [HA.out] at he);subst he;replace HG:=Lib.hid (show Grown w W1 from grown_trans (by repeat (first | with_reducible exact HG.out | with_reducible refine Grown.setCell ?_ (by simp <;> omega) _ | with_reducible refine Grown.alloc ?_ _ _ | with_reducible refine grown_more ?_ _ | with_reducible refine Grown.drew ?_)) hW1);clear hW1))
  go_ret2
  refine ⟨?_,?_,?_,?_,?_,HG.out⟩
  ·rw [HV.out,HK.out];rfl
  all_goals (first | rw [HV.out] | rw [HK.out])
  all_goals (simp only [if_true,Bool.false_eq_true,if_false])
  all_goals omega

set_option maxRecDepth 100000 in
set_option maxHeartbeats 4000000 in
theorem glog_any (x:Int) (w:World) (x0:0≤x) (x1:x≤4294967295) (hn:nanB 2 x=false):
  Calls Tryz.prog 109 #[.int .u32 x] w fun e w'=>e=.returned (.int .u32 (logI x))∧0≤logI x∧logI x≤4294967295∧Grown w w':=by
 have HG:=Lib.hid (Grown.refl w)
 obtain ⟨O1,hO⟩:∃ O1,nouB 2 x=O1:=⟨_,rfl⟩
 obtain ⟨B1,hB⟩:∃ B1,fS 2 x=B1:=⟨_,rfl⟩
 obtain ⟨F1,hF⟩:∃ F1,finI 2 x=F1:=⟨_,rfl⟩
 have hinf:=inf_not x hn
 rw [hF] at hinf
 have HO:=Lib.hid (show Ending.returned (.bool (nouB 2 x))=.returned (.bool O1) by rw [hO])
 have HE:=Lib.hid (show Ending.returned (.bool (finI 2 x))=.returned (.bool F1) by rw [hF])
 have HB:=Lib.hid (show O1=false→Ending.returned (.bool (lesB 2 x 0))=.returned (.bool B1) from fun h=>by rw [below_nought x x0 x1 hn (by rw [hO,h]),hB])
 have HP0:=Lib.hid (show O1=false→F1=true→0<unM 2 x from fun h g=>num_pos 2 x hn (by rw [hO,h]) (by rw [hinf,g];rfl))
 have HI:=Lib.hid (show Ending.returned (.int .u32 (infI 2 true))=.returned (.int .u32 4286578688) by rfl)
 have HI2:=Lib.hid (show Ending.returned (.int .u32 (infI 2 false))=.returned (.int .u32 2139095040) by rfl)
 have HZ:=Lib.hid (show Ending.returned (.int .u32 (zerI 2 false))=.returned (.int .u32 0) by rfl)
 have HF:=Lib.hid (show Ending.returned (.int .u32 (nanI 2))=.returned (.int .u32 2143289344) by rfl)
 have HM:=Lib.hid (show logI x=if O1 then 4286578688 else if B1 then 2143289344 else if !F1 then 2139095040 else logT (frmV (logK x)) (logY (logS (subV (logV x) 1065353216))) by
  unfold logI;rw [hn,hO,hB,hinf];rfl)
 clear hn hO hB hF hinf
 cases O1
 case true=>
  have HQ:=Lib.hid (show logI x=4286578688 by have:=HM.out;simpa only [if_true,Bool.false_eq_true,if_false,Bool.not_true,Bool.not_false] using this)
  clear HM
  go_enter Tryz.func109,Tryz.ntmps109
  go_wp2_with (first
   | (go_at_call 159;refine (gnought_any _ _ (by omega) (by omega)).mono ?_;rintro e W1 ⟨he,hW1⟩;rw [HO.out] at he;subst he;replace HG:=Lib.hid (show Grown w W1 from grown_trans (by repeat (first | with_reducible exact HG.out | with_reducible refine Grown.setCell ?_ (by simp <;> omega) _ | with_reducible refine Grown.alloc ?_ _ _ | with_reducible refine grown_more ?_ _ | with_reducible refine Grown.drew ?_)) hW1);clear hW1)
   | (go_at_call 104;refine (inf_any 2 _ _).mono ?_;rintro e w1 ⟨he,rfl⟩;rw [HI.out] at he;subst he))
  exact dx_28
 case false=>
  have HA:=Lib.hid (HB.out rfl)
  cases B1
  case true=>
   have HQ:=Lib.hid (show logI x=2143289344 by have:=HM.out;simpa only [if_true,Bool.false_eq_true,if_false,Bool.not_true,Bool.not_false] using this)
   clear HM
   go_enter Tryz.func109,Tryz.ntmps109
   go_wp2_with (first
    | (go_at_call 159;refine (gnought_any _ _ (by omega) (by omega)).mono ?_;rintro e W1 ⟨he,hW1⟩;rw [HO.out] at he;subst he;replace HG:=Lib.hid (show Grown w W1 from grown_trans (by repeat (first | with_reducible exact HG.out | with_reducible refine Grown.setCell ?_ (by simp <;> omega) _ | with_reducible refine Grown.alloc ?_ _ _ | with_reducible refine grown_more ?_ _ | with_reducible refine Grown.drew ?_)) hW1);clear hW1)
    | (go_at_call 122;refine (zero_any 2 _ _).mono ?_;rintro e w1 ⟨he,rfl⟩;rw [HZ.out] at he;subst he)
    | (go_at_call 151;refine (gabove_any _ _ _ (by omega) (by omega) (by omega) (by omega)).mono ?_;rintro e W1 ⟨he,hW1⟩;(first | rw [HA.out] at he);subst he;replace HG:=Lib.hid (show Grown w W1 from grown_trans (by repeat (first | with_reducible exact HG.out | with_reducible refine Grown.setCell ?_ (by simp <;> omega) _ | with_reducible refine Grown.alloc ?_ _ _ | with_reducible refine grown_more ?_ _ | with_reducible refine Grown.drew ?_)) hW1);clear hW1)
    | (go_at_call 103;refine (nan_any 2 _).mono ?_;rintro e w1 ⟨he,rfl⟩;rw [HF.out] at he;subst he))
   exact dx_28
  case false=>
   cases F1
   case false=>
    have HQ:=Lib.hid (show logI x=2139095040 by have:=HM.out;simpa only [if_true,Bool.false_eq_true,if_false,Bool.not_true,Bool.not_false] using this)
    clear HM
    go_enter Tryz.func109,Tryz.ntmps109
    go_wp2_with (first
     | (go_at_call 159;refine (gnought_any _ _ (by omega) (by omega)).mono ?_;rintro e W1 ⟨he,hW1⟩;rw [HO.out] at he;subst he;replace HG:=Lib.hid (show Grown w W1 from grown_trans (by repeat (first | with_reducible exact HG.out | with_reducible refine Grown.setCell ?_ (by simp <;> omega) _ | with_reducible refine Grown.alloc ?_ _ _ | with_reducible refine grown_more ?_ _ | with_reducible refine Grown.drew ?_)) hW1);clear hW1)
     | (go_at_call 122;refine (zero_any 2 _ _).mono ?_;rintro e w1 ⟨he,rfl⟩;rw [HZ.out] at he;subst he)
     | (go_at_call 151;refine (gabove_any _ _ _ (by omega) (by omega) (by omega) (by omega)).mono ?_;rintro e W1 ⟨he,hW1⟩;(first | rw [HA.out] at he);subst he;replace HG:=Lib.hid (show Grown w W1 from grown_trans (by repeat (first | with_reducible exact HG.out | with_reducible refine Grown.setCell ?_ (by simp <;> omega) _ | with_reducible refine Grown.alloc ?_ _ _ | with_reducible refine grown_more ?_ _ | with_reducible refine Grown.drew ?_)) hW1);clear hW1)
     | (go_at_call 98;refine (finite_any 2 _ _ (by omega) (by omega)).mono ?_;rintro e W1 ⟨he,dm,hd⟩;rw [HE.out] at he;subst he;have hW1:=grown_of_drew hd;clear hd;replace HG:=Lib.hid (show Grown w W1 from grown_trans (by repeat (first | with_reducible exact HG.out | with_reducible refine Grown.setCell ?_ (by simp <;> omega) _ | with_reducible refine Grown.alloc ?_ _ _ | with_reducible refine grown_more ?_ _ | with_reducible refine Grown.drew ?_)) hW1);clear hW1)
     | (go_at_call 104;refine (inf_any 2 _ _).mono ?_;rintro e w1 ⟨he,rfl⟩;rw [HI2.out] at he;subst he))
    exact dx_28
   case true=>
    have HP:=Lib.hid (HP0.out rfl rfl)
    have HQ:=Lib.hid (show logI x=logT (frmV (logK x)) (logY (logS (subV (logV x) 1065353216))) by have:=HM.out;simpa only [if_true,Bool.false_eq_true,if_false,Bool.not_true,Bool.not_false] using this)
    clear HM
    go_enter Tryz.func109,Tryz.ntmps109
    go_wp2_with (first
     | (go_at_call 159;refine (gnought_any _ _ (by omega) (by omega)).mono ?_;rintro e W1 ⟨he,hW1⟩;rw [HO.out] at he;subst he;replace HG:=Lib.hid (show Grown w W1 from grown_trans (by repeat (first | with_reducible exact HG.out | with_reducible refine Grown.setCell ?_ (by simp <;> omega) _ | with_reducible refine Grown.alloc ?_ _ _ | with_reducible refine grown_more ?_ _ | with_reducible refine Grown.drew ?_)) hW1);clear hW1)
     | (go_at_call 122;refine (zero_any 2 _ _).mono ?_;rintro e w1 ⟨he,rfl⟩;rw [HZ.out] at he;subst he)
     | (go_at_call 151;refine (gabove_any _ _ _ (by omega) (by omega) (by omega) (by omega)).mono ?_;rintro e W1 ⟨he,hW1⟩;(first | rw [HA.out] at he);subst he;replace HG:=Lib.hid (show Grown w W1 from grown_trans (by repeat (first | with_reducible exact HG.out | with_reducible refine Grown.setCell ?_ (by simp <;> omega) _ | with_reducible refine Grown.alloc ?_ _ _ | with_reducible refine grown_more ?_ _ | with_reducible refine Grown.drew ?_)) hW1);clear hW1)
     | (go_at_call 98;refine (finite_any 2 _ _ (by omega) (by omega)).mono ?_;rintro e W1 ⟨he,dm,hd⟩;rw [HE.out] at he;subst he;have hW1:=grown_of_drew hd;clear hd;replace HG:=Lib.hid (show Grown w W1 from grown_trans (by repeat (first | with_reducible exact HG.out | with_reducible refine Grown.setCell ?_ (by simp <;> omega) _ | with_reducible refine Grown.alloc ?_ _ _ | with_reducible refine grown_more ?_ _ | with_reducible refine Grown.drew ?_)) hW1);clear hW1)
     | (go_at_call 160;refine (gnear_any _ _ x0 x1 HP.out).mono ?_;rintro e W1 ⟨he,hv0,hv1,hk0,hk1,hW1⟩;subst he;replace HG:=Lib.hid (show Grown w W1 from grown_trans (by repeat (first | with_reducible exact HG.out | with_reducible refine Grown.setCell ?_ (by simp <;> omega) _ | with_reducible refine Grown.alloc ?_ _ _ | with_reducible refine grown_more ?_ _ | with_reducible refine Grown.drew ?_)) hW1);clear hW1)
     | (go_at_call 161;refine (gsub_any _ _ _ (by omega) (by omega) (by omega) (by omega)).mono ?_;rintro e W1 ⟨rfl,h0,h1,hW1⟩;replace HG:=Lib.hid (show Grown w W1 from grown_trans (by repeat (first | with_reducible exact HG.out | with_reducible refine Grown.setCell ?_ (by simp <;> omega) _ | with_reducible refine Grown.alloc ?_ _ _ | with_reducible refine grown_more ?_ _ | with_reducible refine Grown.drew ?_)) hW1);clear hW1)
     | (go_at_call 162;refine (gdiv_any _ _ _ (by omega) (by omega) (by omega) (by omega)).mono ?_;rintro e W1 ⟨rfl,h0,h1,hW1⟩;replace HG:=Lib.hid (show Grown w W1 from grown_trans (by repeat (first | with_reducible exact HG.out | with_reducible refine Grown.setCell ?_ (by simp <;> omega) _ | with_reducible refine Grown.alloc ?_ _ _ | with_reducible refine grown_more ?_ _ | with_reducible refine Grown.drew ?_)) hW1);clear hW1)
     | (go_at_call 163;refine (gadd_any _ _ _ (by omega) (by omega) (by omega) (by omega)).mono ?_;rintro e W1 ⟨rfl,h0,h1,hW1⟩;replace HG:=Lib.hid (show Grown w W1 from grown_trans (by repeat (first | with_reducible exact HG.out | with_reducible refine Grown.setCell ?_ (by simp <;> omega) _ | with_reducible refine Grown.alloc ?_ _ _ | with_reducible refine grown_more ?_ _ | with_reducible refine Grown.drew ?_)) hW1);clear hW1)
     | (go_at_call 153;refine (gmul_any _ _ _ (by omega) (by omega) (by omega) (by omega)).mono ?_;rintro e W1 ⟨rfl,h0,h1,hW1⟩;replace HG:=Lib.hid (show Grown w W1 from grown_trans (by repeat (first | with_reducible exact HG.out | with_reducible refine Grown.setCell ?_ (by simp <;> omega) _ | with_reducible refine Grown.alloc ?_ _ _ | with_reducible refine grown_more ?_ _ | with_reducible refine Grown.drew ?_)) hW1);clear hW1)
     | (go_at_call 157;refine (gseries3_any _ _ 1049774373 1053609165 1059760811 _ _ (by omega) (by omega) (by omega) (by omega) (by omega) (by omega) (by omega) (by omega) (by omega) (by omega) (cellsof_new _ [.int .u32 1049774373,.int .u32 1053609165,.int .u32 1059760811] _)).mono ?_;rintro e W1 ⟨rfl,h0,h1,hW1⟩;replace HG:=Lib.hid (show Grown w W1 from grown_trans (by repeat (first | with_reducible exact HG.out | with_reducible refine Grown.setCell ?_ (by simp <;> omega) _ | with_reducible refine Grown.alloc ?_ _ _ | with_reducible refine grown_more ?_ _ | with_reducible refine Grown.drew ?_)) hW1);clear hW1)
     | (go_at_call 156;refine (gfma_any _ _ _ _ (by omega) (by omega) (by omega) (by omega) (by omega) (by omega)).mono ?_;rintro e W1 ⟨rfl,h0,h1,hW1⟩;replace HG:=Lib.hid (show Grown w W1 from grown_trans (by repeat (first | with_reducible exact HG.out | with_reducible refine Grown.setCell ?_ (by simp <;> omega) _ | with_reducible refine Grown.alloc ?_ _ _ | with_reducible refine grown_more ?_ _ | with_reducible refine Grown.drew ?_)) hW1);clear hW1)
     | (go_at_call 155;refine (gint_any _ _ (by omega) (by omega)).mono ?_;rintro e W1 ⟨rfl,h0,h1,hW1⟩;replace HG:=Lib.hid (show Grown w W1 from grown_trans (by repeat (first | with_reducible exact HG.out | with_reducible refine Grown.setCell ?_ (by simp <;> omega) _ | with_reducible refine Grown.alloc ?_ _ _ | with_reducible refine grown_more ?_ _ | with_reducible refine Grown.drew ?_)) hW1);clear hW1))
    exact dx_28

set_option maxRecDepth 100000 in
set_option maxHeartbeats 4000000 in
theorem grun_log (x:Int) (w:World) (x0:0≤x) (x1:x≤4294967295):
  Calls Tryz.prog 107 #[.func (Fn.func 109) #[] #[],.int .u32 x] w fun e w'=>e=.returned (.int .u32 (logI x))∧0≤logI x∧logI x≤4294967295∧Grown w w':=by
 have HG:=Lib.hid (Grown.refl w)
 obtain ⟨C,hC⟩:∃ C,clsI 2 x=C:=⟨_,rfl⟩
 have HB:=Lib.hid (show nanB 2 x=(C==4 || C==5) by unfold nanB;rw [hC])
 have HC:=Lib.hid (show Ending.returned (.int .i64 (clsI 2 x))=.returned (.int .i64 C) by rw [hC])
 have HV:=Lib.hid (show nanB 2 x=true→logI x=2143289344 from fun h=>by unfold logI;rw [h];rfl)
 have HF:=Lib.hid (show Ending.returned (.int .u32 (nanI 2))=.returned (.int .u32 2143289344) by rfl)
 clear hC
 go_enter Tryz.func107,Tryz.ntmps107
 by_cases c4:C=4
 ·subst c4
  exact dx_21
 ·by_cases c5:C=5
  ·subst c5
   exact dx_21
  ·have d4:(C==4)=false:=by simpa using c4
   have d5:(C==5)=false:=by simpa using c5
   have hn:nanB 2 x=false:=by rw [HB.out,d4,d5];rfl
   have HNN:=Lib.hid hn
   clear hn
   go_wp2_with (first
    | (go_at_call 100;refine (class_any _ _ _ x0 x1).mono ?_;rintro e W1 ⟨he,dm,hd⟩;rw [HC.out] at he;subst he;have hW1:=grown_of_drew hd;clear hd;replace HG:=Lib.hid (show Grown w W1 from grown_trans (by repeat (first | with_reducible exact HG.out | with_reducible refine Grown.setCell ?_ (by simp <;> omega) _ | with_reducible refine Grown.alloc ?_ _ _ | with_reducible refine grown_more ?_ _ | with_reducible refine Grown.drew ?_)) hW1);clear hW1)
    | (go_at_call 109;refine (glog_any _ _ x0 x1 HNN.out).mono ?_;rintro e W1 ⟨rfl,h0,h1,hW1⟩;replace HG:=Lib.hid (show Grown w W1 from grown_trans (by repeat (first | with_reducible exact HG.out | with_reducible refine Grown.setCell ?_ (by simp <;> omega) _ | with_reducible refine Grown.alloc ?_ _ _ | with_reducible refine grown_more ?_ _ | with_reducible refine Grown.drew ?_)) hW1);clear hW1))
   go_ret
   exact ⟨rfl,h0,h1,HG.out⟩

set_option maxRecDepth 100000 in
set_option maxHeartbeats 4000000 in
theorem flog_any (x:Int) (w:World) (x0:0≤x) (x1:x≤4294967295):
  Calls Tryz.prog 68 #[.int .u32 x] w fun e w'=>e=.returned (.int .u32 (logI x))∧0≤logI x∧logI x≤4294967295∧Grown w w':=by
 go_enter Tryz.func68,Tryz.ntmps68
 go_wp2_with (go_at_call 107;refine (grun_log _ _ x0 x1).mono ?_;rintro e W1 ⟨rfl,h0,h1,hW1⟩)
 go_ret
 exact ⟨rfl,h0,h1,hW1⟩
end Go.Proofs.YteifobleigfbaaaGreat
