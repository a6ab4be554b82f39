/- The contracts of the landed package act. (Written by gen58.py.) -/
import Derived.Test.YtpjpmmiepfoiaaaGreatActM
import Derived.Test.YtpjpmmiepfoiaaaGreatFun
import Derived.Test.YtpjpmmiepfoiaaaGreatPhi
import Derived.Test.YtpjpmmiepfoiaaaGreatCon
import Derived.Test.YtpjpmmiepfoiaaaGreatTsr
import Derived.Test.YtpjpmmiepfoiaaaGreatTsrB
import Derived.Deep.RegionHeld3
namespace Go.Proofs.YtpjpmmiepfoiaaaGreat
open Go Go.RowKit
set_option linter.unusedVariables false
set_option linter.unusedSimpArgs false

set_option maxHeartbeats 1000000 in
theorem asub_any (a b:Int) (w:World) (a0:0≤a) (a1:a≤4294967295) (b0:0≤b) (b1:b≤4294967295):
  Calls Tryz.prog 106 #[.int .u32 a,.int .u32 b] w fun e w'=>e=.returned (.int .u32 (subV a b))∧0≤subV a b∧subV a b≤4294967295∧Grown w w':=by
 obtain ⟨V,hV⟩:∃ V,subV a b=V:=⟨_,rfl⟩
 obtain ⟨q1,q2,q3,q4,q5,hs,h0,h1⟩:=op_val (sub_shapeE 2 0 a b) hV
 rw [hV]
 have HS:=Lib.hid hs
 clear hs hV
 go_enter Tryz.func106,Tryz.ntmps106
 go_wp2_with fail
 refine (ssub_any 2 0 a b _ a0 a1 b0 b1).mono ?_
 rintro e W1 ⟨he,hW1⟩
 rw [HS.out] at he
 subst he
 have HG:=Lib.hid hW1
 clear hW1
 go_wp2
 go_ret
 exact ⟨rfl,h0,h1,by repeat (first | with_reducible exact HG.out | with_reducible refine Grown.setCell ?_ (by simp <;> omega) _ | with_reducible refine Grown.alloc ?_ _ _ | with_reducible refine grown_more ?_ _ | with_reducible refine Grown.drew ?_)⟩

set_option maxHeartbeats 1000000 in
theorem amul_any (a b:Int) (w:World) (a0:0≤a) (a1:a≤4294967295) (b0:0≤b) (b1:b≤4294967295):
  Calls Tryz.prog 47 #[.int .u32 a,.int .u32 b] w fun e w'=>e=.returned (.int .u32 (mulV a b))∧0≤mulV a b∧mulV a b≤4294967295∧Grown w w':=by
 obtain ⟨V,hV⟩:∃ V,mulV a b=V:=⟨_,rfl⟩
 obtain ⟨q1,q2,q3,q4,q5,hs,h0,h1⟩:=op_val (mul_shape 2 0 a b) hV
 rw [hV]
 have HS:=Lib.hid hs
 clear hs hV
 go_enter Tryz.func47,Tryz.ntmps47
 go_wp2_with fail
 refine (pmul_any 2 0 a b _ a0 a1 b0 b1).mono ?_
 rintro e W1 ⟨he,hW1⟩
 rw [HS.out] at he
 subst he
 have HG:=Lib.hid hW1
 clear hW1
 go_wp2
 go_ret
 exact ⟨rfl,h0,h1,by repeat (first | with_reducible exact HG.out | with_reducible refine Grown.setCell ?_ (by simp <;> omega) _ | with_reducible refine Grown.alloc ?_ _ _ | with_reducible refine grown_more ?_ _ | with_reducible refine Grown.drew ?_)⟩

set_option maxHeartbeats 1000000 in
theorem adiv_any (a b:Int) (w:World) (a0:0≤a) (a1:a≤4294967295) (b0:0≤b) (b1:b≤4294967295):
  Calls Tryz.prog 50 #[.int .u32 a,.int .u32 b] w fun e w'=>e=.returned (.int .u32 (divV a b))∧0≤divV a b∧divV a b≤4294967295∧Grown w w':=by
 obtain ⟨V,hV⟩:∃ V,divV a b=V:=⟨_,rfl⟩
 obtain ⟨q1,q2,q3,q4,q5,hs,h0,h1⟩:=op_val (div_shape 2 0 a b) hV
 rw [hV]
 have HS:=Lib.hid hs
 clear hs hV
 go_enter Tryz.func50,Tryz.ntmps50
 go_wp2_with fail
 refine (qdiv_any 2 0 a b _ a0 a1 b0 b1).mono ?_
 rintro e W1 ⟨he,hW1⟩
 rw [HS.out] at he
 subst he
 have HG:=Lib.hid hW1
 clear hW1
 go_wp2
 go_ret
 exact ⟨rfl,h0,h1,by repeat (first | with_reducible exact HG.out | with_reducible refine Grown.setCell ?_ (by simp <;> omega) _ | with_reducible refine Grown.alloc ?_ _ _ | with_reducible refine grown_more ?_ _ | with_reducible refine Grown.drew ?_)⟩

set_option maxHeartbeats 1000000 in
theorem aint_any (v:Int) (w:World) (v0:-9223372036854775808≤v) (v1:v≤9223372036854775807):
  Calls Tryz.prog 51 #[.int .i64 v] w fun e w'=>e=.returned (.int .u32 (frmV v))∧0≤frmV v∧frmV v≤4294967295∧Grown w w':=by
 obtain ⟨V,hV⟩:∃ V,frmV v=V:=⟨_,rfl⟩
 obtain ⟨q1,q2,q3,q4,q5,hs,h0,h1⟩:=op_val (from_shapeE 2 0 v) hV
 rw [hV]
 have HS:=Lib.hid hs
 clear hs hV
 go_enter Tryz.func51,Tryz.ntmps51
 go_wp2_with fail
 refine (wfromint_any 2 0 v _ v0 v1).mono ?_
 rintro e W1 ⟨he,hW1⟩
 rw [HS.out] at he
 subst he
 have HG:=Lib.hid hW1
 clear hW1
 go_wp2
 go_ret
 exact ⟨rfl,h0,h1,by repeat (first | with_reducible exact HG.out | with_reducible refine Grown.setCell ?_ (by simp <;> omega) _ | with_reducible refine Grown.alloc ?_ _ _ | with_reducible refine grown_more ?_ _ | with_reducible refine Grown.drew ?_)⟩

theorem anon_any (x:Int) (w:World):
  Calls Tryz.prog 70 #[.int .u32 x] w fun e w'=>e=.returned (.int .u32 2143289344)∧Grown w w':=by
 have nan2:nanI 2=2143289344:=by decide
 go_enter Tryz.func70,Tryz.ntmps70
 go_wp2_with (go_at_call 109;refine (nan_any _ _).mono ?_;rintro e w' ⟨rfl,rfl⟩;rw [nan2])
 go_ret
 exact ⟨rfl,Grown.refl _⟩

theorem aasis_any (x:Int) (w:World):
  Calls Tryz.prog 62 #[.int .u32 x] w fun e w'=>e=.returned (.int .u32 x)∧Grown w w':=by
 go_enter Tryz.func62,Tryz.ntmps62
 go_wp2
 go_ret
 exact ⟨rfl,Grown.refl _⟩

theorem aflat_any (x:Int) (w:World):
  Calls Tryz.prog 63 #[.int .u32 x] w fun e w'=>e=.returned (.int .u32 1065353216)∧Grown w w':=by
 go_enter Tryz.func63,Tryz.ntmps63
 go_wp2
 go_ret
 exact ⟨rfl,Grown.refl _⟩

theorem relu_two (x:Int):cmpO 2 x 0=!nanB 2 x∧(nanB 2 x=false→decide (0<cmpC 2 x 0)=lesB 2 0 x):=by
 have h0:nanB 2 0=false:=by decide
 refine ⟨by unfold cmpO;rw [h0];simp,fun h=>?_⟩
 unfold lesB cmpO cmpC
 rw [h0,h]
 cases nouB 2 x <;> cases nouB 2 0 <;> simp <;> omega

set_option maxHeartbeats 1000000 in
theorem arelu_any (x:Int) (w:World) (x0:0≤x) (x1:x≤4294967295):
  Calls Tryz.prog 64 #[.int .u32 x] w fun e w'=>e=.returned (.int .u32 (valA 1 x))∧Grown w w':=by
 obtain ⟨c1,c2⟩:=relu_two x
 have HV:=Lib.hid (show valA 1 x=if nanB 2 x then 2143289344 else if lesB 2 0 x then x else 0 from rfl)
 obtain ⟨C,hC⟩:∃ C,cmpC 2 x 0=C:=⟨_,rfl⟩
 rw [hC] at c2
 cases hn:nanB 2 x
 ·rw [hn] at c1 HV
  have c2:=c2 hn
  have HC:=Lib.hid (show Ending.returned (.tuple #[.int .i64 (cmpC 2 x 0),.bool (cmpO 2 x 0)])=.returned (.tuple #[.int .i64 C,.bool true]) by rw [hC,c1];rfl)
  cases hl:lesB 2 0 x
  all_goals
   rw [hl] at c2 HV
   simp only [decide_eq_true_eq,decide_eq_false_iff_not] at c2
   clear c1 hC hn hl
   go_enter Tryz.func64,Tryz.ntmps64
   go_wp2_with fail
   refine (ocompare_any 2 x 0 _ x0 x1 (by decide) (by decide)).mono ?_
   rintro e W1 ⟨he,hW1⟩
   rw [HC.out] at he
   subst he
   have HG:=Lib.hid hW1
   clear hW1
   go_wp2
   go_ret
   exact ⟨by rw [HV.out];rfl,HG.out⟩
 ·rw [hn] at c1 HV
  have HC:=Lib.hid (show Ending.returned (.tuple #[.int .i64 (cmpC 2 x 0),.bool (cmpO 2 x 0)])=.returned (.tuple #[.int .i64 C,.bool false]) by rw [hC,c1];rfl)
  clear c1 c2 hC hn
  go_enter Tryz.func64,Tryz.ntmps64
  go_wp2_with fail
  refine (ocompare_any 2 x 0 _ x0 x1 (by decide) (by decide)).mono ?_
  rintro e W1 ⟨he,hW1⟩
  rw [HC.out] at he
  subst he
  go_wp2_with fail
  refine (anon_any x _).mono ?_
  rintro e W2 ⟨rfl,hW2⟩
  have HG:=Lib.hid (grown_trans hW1 hW2)
  clear hW1 hW2
  go_wp2
  go_ret
  exact ⟨by rw [HV.out];rfl,HG.out⟩

set_option maxHeartbeats 1000000 in
theorem astep_any (x:Int) (w:World) (x0:0≤x) (x1:x≤4294967295):
  Calls Tryz.prog 65 #[.int .u32 x] w fun e w'=>e=.returned (.int .u32 (sloA 1 x))∧Grown w w':=by
 have HV:=Lib.hid (show sloA 1 x=if lesB 2 0 x then 1065353216 else 0 from rfl)
 cases hl:lesB 2 0 x
 all_goals
  rw [hl] at HV
  have K2:=Lib.hid (show Ending.returned (.bool (lesB 2 0 x))=.returned (.bool _) from by rw [hl])
  clear hl
  go_enter Tryz.func65,Tryz.ntmps65
  go_wp2_with fail
  refine (oless_any 2 0 x _ (by decide) (by decide) x0 x1).mono ?_
  rintro e W2 ⟨he,hW2⟩
  rw [K2.out] at he
  subst he
  have HG:=Lib.hid hW2
  clear hW2
  go_wp2
  go_ret
  exact ⟨by rw [HV.out];rfl,HG.out⟩

set_option maxHeartbeats 1000000 in
theorem atanslo_any (x:Int) (w:World) (x0:0≤x) (x1:x≤4294967295):
  Calls Tryz.prog 67 #[.int .u32 x] w fun e w'=>e=.returned (.int .u32 (sloA 2 x))∧Grown w w':=by
 have HV:=Lib.hid (show sloA 2 x=subV 1065353216 (mulV (tanI x) (tanI x)) from rfl)
 go_enter Tryz.func67,Tryz.ntmps67
 go_wp2_with fail
 refine (ftan_any x _ x0 x1).mono ?_
 rintro e W1 ⟨rfl,t0,t1,hW1⟩
 generalize tanI x=t at HV t0 t1 ⊢
 go_wp2_with fail
 refine (amul_any t t _ t0 t1 t0 t1).mono ?_
 rintro e W2 ⟨rfl,m0,m1,hW2⟩
 generalize mulV t t=m at HV m0 m1 ⊢
 go_wp2_with fail
 refine (asub_any 1065353216 m _ (by decide) (by decide) m0 m1).mono ?_
 rintro e W3 ⟨rfl,-,-,hW3⟩
 have HG:=Lib.hid (grown_trans hW1 (grown_trans hW2 hW3))
 clear hW1 hW2 hW3
 go_wp2
 go_ret
 exact ⟨by rw [HV.out];first | done | rfl,HG.out⟩

def valF (k:Int):Nat:=if k=0 then 62 else if k=1 then 64 else if k=2 then 66 else if k=3 then 68 else 70

def sloF (k:Int):Nat:=if k=0 then 63 else if k=1 then 65 else if k=2 then 67 else if k=3 then 69 else 70

theorem aprog_any (k:Int) (w:World):
  Calls Tryz.prog 32 #[.int .i64 k] w fun e w'=>e=.returned (.tuple #[.func (.func (valF k)) #[] #[],.func (.func (sloF k)) #[] #[],.bool (actB k)])∧w=w':=by
 rcases kind_five k with rfl | rfl | rfl | rfl | ⟨c0,c1,c2,c3⟩
 ·go_enter Tryz.func32,Tryz.ntmps32
  go_wp2
  go_ret3
  exact ⟨rfl,rfl⟩
 ·go_enter Tryz.func32,Tryz.ntmps32
  go_wp2
  go_ret3
  exact ⟨rfl,rfl⟩
 ·go_enter Tryz.func32,Tryz.ntmps32
  go_wp2
  go_ret3
  exact ⟨rfl,rfl⟩
 ·go_enter Tryz.func32,Tryz.ntmps32
  go_wp2
  go_ret3
  exact ⟨rfl,rfl⟩
 ·have v:valF k=70:=by unfold valF;rw [if_neg c0,if_neg c1,if_neg c2,if_neg c3]
  have s:sloF k=70:=by unfold sloF;rw [if_neg c0,if_neg c1,if_neg c2,if_neg c3]
  have a:actB k=false:=decide_eq_false (by omega)
  rw [v,s,a]
  have e0:(k==0)=false:=by simp [c0]
  have e1:(k==1)=false:=by simp [c1]
  have e2:(k==2)=false:=by simp [c2]
  have e3:(k==3)=false:=by simp [c3]
  clear v s a
  go_enter Tryz.func32,Tryz.ntmps32
  go_wp2
  go_ret3
  exact ⟨rfl,rfl⟩

def Vals (K:Nat) (q:Int→Int):Prop:=∀ (x:Int) (W:World),0≤x→x≤4294967295→Calls Tryz.prog K #[.int .u32 x] W fun e W'=>e=.returned (.int .u32 (q x))∧Grown W W'

set_option maxRecDepth 100000 in
theorem val_enters (k:Int):Enters (valF k):=by
 unfold valF
 split
 ·exact fun args w=>by kernel_rfl
 ·split
  ·exact fun args w=>by kernel_rfl
  ·split
   ·exact fun args w=>by kernel_rfl
   ·split
    ·exact fun args w=>by kernel_rfl
    ·exact fun args w=>by kernel_rfl

set_option maxRecDepth 100000 in
theorem slo_enters (k:Int):Enters (sloF k):=by
 unfold sloF
 split
 ·exact fun args w=>by kernel_rfl
 ·split
  ·exact fun args w=>by kernel_rfl
  ·split
   ·exact fun args w=>by kernel_rfl
   ·split
    ·exact fun args w=>by kernel_rfl
    ·exact fun args w=>by kernel_rfl

theorem val_vals (k:Int):Vals (valF k) (valA k):=by
 intro x W x0 x1
 rcases kind_five k with rfl | rfl | rfl | rfl | ⟨c0,c1,c2,c3⟩
 ·exact aasis_any x W
 ·exact arelu_any x W x0 x1
 ·exact (ftan_any x W x0 x1).mono fun e W' ⟨he,_,_,hW⟩=>⟨he,hW⟩
 ·exact (fgel_any x W x0 x1).mono fun e W' ⟨he,_,_,hW⟩=>⟨he,hW⟩
 ·rw [show valF k=70 by unfold valF;rw [if_neg c0,if_neg c1,if_neg c2,if_neg c3],show valA k x=2143289344 by unfold valA;rw [if_neg c0,if_neg c1,if_neg c2,if_neg c3]]
  exact anon_any x W

theorem slo_vals (k:Int):Vals (sloF k) (sloA k):=by
 intro x W x0 x1
 rcases kind_five k with rfl | rfl | rfl | rfl | ⟨c0,c1,c2,c3⟩
 ·exact aflat_any x W
 ·exact astep_any x W x0 x1
 ·exact atanslo_any x W x0 x1
 ·exact (fslo_any x W x0 x1).mono fun e W' ⟨he,_,_,hW⟩=>⟨he,hW⟩
 ·rw [show sloF k=70 by unfold sloF;rw [if_neg c0,if_neg c1,if_neg c2,if_neg c3],show sloA k x=2143289344 by unfold sloA;rw [if_neg c0,if_neg c1,if_neg c2,if_neg c3]]
  exact anon_any x W

set_option maxRecDepth 100000 in
set_option maxHeartbeats 1000000 in
theorem avalue_any (k x:Int) (w:World) (x0:0≤x) (x1:x≤4294967295):
  Calls Tryz.prog 13 #[.int .i64 k,.int .u32 x] w fun e w'=>e=.returned (.int .u32 (valA k x))∧Grown w w':=by
 obtain ⟨Kv,hv⟩:∃ K,valF k=K:=⟨_,rfl⟩
 obtain ⟨Ks,hs⟩:∃ K,sloF k=K:=⟨_,rfl⟩
 obtain ⟨a,ha⟩:∃ a,actB k=a:=⟨_,rfl⟩
 have HP:=Lib.hid (show Ending.returned (.tuple #[.func (.func (valF k)) #[] #[],.func (.func (sloF k)) #[] #[],.bool (actB k)])=.returned (.tuple #[.func (.func Kv) #[] #[],.func (.func Ks) #[] #[],.bool a]) by rw [hv,hs,ha])
 have hK:Enters Kv:=hv▸val_enters k
 have HC:=Lib.hid (hv▸val_vals k:Vals Kv (valA k))
 clear hv hs ha
 go_enter Tryz.func13,Tryz.ntmps13
 go_wp2_with fail
 refine (aprog_any k _).mono ?_
 rintro e w' ⟨he,rfl⟩
 rw [HP.out] at he
 subst he
 go_wp2_with fail
 rw [hK]
 show Calls Tryz.prog Kv _ _ _
 refine (HC.out x _ x0 x1).mono ?_
 rintro e W1 ⟨rfl,hW1⟩
 have HG:=Lib.hid hW1
 clear hW1
 go_wp2
 go_ret
 exact ⟨rfl,HG.out⟩

set_option maxRecDepth 100000 in
set_option maxHeartbeats 1000000 in
theorem aslope_any (k x:Int) (w:World) (x0:0≤x) (x1:x≤4294967295):
  Calls Tryz.prog 15 #[.int .i64 k,.int .u32 x] w fun e w'=>e=.returned (.int .u32 (sloA k x))∧Grown w w':=by
 obtain ⟨Kv,hv⟩:∃ K,valF k=K:=⟨_,rfl⟩
 obtain ⟨Ks,hs⟩:∃ K,sloF k=K:=⟨_,rfl⟩
 obtain ⟨a,ha⟩:∃ a,actB k=a:=⟨_,rfl⟩
 have HP:=Lib.hid (show Ending.returned (.tuple #[.func (.func (valF k)) #[] #[],.func (.func (sloF k)) #[] #[],.bool (actB k)])=.returned (.tuple #[.func (.func Kv) #[] #[],.func (.func Ks) #[] #[],.bool a]) by rw [hv,hs,ha])
 have hK:Enters Ks:=hs▸slo_enters k
 have HC:=Lib.hid (hs▸slo_vals k:Vals Ks (sloA k))
 clear hv hs ha
 go_enter Tryz.func15,Tryz.ntmps15
 go_wp2_with fail
 refine (aprog_any k _).mono ?_
 rintro e w' ⟨he,rfl⟩
 rw [HP.out] at he
 subst he
 go_wp2_with fail
 rw [hK]
 show Calls Tryz.prog Ks _ _ _
 refine (HC.out x _ x0 x1).mono ?_
 rintro e W1 ⟨rfl,hW1⟩
 have HG:=Lib.hid hW1
 clear hW1
 go_wp2
 go_ret
 exact ⟨rfl,HG.out⟩

def TurnsAF (p0:Value) (n:Nat) (q:Nat→Int→Int) (w:World):Prop:=
 ∀ (i:Nat) (v:Int) (W:World),i<n→0≤v→v≤4294967295→Grown w W→Calls Tryz.prog 42 #[.int .i64 i,.int .u32 v,p0] W fun e W'=>e=.returned (.int .u32 (q i v))∧0≤q i v∧q i v≤4294967295∧Grown W W'

set_option maxRecDepth 100000 in
set_option maxHeartbeats 2000000 in
theorem aeachF_any (R C F:Int) (ad:Option Addr) (n c:Nat) (g:Nat→Int) (q:Nat→Int→Int) (p0:Value) (w:World) (hn:n≤16777216) (hr:Reads ad n g w) (hS:TurnsAF p0 n q w):
  Calls Tryz.prog 41 #[.agg #[.int .i64 R,.int .i64 C,.int .i64 F,.slice ad n c],.func (.func 42) #[] #[p0]] w (TenN ⟨R,C,F,n,fun i=>conV 2 F 0 (q i (widV F g i))⟩ w):=by
 have H1:=Lib.hid hr
 have H3:=Lib.hid hS
 have HT:=Lib.hid ((ten_new w (.int .i64 R) (.int .i64 C) (.int .i64 F) (.slice ad n c) 24).grown (Grown.alloc (Grown.refl _) #[.int .i64 0,.int .i64 0,.int .i64 0,.slice none 0 0] 24))
 have HT2:=Lib.hid (ten_new (w.alloc (.cells #[.int .i64 R,.int .i64 C,.int .i64 F,.slice ad n c] 24)) (.int .i64 0) (.int .i64 0) (.int .i64 0) (.slice none 0 0) 24)
 simp only [World.size_alloc] at HT2
 have HG:=Lib.hid (show Grown w ((w.alloc (.cells #[.int .i64 R,.int .i64 C,.int .i64 F,.slice ad n c] 24)).alloc (.cells #[.int .i64 0,.int .i64 0,.int .i64 0,.slice none 0 0] 24)) from gr)
 obtain ⟨G,hG⟩:∃ G:Nat→Int,(fun i=>conV 2 F 0 (q i (widV F g i)))=G:=⟨_,rfl⟩
 have HGG:=Lib.hid (show ∀ i,conV 2 F 0 (q i (widV F g i))=G i from fun i=>by rw [←hG])
 have HGB:Hid (∀ i,i<n→0≤G i∧G i≤4294967295):=Lib.hid fun i hi=>by
  rw [←HGG.out]
  obtain ⟨h0,h1⟩:=con_bd 2 F 0 (q i (widV F g i))
  have:=msk_word F
  omega
 rw [hG]
 clear hr hS hG
 go_enter Tryz.func41,Tryz.ntmps41
 have hmk:=run_make_cap (P:=Tryz.prog) 22 25 (.int .u32 0) 4 Tryz.underlying22 (by kernel_rfl) rfl .i64 .i64 n (by omega) (by omega)
 go_wp2_with fail
 have HS:Hid (TuS w (.int .i64 R) (.int .i64 C) (.int .i64 F) (.slice ad n c) G 0 (.slice (some ⟨w.heap.size+1+1,0,none⟩) 0 n) (((w.alloc (.cells #[.int .i64 R,.int .i64 C,.int .i64 F,.slice ad n c] 24)).alloc (.cells #[.int .i64 0,.int .i64 0,.int .i64 0,.slice none 0 0] 24)).alloc (.cells (madeCells #[.int .u32 0] n) 25))):=
  Lib.hid ⟨gr,HT.out.grown gr,HT2.out.grown gr,by have:=owns_cap ((w.alloc (.cells #[.int .i64 R,.int .i64 C,.int .i64 F,.slice ad n c] 24)).alloc (.cells #[.int .i64 0,.int .i64 0,.int .i64 0,.slice none 0 0] 24)) (w.heap.size+2) n (.int .u32 0) 25 (by simp) (by show n≤9223372036854775807;omega);simp only [World.size_alloc] at this;exact this⟩
 clear hmk HT HT2 HG
 generalize ((w.alloc _).alloc _).alloc _=W2 at HS ⊢
 generalize Value.slice (some ⟨w.heap.size+1+1,0,none⟩) 0 n=V2 at HS ⊢
 go_loopw [5,6,7,15] (fun v _ _ i wr=>∃ k:Nat,k≤n∧i=.int .i64 k∧Hid (TuS w (.int .i64 R) (.int .i64 C) (.int .i64 F) (.slice ad n c) G k v wr)) (fun _ _ _ i _=>n - (intOf i).toNat)
 case atStart=>exact ⟨0,Nat.zero_le _,rfl,HS⟩
 case round=>
  rename World=>wr
  clear HS
  obtain ⟨k,hk,rfl,HS⟩:=hrel
  obtain ⟨p0,p1,p2,p3,p4,_,_,_,_⟩:=HS.out.t1
  by_cases hlt:k<n
  ·obtain ⟨b,off,rfl,hl,hc⟩:∃ b off,ad=some ⟨b,off,none⟩∧b<w.heap.size∧∀ i,i<n→w.cell? ⟨b,off+i,none⟩=some (.int .u32 (g i)):=by
    rcases H1.out.2 with h | h
    ·omega
    ·exact h
   have y:=grown_cell HS.out.g (hc k hlt) hl
   obtain ⟨x0,x1⟩:=H1.out.1 k hlt
   obtain ⟨u0,u1⟩:=wid_bd F g k
   have HU:=Lib.hid (show conV F 2 0 (g k)=widV F g k from rfl)
   have HC:=Lib.hid (fun W hW=>H3.out k (widV F g k) W hlt u0 u1 hW)
   have HY:Hid (conV 2 F 0 (q k (widV F g k))=G k):=Lib.hid (HGG.out k)
   obtain ⟨z0,z1⟩:=con_bd 2 F 0 (q k (widV F g k))
   have zm:=msk_word F
   rw [HY.out] at z0 z1
   obtain ⟨x,hx⟩:∃ x,g k=x:=⟨_,rfl⟩
   rw [hx] at y x0 x1 HU
   obtain ⟨u,hu⟩:∃ u,widV F g k=u:=⟨_,rfl⟩
   rw [hu] at HU HC HY u0 u1
   obtain ⟨v,hv⟩:∃ v,q k u=v:=⟨_,rfl⟩
   rw [hv] at HC HY
   obtain ⟨X,hX⟩:∃ X,G k=X:=⟨_,rfl⟩
   rw [hX] at HY z0 z1
   have HX:=Lib.hid hX
   clear hx hu hv hX hc
   have HZ:=Lib.hid (show X≤4294967295 by omega)
   go_wp2_with fail
   go_region_held3 (fun w'=>w'.cell? ⟨w.heap.size,2,none⟩=some (.int .i64 F)) (go_keep) (first
    | (go_at_call 48;(with_reducible refine (cwiden_any F x _ x0 x1).mono ?_);rintro e W4 ⟨he,hW⟩;rw [HU.out] at he;subst he;replace HS:=Lib.hid (HS.out.grown (grown_trans gr hW));clear hW p0 p1 p2 p3 p4;obtain ⟨p0,p1,p2,p3,p4,_,_,_,_⟩:=HS.out.t1)
    | (go_at_call 42;(with_reducible refine (HC.out _ (grown_trans HS.out.g gr)).mono ?_);rintro e W5 ⟨rfl,v0,v1,hW⟩;replace HS:=Lib.hid (HS.out.grown (grown_trans gr hW));clear hW p0 p1 p2 p3 p4;obtain ⟨p0,p1,p2,p3,p4,_,_,_,_⟩:=HS.out.t1)
    | (go_at_call 84;(with_reducible refine (cnarrow_any F v _ v0 v1).mono ?_);rintro e W6 ⟨he,hW⟩;rw [HY.out] at he;subst he;replace HS:=Lib.hid (HS.out.grown (grown_trans gr hW));clear hW p0 p1 p2 p3 p4;obtain ⟨p0,p1,p2,p3,p4,_,_,_,_⟩:=HS.out.t1)
    | (refine step_append_kept rfl _ _ 22 rfl 25 _ _ 4 rfl rfl rfl rfl rfl rfl (w.heap.size+2) _ k (wordsL k G) rfl (HS.out.own.alloc _) W6.heap.size (.int .u32 X) rfl (by go_simp) rfl (by show k+1≤9223372036854775807;omega) (by show (k+1)*4≤140737488355328;omega) (by have:=HS.out.t2.lies;simp;omega) ?_;intro gg1 cc1 W8 own8 hb8 hs8 hblk hcell hfr hgr hby;have HN8:=Lib.hid ((HS.out.grown (Grown.alloc (Grown.refl W6) #[.int .u32 X] 25)).next HX.out own8 hs8 hcell hfr hgr);clear own8 hb8 hs8 hblk hcell hfr hgr hby p0 p1 p2 p3 p4;obtain ⟨p0,p1,p2,p3,p4,_,_,_,_⟩:=HN8.out.t1))
   go_wp2
   go_roundw
   case rel=>exact ⟨k+1,by omega,by go_num,HN8⟩
   case measure=>simp [intOf];omega
  ·obtain rfl:k=n:=by omega
   obtain ⟨xd,xc,rfl,hO,hbl⟩:=owns_told (w:=w) HS.out.own (by omega)
   have HO:=Lib.hid hO
   have HF:Hid (∀ x,xd=some x→x.block≠w.heap.size+1):=Lib.hid fun x hx=>by have:=hbl x hx;omega
   obtain ⟨r0,r1,r2,r3,r4,_,_,_,_⟩:=HS.out.t2
   have HG:=Lib.hid HS.out.g
   clear HS hO hbl
   go_wp2
   (try simp only [Exit.inBlock,Exit.then])
   refine bodyPost_ret (v:=.agg #[.int .i64 R,.int .i64 C,.int .i64 F,.slice xd k xc]) ?_ rfl ⟨_,_,rfl,?_,(fun i hi=>HGB.out i hi),gr⟩
   ·rw [results_one rfl]
    go_simp
   ·exact (((HO.out.set HF.out _).set HF.out _).set HF.out _).set HF.out _

def TurnsAB (p0 p1:Value) (n:Nat) (q:Nat→Int→Int) (w:World):Prop:=
 ∀ (i:Nat) (v:Int) (W:World),i<n→0≤v→v≤4294967295→Grown w W→Calls Tryz.prog 46 #[.int .i64 i,.int .u32 v,p0,p1] W fun e W'=>e=.returned (.int .u32 (q i v))∧0≤q i v∧q i v≤4294967295∧Grown W W'

set_option maxRecDepth 100000 in
set_option maxHeartbeats 2000000 in
theorem aeachB_any (R C F:Int) (ad:Option Addr) (n c:Nat) (g:Nat→Int) (q:Nat→Int→Int) (p0 p1:Value) (w:World) (hn:n≤16777216) (hr:Reads ad n g w) (hS:TurnsAB p0 p1 n q w):
  Calls Tryz.prog 41 #[.agg #[.int .i64 R,.int .i64 C,.int .i64 F,.slice ad n c],.func (.func 46) #[] #[p0,p1]] w (TenN ⟨R,C,F,n,fun i=>conV 2 F 0 (q i (widV F g i))⟩ w):=by
 have H1:=Lib.hid hr
 have H3:=Lib.hid hS
 have HT:=Lib.hid ((ten_new w (.int .i64 R) (.int .i64 C) (.int .i64 F) (.slice ad n c) 24).grown (Grown.alloc (Grown.refl _) #[.int .i64 0,.int .i64 0,.int .i64 0,.slice none 0 0] 24))
 have HT2:=Lib.hid (ten_new (w.alloc (.cells #[.int .i64 R,.int .i64 C,.int .i64 F,.slice ad n c] 24)) (.int .i64 0) (.int .i64 0) (.int .i64 0) (.slice none 0 0) 24)
 simp only [World.size_alloc] at HT2
 have HG:=Lib.hid (show Grown w ((w.alloc (.cells #[.int .i64 R,.int .i64 C,.int .i64 F,.slice ad n c] 24)).alloc (.cells #[.int .i64 0,.int .i64 0,.int .i64 0,.slice none 0 0] 24)) from gr)
 obtain ⟨G,hG⟩:∃ G:Nat→Int,(fun i=>conV 2 F 0 (q i (widV F g i)))=G:=⟨_,rfl⟩
 have HGG:=Lib.hid (show ∀ i,conV 2 F 0 (q i (widV F g i))=G i from fun i=>by rw [←hG])
 have HGB:Hid (∀ i,i<n→0≤G i∧G i≤4294967295):=Lib.hid fun i hi=>by
  rw [←HGG.out]
  obtain ⟨h0,h1⟩:=con_bd 2 F 0 (q i (widV F g i))
  have:=msk_word F
  omega
 rw [hG]
 clear hr hS hG
 go_enter Tryz.func41,Tryz.ntmps41
 have hmk:=run_make_cap (P:=Tryz.prog) 22 25 (.int .u32 0) 4 Tryz.underlying22 (by kernel_rfl) rfl .i64 .i64 n (by omega) (by omega)
 go_wp2_with fail
 have HS:Hid (TuS w (.int .i64 R) (.int .i64 C) (.int .i64 F) (.slice ad n c) G 0 (.slice (some ⟨w.heap.size+1+1,0,none⟩) 0 n) (((w.alloc (.cells #[.int .i64 R,.int .i64 C,.int .i64 F,.slice ad n c] 24)).alloc (.cells #[.int .i64 0,.int .i64 0,.int .i64 0,.slice none 0 0] 24)).alloc (.cells (madeCells #[.int .u32 0] n) 25))):=
  Lib.hid ⟨gr,HT.out.grown gr,HT2.out.grown gr,by have:=owns_cap ((w.alloc (.cells #[.int .i64 R,.int .i64 C,.int .i64 F,.slice ad n c] 24)).alloc (.cells #[.int .i64 0,.int .i64 0,.int .i64 0,.slice none 0 0] 24)) (w.heap.size+2) n (.int .u32 0) 25 (by simp) (by show n≤9223372036854775807;omega);simp only [World.size_alloc] at this;exact this⟩
 clear hmk HT HT2 HG
 generalize ((w.alloc _).alloc _).alloc _=W2 at HS ⊢
 generalize Value.slice (some ⟨w.heap.size+1+1,0,none⟩) 0 n=V2 at HS ⊢
 go_loopw [5,6,7,15] (fun v _ _ i wr=>∃ k:Nat,k≤n∧i=.int .i64 k∧Hid (TuS w (.int .i64 R) (.int .i64 C) (.int .i64 F) (.slice ad n c) G k v wr)) (fun _ _ _ i _=>n - (intOf i).toNat)
 case atStart=>exact ⟨0,Nat.zero_le _,rfl,HS⟩
 case round=>
  rename World=>wr
  clear HS
  obtain ⟨k,hk,rfl,HS⟩:=hrel
  obtain ⟨p0,p1,p2,p3,p4,_,_,_,_⟩:=HS.out.t1
  by_cases hlt:k<n
  ·obtain ⟨b,off,rfl,hl,hc⟩:∃ b off,ad=some ⟨b,off,none⟩∧b<w.heap.size∧∀ i,i<n→w.cell? ⟨b,off+i,none⟩=some (.int .u32 (g i)):=by
    rcases H1.out.2 with h | h
    ·omega
    ·exact h
   have y:=grown_cell HS.out.g (hc k hlt) hl
   obtain ⟨x0,x1⟩:=H1.out.1 k hlt
   obtain ⟨u0,u1⟩:=wid_bd F g k
   have HU:=Lib.hid (show conV F 2 0 (g k)=widV F g k from rfl)
   have HC:=Lib.hid (fun W hW=>H3.out k (widV F g k) W hlt u0 u1 hW)
   have HY:Hid (conV 2 F 0 (q k (widV F g k))=G k):=Lib.hid (HGG.out k)
   obtain ⟨z0,z1⟩:=con_bd 2 F 0 (q k (widV F g k))
   have zm:=msk_word F
   rw [HY.out] at z0 z1
   obtain ⟨x,hx⟩:∃ x,g k=x:=⟨_,rfl⟩
   rw [hx] at y x0 x1 HU
   obtain ⟨u,hu⟩:∃ u,widV F g k=u:=⟨_,rfl⟩
   rw [hu] at HU HC HY u0 u1
   obtain ⟨v,hv⟩:∃ v,q k u=v:=⟨_,rfl⟩
   rw [hv] at HC HY
   obtain ⟨X,hX⟩:∃ X,G k=X:=⟨_,rfl⟩
   rw [hX] at HY z0 z1
   have HX:=Lib.hid hX
   clear hx hu hv hX hc
   have HZ:=Lib.hid (show X≤4294967295 by omega)
   go_wp2_with fail
   go_region_held3 (fun w'=>w'.cell? ⟨w.heap.size,2,none⟩=some (.int .i64 F)) (go_keep) (first
    | (go_at_call 48;(with_reducible refine (cwiden_any F x _ x0 x1).mono ?_);rintro e W4 ⟨he,hW⟩;rw [HU.out] at he;subst he;replace HS:=Lib.hid (HS.out.grown (grown_trans gr hW));clear hW p0 p1 p2 p3 p4;obtain ⟨p0,p1,p2,p3,p4,_,_,_,_⟩:=HS.out.t1)
    | (go_at_call 46;(with_reducible refine (HC.out _ (grown_trans HS.out.g gr)).mono ?_);rintro e W5 ⟨rfl,v0,v1,hW⟩;replace HS:=Lib.hid (HS.out.grown (grown_trans gr hW));clear hW p0 p1 p2 p3 p4;obtain ⟨p0,p1,p2,p3,p4,_,_,_,_⟩:=HS.out.t1)
    | (go_at_call 84;(with_reducible refine (cnarrow_any F v _ v0 v1).mono ?_);rintro e W6 ⟨he,hW⟩;rw [HY.out] at he;subst he;replace HS:=Lib.hid (HS.out.grown (grown_trans gr hW));clear hW p0 p1 p2 p3 p4;obtain ⟨p0,p1,p2,p3,p4,_,_,_,_⟩:=HS.out.t1)
    | (refine step_append_kept rfl _ _ 22 rfl 25 _ _ 4 rfl rfl rfl rfl rfl rfl (w.heap.size+2) _ k (wordsL k G) rfl (HS.out.own.alloc _) W6.heap.size (.int .u32 X) rfl (by go_simp) rfl (by show k+1≤9223372036854775807;omega) (by show (k+1)*4≤140737488355328;omega) (by have:=HS.out.t2.lies;simp;omega) ?_;intro gg1 cc1 W8 own8 hb8 hs8 hblk hcell hfr hgr hby;have HN8:=Lib.hid ((HS.out.grown (Grown.alloc (Grown.refl W6) #[.int .u32 X] 25)).next HX.out own8 hs8 hcell hfr hgr);clear own8 hb8 hs8 hblk hcell hfr hgr hby p0 p1 p2 p3 p4;obtain ⟨p0,p1,p2,p3,p4,_,_,_,_⟩:=HN8.out.t1))
   go_wp2
   go_roundw
   case rel=>exact ⟨k+1,by omega,by go_num,HN8⟩
   case measure=>simp [intOf];omega
  ·obtain rfl:k=n:=by omega
   obtain ⟨xd,xc,rfl,hO,hbl⟩:=owns_told (w:=w) HS.out.own (by omega)
   have HO:=Lib.hid hO
   have HF:Hid (∀ x,xd=some x→x.block≠w.heap.size+1):=Lib.hid fun x hx=>by have:=hbl x hx;omega
   obtain ⟨r0,r1,r2,r3,r4,_,_,_,_⟩:=HS.out.t2
   have HG:=Lib.hid HS.out.g
   clear HS hO hbl
   go_wp2
   (try simp only [Exit.inBlock,Exit.then])
   refine bodyPost_ret (v:=.agg #[.int .i64 R,.int .i64 C,.int .i64 F,.slice xd k xc]) ?_ rfl ⟨_,_,rfl,?_,(fun i hi=>HGB.out i hi),gr⟩
   ·rw [results_one rfl]
    go_simp
   ·exact (((HO.out.set HF.out _).set HF.out _).set HF.out _).set HF.out _

set_option maxRecDepth 100000 in
set_option maxHeartbeats 2000000 in
theorem amasks_any (R C drop seed stream:Int) (w:World) (d0:0≤drop) (d1:drop≤4294967295) (s0:0≤seed) (s1:seed≤18446744073709551615) (t0:0≤stream) (t1:stream≤4294967295):
  Calls Tryz.prog 22 #[.int .i64 R,.int .i64 C,.int .u32 drop,.int .u64 seed,.int .u32 stream] w (TenM (masT R C drop seed stream) w):=by
 have hnf:newF 2=2:=by decide
 have hnl:=new_small R C
 have HQ:=Lib.hid (show kepV drop=divV (frmV 4294967296) (frmV (4294967296 - drop)) from rfl)
 obtain ⟨q0,q1⟩:=kepV_bd drop
 obtain ⟨Q,hQ⟩:∃ Q,kepV drop=Q:=⟨_,rfl⟩
 rw [hQ] at HQ q0 q1
 have HV:Hid (∀ t,masV drop seed stream t=if phWord seed stream t<drop then 0 else Q):=Lib.hid fun t=>by unfold masV;rw [hQ]
 have HB:Hid (∀ t:Nat,0≤masV drop seed stream t∧masV drop seed stream t≤4294967295):=Lib.hid fun t=>by rw [HV.out];split <;> omega
 unfold masT
 generalize masV drop seed stream=G at HV HB ⊢
 obtain ⟨D,hD⟩:∃ D,4294967296 - drop=D:=⟨_,rfl⟩
 rw [hD] at HQ
 have hD0:1≤D:=by omega
 have hD1:D≤4294967296:=by omega
 have hwd:IntKind.i64.wrap drop=drop:=by rw [IntKind.wrap_i64];omega
 have hwD:IntKind.i64.wrap D=D:=by rw [IntKind.wrap_i64];omega
 have HR:=Lib.hid (show ∀ W,Calls Tryz.prog 52 #[.int .i64 R,.int .i64 C,.int .i64 2] W fun e w'=>∃ b,e=.returned (.agg #[.int .i64 (newR R C),.int .i64 (newC R C),.int .i64 2,.slice (some ⟨b,0,none⟩) ((newR R C).toNat*(newC R C).toNat) ((newR R C).toNat*(newC R C).toNat)])∧W.heap.size≤b∧Rowed b ((newR R C).toNat*(newC R C).toNat) (fun _=>0) w'∧Grown W w' from fun W=>by have:=tnew_any R C 2 W;rw [hnf] at this;exact this)
 clear hnf hQ
 generalize newR R C=nR at HR hnl ⊢
 generalize newC R C=nC at HR hnl ⊢
 generalize nR.toNat*nC.toNat=n at HR hnl ⊢
 have HT1:=Lib.hid (ten_new w (.int .i64 0) (.int .i64 0) (.int .i64 0) (.slice none 0 0) 24)
 have HG:=Lib.hid (show Grown w (w.alloc (.cells #[.int .i64 0,.int .i64 0,.int .i64 0,.slice none 0 0] 24)) from gr)
 go_enter Tryz.func22,Tryz.ntmps22
 go_wp2_with fail
 generalize w.alloc _=W0 at HT1 HG ⊢
 refine (aint_any 4294967296 _ (by decide) (by decide)).mono ?_
 rintro e V1 ⟨rfl,f0,f1,hV1⟩
 replace HG:=Lib.hid (grown_trans HG.out hV1)
 replace HT1:=Lib.hid (HT1.out.grown hV1)
 clear hV1
 generalize frmV 4294967296=fa at HQ f0 f1 ⊢
 go_wp2_with fail
 refine (aint_any D _ (by omega) (by omega)).mono ?_
 rintro e V2 ⟨rfl,g0,g1,hV2⟩
 replace HG:=Lib.hid (grown_trans HG.out hV2)
 replace HT1:=Lib.hid (HT1.out.grown hV2)
 clear hV2
 generalize frmV D=fb at HQ g0 g1 ⊢
 go_wp2_with fail
 refine (adiv_any fa fb _ f0 f1 g0 g1).mono ?_
 rw [←HQ.out]
 rintro e V3 ⟨rfl,-,-,hV3⟩
 replace HG:=Lib.hid (grown_trans HG.out hV3)
 replace HT1:=Lib.hid (HT1.out.grown hV3)
 clear hV3 HQ f0 f1 g0 g1
 go_wp2_with fail
 refine (HR.out _).mono ?_
 rintro e W1 ⟨b,rfl,hb,hRo,hW1⟩
 have hb2:w.heap.size<b:=Nat.lt_of_lt_of_le HT1.out.lies hb
 replace HT1:=Lib.hid (HT1.out.grown hW1)
 replace HG:=Lib.hid (grown_trans HG.out hW1)
 clear hW1 hb
 have hob:W1.heap.size≠b:=by have:=hRo.lies;omega
 have hob2:W1.heap.size≠w.heap.size:=by have:=HT1.out.lies;omega
 have HS:Hid (MaS w W1.heap.size b n (.int .i64 nR) (.int .i64 nC) (.int .i64 2) (.slice (some ⟨b,0,none⟩) n n) (fun t=>if t<0 then G t else 0) (W1.alloc (.cells #[.int .i64 nR,.int .i64 nC,.int .i64 2,.slice (some ⟨b,0,none⟩) n n] 24))):=
  Lib.hid ⟨gr,HT1.out.grown gr,ten_new _ _ _ _ _ _,(hRo.grown gr).congr (fun t ht=>if_neg (Nat.not_lt_zero t)),by omega,hob,hob2,by omega⟩
 clear hRo hob hob2 HT1 HG hb2
 have hcell:=HS.out.t2
 obtain ⟨p0,p1,p2,p3,p4,_,_,_,_⟩:=hcell
 go_wp2_with fail
 clear p0 p1 p2 p3 p4
 generalize W1.alloc _=W2 at HS ⊢
 generalize W1.heap.size=ob at HS ⊢
 go_loopw [13,26] (fun _ i wr=>∃ k:Nat,k≤n∧i=.int .i64 k∧Hid (MaS w ob b n (.int .i64 nR) (.int .i64 nC) (.int .i64 2) (.slice (some ⟨b,0,none⟩) n n) (fun t=>if t<k then G t else 0) wr)) (fun _ i _=>n - (intOf i).toNat)
 case atStart=>exact ⟨0,Nat.zero_le _,rfl,HS⟩
 case round=>
  rename World=>wr
  clear HS
  obtain ⟨k,hk,rfl,HS⟩:=hrel
  obtain ⟨p0,p1,p2,p3,p4,_,_,_,_⟩:=HS.out.t2
  by_cases hlt:k<n
  ·have hw64:IntKind.u64.wrap (k:Int)=k:=by rw [IntKind.wrap_u64];omega
   obtain ⟨Wd,hWd⟩:∃ Wd,phWord seed stream k=Wd:=⟨_,rfl⟩
   have HW:=Lib.hid hWd
   have HX:Hid (G k=if Wd<drop then 0 else Q):=Lib.hid (by rw [HV.out,hWd])
   clear hWd
   go_wp2_with fail
   refine (pword_any seed stream k _ s0 s1 t0 t1 (by omega) (by omega)).mono ?_
   rintro e W4 ⟨he,hW⟩
   rw [HW.out] at he
   subst he
   replace HS:=Lib.hid (HS.out.grown hW)
   clear p0 p1 p2 p3 p4 hW
   obtain ⟨p0,p1,p2,p3,p4,_,_,_,_⟩:=HS.out.t2
   have y:=(HS.out.r.cell k hlt).trans (by rw [if_neg (Nat.lt_irrefl k)])
   have z:=HS.out.r.free k
   by_cases hd:Wd<drop
   ·have hd2:¬drop≤Wd:=by omega
    have HY:Hid (G k=0):=Lib.hid (by rw [HX.out,if_pos hd])
    go_wp2
    go_roundw
    case rel=>exact ⟨k+1,by omega,by go_num,Lib.hid (HS.out.congr (fun t ht=>by
     show (if t<k+1 then G t else 0)=if t<k then G t else 0
     by_cases c:t<k
     ·rw [if_pos c,if_pos (by omega)]
     ·by_cases e:t=k
      ·rw [if_neg c,if_pos (by omega),e,HY.out]
      ·rw [if_neg c,if_neg (by omega)]))⟩
    case measure=>simp [intOf];omega
   ·have hd2:drop≤Wd:=by omega
    have HY:Hid (G k=Q):=Lib.hid (by rw [HX.out,if_neg hd])
    go_wp2
    go_roundw
    case rel=>exact ⟨k+1,by omega,by go_num,Lib.hid (HS.out.set (by show (if k<k+1 then G k else 0)=_;rw [if_pos (Nat.lt_succ_self k)];exact HY.out) (fun t ht=>by
     show (if t<k+1 then G t else 0)=if t<k then G t else 0
     by_cases c:t<k
     ·rw [if_pos c,if_pos (by omega)]
     ·rw [if_neg c,if_neg (by omega)]))⟩
    case measure=>simp [intOf];omega
  ·obtain rfl:k=n:=by omega
   obtain ⟨r0,r1,r2,r3,r4,r5,r6,r7,r8⟩:=HS.out.t1
   have HG:=Lib.hid HS.out.g
   have hne:b≠w.heap.size:=fun h=>HS.out.n1 h.symm
   have hne2:¬ob=w.heap.size:=HS.out.n3
   have hne3:¬w.heap.size=ob:=fun h=>HS.out.n3 h.symm
   go_wp2
   (try simp only [Exit.inBlock,Exit.then])
   refine bodyPost_ret (v:=.agg #[.int .i64 nR,.int .i64 nC,.int .i64 2,.slice (some ⟨b,0,none⟩) k k]) ?_ rfl ⟨_,_,rfl,?_,hnl,gr⟩
   ·rw [results_one rfl]
    go_simp
   ·refine ⟨fun i hi=>HB.out i,.inr ⟨b,0,rfl,?_,fun i hi=>?_⟩⟩
    ·simpa [World.setCell] using HS.out.r.lies
    ·rw [Nat.zero_add]
     exact ((((((HS.out.r.congr (fun t ht=>(if_pos ht).symm)).other (a:=⟨w.heap.size,0,none⟩) hne _).other (a:=⟨w.heap.size,1,none⟩) hne _).other (a:=⟨w.heap.size,2,none⟩) hne _).other (a:=⟨w.heap.size,3,none⟩) hne _)).cell i hi
end Go.Proofs.YtpjpmmiepfoiaaaGreat
