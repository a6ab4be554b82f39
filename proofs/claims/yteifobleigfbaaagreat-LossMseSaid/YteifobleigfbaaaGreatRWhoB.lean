/- The contracts of the reference's To, Widen, Narrow. The contracts of the reference's Compare, Less, Min, Max. The contracts of the reference's FromInt, ToInt, Round, Scale. The contracts of the reference's FromInt, ToInt, Round, Scale. (Written by gen22.py.) -/
import Derived.Test.YteifobleigfbaaaGreatDict
import Derived.Test.YteifobleigfbaaaGreatFunMath
import Derived.Test.YteifobleigfbaaaGreatRRdT
import Derived.Test.YteifobleigfbaaaGreatWorld
import Derived.KernelRfl
import Derived.StillTailTactics
import Derived.Handy
import Derived.Test.YteifobleigfbaaaGreatNans
namespace Go.Proofs.YteifobleigfbaaaGreat
open Go.RowKit
set_option linter.unusedVariables false
set_option linter.unusedSimpArgs false

theorem con_one_under (W:World) (a:Value) (C:Array Value) (t u:TypeId):((W.alloc (.cells C t)).alloc (.cells #[a] u)).cell? ⟨W.heap.size+1,0,none⟩=some a:=by go_simp

set_option maxRecDepth 100000 in
set_option maxHeartbeats 4000000 in
theorem rto_any (f g mode a:Int) (w:World) (a0:0≤a) (a1:a≤4294967295):
  Calls Tryz.prog 110 #[.int .i64 f,.int .i64 g,.int .i64 mode,.int .u32 a] w fun e w'=>e=conE f g mode a∧Grown w w':=by
 have HE:=Lib.hid ((exc_new w 75).under1 #[.int .u32 a] 29)
 have HG:=Lib.hid (Grown.alloc (Grown.alloc (Grown.refl w) #[.bool false,.bool false,.bool false,.bool false,.bool false] 75) #[.int .u32 a] 29)
 have HC:=Lib.hid (con_one_under w (.int .u32 a) #[.bool false,.bool false,.bool false,.bool false,.bool false] 75 29)
 obtain ⟨e0,e1⟩:=unE_bd f a
 obtain ⟨m0,m1⟩:=unM_bd f a
 have hk1:=con_nan f g mode a
 have hk2:=con_inf f g mode a
 have hk3:=con_fin f g mode a
 obtain ⟨NN,hNN⟩:∃ NN,nanB f a=NN:=⟨_,rfl⟩
 obtain ⟨SS,hSS⟩:∃ SS,sigB f a=SS:=⟨_,rfl⟩
 obtain ⟨II,hII⟩:∃ II,infB f a=II:=⟨_,rfl⟩
 obtain ⟨s,hs⟩:∃ s,fS f a=s:=⟨_,rfl⟩
 obtain ⟨x,hx⟩:∃ x,unE f a=x:=⟨_,rfl⟩
 obtain ⟨p,hp⟩:∃ p,unM f a=p:=⟨_,rfl⟩
 have HUa:=Lib.hid (show Ending.returned (.tuple #[.bool (fS f a),.int .i64 (unE f a),.int .u64 (unM f a)])=.returned (.tuple #[.bool s,.int .i64 x,.int .u64 p]) by rw [hs,hx,hp])
 rw [hNN,hSS] at hk1
 rw [hNN,hII,hs] at hk2
 rw [hNN,hII,hs,hx,hp] at hk3
 rw [hx] at e0 e1
 rw [hp] at m0 m1
 have HNN:=Lib.hid hNN
 have HSS:=Lib.hid hSS
 have HII:=Lib.hid hII
 have HS:=Lib.hid hs
 clear hNN hSS hII hs hx hp
 cases NN
 case true=>
  have HQ:=Lib.hid (hk1 rfl)
  exact dx_24
 case false=>
  cases II
  case true=>
   have HQ:=Lib.hid (hk2 rfl rfl)
   exact dx_24
  case false=>
   have HQ:=Lib.hid (hk3 rfl rfl)
   clear hk1 hk2 hk3
   go_enter Tryz.func110,Tryz.ntmps110
   go_wp2_with fail
   generalize ((w.alloc _).alloc _)=W4 at HE HG HC ⊢
   have y0:=HC.out
   refine (nans1_any f a _ _ a0 a1 y0).mono ?_
   rintro e w' ⟨he,m,rfl⟩
   rw [HNN.out,HSS.out] at he
   subst he
   clear y0
   obtain ⟨xb,x0,x1,x2,x3,x4,z0,z1,z2,z3,z4⟩:=HE.out
   go_wp2_with (first
    | (go_at_call 88;refine (rnan_any _ _).mono ?_;rintro e w' ⟨rfl,dm,rfl⟩)
    | (go_at_call 91;refine (rinf_any _ _ _).mono ?_;rintro e w' ⟨rfl,dm,rfl⟩)
    | (go_at_call 90;refine (rinfB_any _ _ _ (by omega) (by omega)).mono ?_;rintro e w' ⟨he,dm,rfl⟩;rw [HII.out] at he;subst he)
    | (go_at_call 89;refine (rneg_any _ _ _ (by omega) (by omega)).mono ?_;rintro e w' ⟨he,dm,rfl⟩;rw [HS.out] at he;subst he)
    | (go_at_call 53;refine (runpack_any _ _ _ a0 a1).mono ?_;rintro e w' ⟨he,dm,rfl⟩;rw [HUa.out] at he;subst he))
   refine (rpack_any _ _ _ _ _ _ _ (by omega) (by omega) (by omega) (by omega)).mono ?_
   exact dx_40

set_option maxHeartbeats 1000000 in
theorem rwiden_any (f a:Int) (w:World) (a0:0≤a) (a1:a≤4294967295):
  Calls Tryz.prog 69 #[.int .i64 f,.int .u32 a] w fun e w'=>e=.returned (.int .u32 (conV f 2 0 a))∧Grown w w':=by
 go_enter Tryz.func69,Tryz.ntmps69
 go_wp2_with fail
 refine (rto_any f 2 0 a _ a0 a1).mono ?_
 rintro e W1 ⟨he,hW⟩
 unfold conE at he
 subst he
 have HG:=Lib.hid hW
 clear hW
 go_wp2
 exact dx_29

theorem one_new (W:World) (a:Value) (u:TypeId):(W.alloc (.cells #[a] u)).cell? ⟨W.heap.size,0,none⟩=some a:=by go_simp

theorem two_new (W:World) (a b:Value) (u:TypeId):
  (W.alloc (.cells #[a,b] u)).cell? ⟨W.heap.size,0,none⟩=some a∧(W.alloc (.cells #[a,b] u)).cell? ⟨W.heap.size,1,none⟩=some b:=by
 refine ⟨?_,?_⟩ <;> go_simp

set_option maxHeartbeats 4000000 in
theorem rcompare_any (f a b:Int) (w:World) (a0:0≤a) (a1:a≤4294967295) (b0:0≤b) (b1:b≤4294967295):
  Calls Tryz.prog 24 #[.int .i64 f,.int .u32 a,.int .u32 b] w fun e w'=>e=.returned (.tuple #[.int .i64 (cmpC f a b),.bool (cmpO f a b)])∧Grown w w':=by
 obtain ⟨NN,hNN⟩:∃ NN,(nanB f a || nanB f b)=NN:=⟨_,rfl⟩
 obtain ⟨SS,hSS⟩:∃ SS,(sigB f a || sigB f b)=SS:=⟨_,rfl⟩
 obtain ⟨ZA,hZA⟩:∃ ZA,nouB f a=ZA:=⟨_,rfl⟩
 obtain ⟨ZB,hZB⟩:∃ ZB,nouB f b=ZB:=⟨_,rfl⟩
 obtain ⟨x,hx⟩:∃ x,keyI f a=x:=⟨_,rfl⟩
 obtain ⟨y,hy⟩:∃ y,keyI f b=y:=⟨_,rfl⟩
 have HM:=Lib.hid (show Ending.returned (.tuple #[.int .i64 (cmpC f a b),.bool (cmpO f a b)])=.returned (.tuple #[.int .i64 (if NN=true then 0 else if (ZA&&ZB)=true then 0 else if x<y then -1 else if y<x then 1 else 0),.bool (!NN)]) by
  unfold cmpC cmpO;rw [hNN,hZA,hZB,hx,hy])
 have HNN:=Lib.hid hNN
 have HSS:=Lib.hid hSS
 have HZA:=Lib.hid hZA
 have HZB:=Lib.hid hZB
 have HXa:=Lib.hid hx
 have HXb:=Lib.hid hy
 clear hNN hSS hZA hZB hx hy
 have HC:=Lib.hid (two_new w (.int .u32 a) (.int .u32 b) 29)
 have HG:=Lib.hid (Grown.alloc (Grown.refl w) #[.int .u32 a,.int .u32 b] 29)
 cases NN
 case true=>
  go_enter Tryz.func24,Tryz.ntmps24
  go_wp2_with fail
  generalize (w.alloc _)=W4 at HC HG ⊢
  obtain ⟨y0,y1⟩:=HC.out
  refine (nans2_any f a b _ _ a0 a1 b0 b1 y0 y1).mono ?_
  rintro e w' ⟨he,dm,rfl⟩
  rw [HNN.out,HSS.out] at he
  subst he
  clear y0 y1
  go_wp2
  go_ret2
  exact ⟨(show _ from HM.out).symm▸rfl,grown_more HG.out _⟩
 case false=>
  have hcase:(ZA=true∧ZB=true)∨(ZA=true∧ZB=false)∨ZA=false:=by cases ZA <;> cases ZB <;> simp
  rcases hcase with ⟨rfl,rfl⟩ | hz
  ·go_enter Tryz.func24,Tryz.ntmps24
   go_wp2_with fail
   generalize (w.alloc _)=W4 at HC HG ⊢
   obtain ⟨y0,y1⟩:=HC.out
   refine (nans2_any f a b _ _ a0 a1 b0 b1 y0 y1).mono ?_
   rintro e w' ⟨he,dm,rfl⟩
   rw [HNN.out,HSS.out] at he
   subst he
   clear y0 y1
   go_wp2_with (go_at_call 59;refine (rnouB_any _ _ _ (by omega) (by omega)).mono ?_;rintro e w' ⟨he,dm,rfl⟩;(first | rw [HZA.out] at he | rw [HZB.out] at he);subst he)
   go_ret2
   exact ⟨(show _ from HM.out).symm▸rfl,by repeat (first | with_reducible exact HG.out | with_reducible refine grown_more ?_ _)⟩
  ·have hk:x<y∨(¬x<y∧y<x)∨(¬x<y∧¬y<x):=by omega
   rcases hz with ⟨rfl,rfl⟩ | rfl
   ·exact dx_37
   ·exact dx_37

set_option maxHeartbeats 4000000 in
theorem rless_any (f a b:Int) (w:World) (a0:0≤a) (a1:a≤4294967295) (b0:0≤b) (b1:b≤4294967295):
  Calls Tryz.prog 76 #[.int .i64 f,.int .u32 a,.int .u32 b] w fun e w'=>e=.returned (.bool (lesB f a b))∧Grown w w':=by
 obtain ⟨C,hC⟩:∃ C,cmpC f a b=C:=⟨_,rfl⟩
 obtain ⟨O,hO⟩:∃ O,cmpO f a b=O:=⟨_,rfl⟩
 have HM:=Lib.hid (show lesB f a b=(O&&decide (C<0)) by unfold lesB;rw [hC,hO])
 have HCO:=Lib.hid (show Ending.returned (.tuple #[.int .i64 (cmpC f a b),.bool (cmpO f a b)])=.returned (.tuple #[.int .i64 C,.bool O]) by rw [hC,hO])
 clear hC hO
 cases O
 all_goals
  go_enter Tryz.func76,Tryz.ntmps76
  go_wp2_with (go_at_call 24;refine (rcompare_any _ _ _ _ (by omega) (by omega) (by omega) (by omega)).mono ?_;rintro e W1 ⟨he,hW1⟩;rw [HCO.out] at he;subst he;have HG:=Lib.hid hW1;clear hW1)
  go_ret
  exact ⟨ret_bool (by rw [HM.out];simp),HG.out⟩

set_option maxHeartbeats 4000000 in
theorem rpick_any (f a b:Int) (p:Bool) (w:World) (a0:0≤a) (a1:a≤4294967295) (b0:0≤b) (b1:b≤4294967295):
  Calls Tryz.prog 70 #[.int .i64 f,.int .u32 a,.int .u32 b,.bool p] w fun e w'=>e=.returned (.int .u32 (pickI f a b p))∧Grown w w':=by
 obtain ⟨NA,hNA⟩:∃ NA,nanB f a=NA:=⟨_,rfl⟩
 obtain ⟨NB,hNB⟩:∃ NB,nanB f b=NB:=⟨_,rfl⟩
 have HM:=Lib.hid (show pickI f a b p=if (NA&&NB)=true then nanI f else if (NA || (!NB&&!p))=true then bits .and .u32 b (msk f) else bits .and .u32 a (msk f) by unfold pickI;rw [hNA,hNB])
 have HNA:=Lib.hid hNA
 have HNB:=Lib.hid hNB
 clear hNA hNB
 have HC:=Lib.hid (one_new w (.int .u32 a) 29)
 have HG:=Lib.hid (Grown.alloc (Grown.refl w) #[.int .u32 a] 29)
 cases NA
 all_goals
  cases NB
  all_goals
   cases p
   all_goals
    go_enter Tryz.func70,Tryz.ntmps70
    go_wp2_with fail
    generalize (w.alloc _)=W4 at HC HG ⊢
    have y0:=HC.out
    refine (nans1_any f a _ _ a0 a1 y0).mono ?_
    rintro e w' ⟨he,dm,rfl⟩
    rw [HNA.out] at he
    subst he
    clear y0
    go_wp2_with fail
    have HG5:=Lib.hid (Grown.alloc (grown_more HG.out dm) #[.int .u32 b] 29)
    have y1:((W4.drewN dm).alloc (.cells #[.int .u32 b] 29)).cell? ⟨W4.heap.size,0,none⟩=some (.int .u32 b):=one_new (W4.drewN dm) (.int .u32 b) 29
    generalize ((W4.drewN dm).alloc _)=W5 at y1 HG5 ⊢
    refine (nans1_any f b _ _ b0 b1 y1).mono ?_
    rintro e w' ⟨he,dm2,rfl⟩
    rw [HNB.out] at he
    subst he
    clear y1
    go_wp2_with (first
     | (go_at_call 61;refine (rmask_any _ _).mono ?_;rintro e w' ⟨rfl,rfl⟩)
     | (go_at_call 88;refine (rnan_any _ _).mono ?_;rintro e w' ⟨rfl,m,rfl⟩))
    go_ret
    exact ⟨ret_int (by rw [HM.out];rfl),by repeat (first | with_reducible exact HG5.out | with_reducible refine grown_more ?_ _)⟩

set_option maxHeartbeats 4000000 in
theorem rmax_any (f a b:Int) (w:World) (a0:0≤a) (a1:a≤4294967295) (b0:0≤b) (b1:b≤4294967295):
  Calls Tryz.prog 36 #[.int .i64 f,.int .u32 a,.int .u32 b] w fun e w'=>e=.returned (.int .u32 (maxO f a b))∧Grown w w':=by
 obtain ⟨x,hx⟩:∃ x,keyI f a=x:=⟨_,rfl⟩
 obtain ⟨y,hy⟩:∃ y,keyI f b=y:=⟨_,rfl⟩
 have HM:=Lib.hid (show maxO f a b=pickI f a b (decide (y≤x)) by unfold maxO;rw [hx,hy])
 have HXa:=Lib.hid hx
 have HXb:=Lib.hid hy
 clear hx hy
 go_enter Tryz.func36,Tryz.ntmps36
 go_wp2_with (first
  | (go_at_call 60;refine (rkey_any _ _ _ (by omega) (by omega)).mono ?_;rintro e w' ⟨he,dm,rfl⟩;(first | rw [HXa.out] at he | rw [HXb.out] at he);subst he)
  | (go_at_call 70;refine (rpick_any _ _ _ _ _ (by omega) (by omega) (by omega) (by omega)).mono ?_;rintro e W1 ⟨he,hW1⟩;subst he;have HG:=Lib.hid hW1;clear hW1))
 go_ret
 exact ⟨ret_int (by rw [HM.out]),grown_trans (by repeat (first | with_reducible exact Grown.refl _ | with_reducible refine grown_more ?_ _)) HG.out⟩

theorem ret_bub {p q p' q':Bool} {a b:Int} (h:p=p') (g:a=b) (i:q=q'):Ending.returned (.tuple #[.bool p,.int .u64 a,.bool q])=.returned (.tuple #[.bool p',.int .u64 b,.bool q']):=by rw [h,g,i]

theorem pack_agg (f mode:Int) (n:Bool) (V:Nat):PackE f mode n V=.returned (.tuple #[.int .u32 (rdV f mode n V),.agg #[.bool false,.bool false,.bool (rdO f mode n V),.bool (rdU f V),.bool (rdX f mode n V)]]):=rfl

set_option maxRecDepth 100000 in
set_option maxHeartbeats 2000000 in
theorem runits_any (f mode a:Int) (w:World) (a0:0≤a) (a1:a≤4294967295):
    Calls Tryz.prog 111 #[.int .i64 f,.int .i64 mode,.int .u32 a] w fun e w'=>e=.returned (.tuple #[.bool (fS f a),.int .u64 (unU f mode a),.bool (whX f a)])∧∃ m,w'=w.drewN m:=by
  obtain ⟨e0,e1⟩:=unE_bd f a
  obtain ⟨m0,m1⟩:=unM_bd f a
  obtain ⟨u0,u1,-⟩:=unu_is f mode a
  by_cases c:0≤unE f a
  · have hx:whX f a=false:=by unfold whX;simp;omega
    have hu:unU f mode a=if 39<unE f a∧0<unM f a then 4611686018427387904 else unM f a*2^(unE f a).toNat:=by
      unfold unU;rw [whn_up f mode a c]
    obtain ⟨x,hX⟩:∃ x,unE f a=x:=⟨_,rfl⟩
    obtain ⟨p,hP⟩:∃ p,unM f a=p:=⟨_,rfl⟩
    obtain ⟨s,hs⟩:∃ s,fS f a=s:=⟨_,rfl⟩
    have HU:=Lib.hid (show Ending.returned (.tuple #[.bool (fS f a),.int .i64 (unE f a),.int .u64 (unM f a)])=.returned (.tuple #[.bool s,.int .i64 x,.int .u64 p]) by rw [hs,hX,hP])
    rw [hX,hP] at hu
    rw [hX] at e0 e1 c
    rw [hP] at m0 m1
    have HX:=Lib.hid hx
    have HUU:=Lib.hid hu
    have HS:=Lib.hid hs
    clear hx hs hX hP
    by_cases c1:39<x∧0<p
    · rw [if_pos c1] at hu
      have c1a:=c1.1
      have c1b:=c1.2
      have HV:=Lib.hid hu
      clear hu c1
      go_enter Tryz.func111,Tryz.ntmps111
      go_wp2_with (go_at_call 53;refine (runpack_any _ _ _ a0 a1).mono ?_;rintro e w' ⟨he,dm,rfl⟩;rw [HU.out] at he;subst he)
      go_ret3
      exact ⟨ret_bub HS.out.symm HV.out.symm HX.out.symm,_,rfl⟩
    · rw [if_neg c1] at hu
      have hcase:39<x∧p=0∨x≤39:=by omega
      clear c1
      have HV:=Lib.hid hu
      rcases hcase with ⟨c2,rfl⟩ | c2
      · clear hu
        go_enter Tryz.func111,Tryz.ntmps111
        go_wp2_with (go_at_call 53;refine (runpack_any _ _ _ a0 a1).mono ?_;rintro e w' ⟨he,dm,rfl⟩;rw [HU.out] at he;subst he)
        go_quiet (fail)
        go_wp2
        go_ret3
        exact ⟨ret_bub HS.out.symm (by rw [HV.out];simp) HX.out.symm,by first | exact ⟨_,rfl⟩ | exact ⟨_,World.drewN_drewN _ _ _⟩⟩
      · have hw:IntKind.u64.wrap (p*2^x.toNat)=p*2^x.toNat:=u64w _ (by omega) (by omega)
        clear hu
        go_enter Tryz.func111,Tryz.ntmps111
        go_wp2_with (go_at_call 53;refine (runpack_any _ _ _ a0 a1).mono ?_;rintro e w' ⟨he,dm,rfl⟩;rw [HU.out] at he;subst he)
        go_quiet (fail)
        go_wp2
        go_ret3
        exact ⟨ret_bub HS.out.symm (by rw [HV.out]) HX.out.symm,by first | exact ⟨_,rfl⟩ | exact ⟨_,World.drewN_drewN _ _ _⟩⟩
  · obtain ⟨s',hs'⟩:∃ k:Nat,k=(-unE f a).toNat:=⟨_,rfl⟩
    obtain ⟨M,hM⟩:∃ M:Nat,M=(unM f a).toNat:=⟨_,rfl⟩
    have hMi:unM f a=(M:Int):=by omega
    have hsi:-unE f a=(s':Int):=by omega
    have hMb:(M:Int)<16777216:=by omega
    obtain ⟨k1,k2,k3⟩:=dv_whole M s' (by omega) (by omega) (by omega)
    have hQl:=Nat.div_le_self M (2^s')
    have hcb:=cat_bd s' M
    have hu:unU f mode a=((M / 2^s':Nat):Int)+((growB mode (fS f a) (M / 2^s') (catU s' M)).toNat:Int):=by
      unfold unU;rw [if_neg (by omega)]
      unfold whN;rw [if_neg c,←hs',←hM];omega
    have hx:whX f a=(dvH M s' || dvR M s'):=by
      unfold whX;rw [←hs',←hM,k2,k3,show decide (unE f a<0)=true by simp;omega,Bool.true_and,Bool.eq_iff_iff,Bool.or_eq_true,decide_eq_true_eq,decide_eq_true_eq,bne_iff_ne]
      omega
    have hg:=up_grow mode (fS f a) (M / 2^s') (catU s' M) (dvH M s') (dvR M s') hcb k2 k3
    obtain ⟨Q,hQ⟩:∃ Q,M / 2^s'=Q:=⟨_,rfl⟩
    rw [hQ] at hQl k1 hu hg
    have hand:=and_one (dvK (M:Int) s') (by omega) (by omega)
    have hkb:0≤dvK (M:Int) s'∧dvK (M:Int) s'≤16777216:=by omega
    rw [←k1] at hg
    rw [←k1,←hg] at hu
    obtain ⟨x,hX⟩:∃ x,unE f a=x:=⟨_,rfl⟩
    obtain ⟨s,hs⟩:∃ s,fS f a=s:=⟨_,rfl⟩
    have HU:=Lib.hid (show Ending.returned (.tuple #[.bool (fS f a),.int .i64 (unE f a),.int .u64 (unM f a)])=.returned (.tuple #[.bool s,.int .i64 x,.int .u64 (M:Int)]) by rw [hs,hX,hMi])
    rw [hs] at hu
    obtain ⟨K,hK⟩:∃ K,dvK (M:Int) s'=K:=⟨_,rfl⟩
    obtain ⟨H,hH⟩:∃ H,dvH (M:Int) s'=H:=⟨_,rfl⟩
    obtain ⟨R,hR⟩:∃ R,dvR (M:Int) s'=R:=⟨_,rfl⟩
    have HD:=Lib.hid (show Ending.returned (.tuple #[.int .u64 (dvK (M:Int) s'),.bool (dvH (M:Int) s'),.bool (dvR (M:Int) s')])=.returned (.tuple #[.int .u64 K,.bool H,.bool R]) by rw [hK,hH,hR])
    rw [hK] at hand hkb
    rw [hK,hH,hR] at hu
    rw [hH,hR] at hx
    obtain ⟨O,hO⟩:∃ O,(K%2==1)=O:=⟨_,rfl⟩
    rw [hO] at hu
    obtain ⟨B,hB⟩:∃ B,bits .and .u64 K 1=B:=⟨_,rfl⟩
    rw [←hand,hB] at hO
    obtain ⟨G,hG⟩:∃ G,upB mode s O H R=G:=⟨_,rfl⟩
    rw [hG] at hu
    rw [hX] at e0 e1 c hsi
    obtain ⟨P,hP⟩:∃ P:Int,(M:Int)=P:=⟨_,rfl⟩
    obtain ⟨j,hj⟩:∃ j:Int,(s':Int)=j:=⟨_,rfl⟩
    rw [hP] at HU hMb
    rw [hP,hj] at HD
    rw [hj] at hsi
    have hP0:0≤P:=by omega
    have HX:=Lib.hid hx
    have HV:=Lib.hid hu
    have HS:=Lib.hid hs
    have HGr:=Lib.hid hG
    have hw1:IntKind.u64.wrap (K+1)=K+1:=u64w _ (by omega) (by omega)
    clear hand hx hu hs hG k1 k2 k3 hg hK hH hR hX hM hMi hs' hQ hQl hP hj
    cases G
    all_goals
     cases H
     all_goals
      go_enter Tryz.func111,Tryz.ntmps111
      go_wp2_with (first
        | (go_at_call 53;refine (runpack_any _ _ _ a0 a1).mono ?_;rintro e w' ⟨he,dm,rfl⟩;rw [HU.out] at he;subst he)
        | (go_at_call 132;refine (rdivide_any _ _ _ (by omega) (by omega) (by omega) (by omega)).mono ?_;rintro e w' ⟨he,rfl⟩;rw [HD.out] at he;subst he)
        | (go_at_call 133;refine (rup_any _ _ _ _ _ _).mono ?_;rintro e w' ⟨he,rfl⟩;rw [HGr.out] at he;subst he))
      go_ret3
      exact ⟨ret_bub HS.out.symm (by rw [HV.out];simp) (by rw [HX.out];simp),_,rfl⟩

set_option maxHeartbeats 2000000 in
theorem rfromint_any (f mode v:Int) (w:World) (v0:-9223372036854775808≤v) (v1:v≤9223372036854775807):
  Calls Tryz.prog 51 #[.int .i64 f,.int .i64 mode,.int .i64 v] w fun e w'=>e=fromE f mode v∧Grown w w':=by
 have HX0:=Lib.hid (exc_new w 75)
 have HG0:=Lib.hid (Grown.alloc (Grown.refl w) #[.bool false,.bool false,.bool false,.bool false,.bool false] 75)
 by_cases c:v<0
 ·have HQ:=Lib.hid (show fromE f mode v=PackE f mode true (valN (clampE 0) (-v) false) from (if_pos c))
  have hw:IntKind.u64.wrap (-IntKind.u64.wrap v)=-v:=by rw [IntKind.wrap_u64,IntKind.wrap_u64];omega
  have hw2:IntKind.u64.wrap v=18446744073709551616+v:=by rw [IntKind.wrap_u64];omega
  have hw3:IntKind.u64.wrap (-(18446744073709551616+v))=-v:=by rw [IntKind.wrap_u64];omega
  go_enter Tryz.func51,Tryz.ntmps51
  go_wp2_with fail
  refine (rpack_any _ _ _ _ (-v) _ _ (by omega) (by omega) (by omega) (by omega)).mono ?_
  rintro e W1 ⟨he,hW1⟩
  rw [pack_agg] at he
  exact dx_17
 ·have HQ:=Lib.hid (show fromE f mode v=PackE f mode false (valN (clampE 0) v false) from (if_neg c))
  have hw2:IntKind.u64.wrap v=v:=by rw [IntKind.wrap_u64];omega
  go_enter Tryz.func51,Tryz.ntmps51
  go_wp2_with fail
  refine (rpack_any _ _ _ _ v _ _ (by omega) (by omega) (by omega) (by omega)).mono ?_
  rintro e W1 ⟨he,hW1⟩
  rw [pack_agg] at he
  exact dx_17

set_option maxHeartbeats 4000000 in
theorem rtoint_any (f mode a:Int) (w:World) (a0:0≤a) (a1:a≤4294967295):
  Calls Tryz.prog 71 #[.int .i64 f,.int .i64 mode,.int .u32 a] w fun e w'=>e=toE f mode a∧Grown w w':=by
 have HX0:=Lib.hid (exc_new w 75)
 have HG0:=Lib.hid (Grown.alloc (Grown.refl w) #[.bool false,.bool false,.bool false,.bool false,.bool false] 75)
 obtain ⟨u0,u1,u2,u3,u4⟩:=unu_is f mode a
 obtain ⟨V,hV⟩:∃ V,finI f a=V:=⟨_,rfl⟩
 obtain ⟨s,hs⟩:∃ s,fS f a=s:=⟨_,rfl⟩
 obtain ⟨U,hU⟩:∃ U,unU f mode a=U:=⟨_,rfl⟩
 obtain ⟨X,hX⟩:∃ X,whX f a=X:=⟨_,rfl⟩
 obtain ⟨N,hN⟩:∃ N:Int,(whN f mode a:Int)=N:=⟨_,rfl⟩
 have HM:=Lib.hid (show toE f mode a=if (!V || decide (2147483648<N) || (decide (N=2147483648)&&!s))=true then Ending.returned (.tuple #[.int .i32 (-2147483648),.agg #[.bool true,.bool false,.bool false,.bool false,.bool false]])
   else Ending.returned (.tuple #[.int .i32 (if s then -N else N),.agg #[.bool false,.bool false,.bool false,.bool false,.bool X]]) by
  have e1:decide (2147483648<whN f mode a)=decide (2147483648<N):=by rw [←hN,Bool.eq_iff_iff];simp;omega
  have e2:decide (whN f mode a=2147483648)=decide (N=2147483648):=by rw [←hN,Bool.eq_iff_iff];simp;omega
  unfold toE noInt;rw [hV,hs,hX,hN,e1,e2])
 have HUn:=Lib.hid (show Ending.returned (.tuple #[.bool (fS f a),.int .u64 (unU f mode a),.bool (whX f a)])=.returned (.tuple #[.bool s,.int .u64 U,.bool X]) by rw [hs,hU,hX])
 rw [hU] at u0 u1 u2 u3 u4
 have hUN:(2147483648<U∧2147483648<N)∨(U=2147483648∧N=2147483648)∨(U<2147483648∧N=U):=by omega
 have HV:=Lib.hid hV
 clear u2 u3 u4 hV hs hU hX hN
 cases V
 case false=>
  have HQ:=Lib.hid (HM.out.trans (if_pos rfl))
  clear HM
  exact dx_15
 case true=>
  rcases hUN with ⟨c1,c2⟩ | ⟨rfl,rfl⟩ | ⟨c1,rfl⟩
  ·have HQ:=Lib.hid (HM.out.trans (if_pos (by simp [c2])))
   clear HM
   exact dx_15
  ·cases s
   ·have HQ:=Lib.hid (HM.out.trans (if_pos (by decide)))
    clear HM
    exact dx_15
   ·have HQ:=Lib.hid (HM.out.trans (if_neg (by decide)))
    clear HM
    have hi:IntKind.i32.wrap (-2147483648)=-2147483648:=by decide
    have hi2:IntKind.i64.wrap 2147483648=2147483648:=by decide
    have hi3:wrap64 2147483648=2147483648:=by simp [wrap64]
    exact dx_15
  ·cases s
   ·have HQ:=Lib.hid (HM.out.trans (if_neg (by simp;omega)))
    clear HM
    have hi:IntKind.i32.wrap N=N:=by rw [IntKind.wrap_i32];omega
    exact dx_15
   ·have HQ:=Lib.hid (HM.out.trans (if_neg (by simp;omega)))
    clear HM
    have hi:IntKind.i32.wrap (-N)=-N:=by rw [IntKind.wrap_i32];omega
    have hi2:IntKind.i64.wrap N=N:=by rw [IntKind.wrap_i64];omega
    have hi3:wrap64 N=N:=by rw [wrap64_is];exact hi2
    exact dx_15

theorem w_one_under (W:World) (a:Value) (C:Array Value) (t u:TypeId):((W.alloc (.cells C t)).alloc (.cells #[a] u)).cell? ⟨W.heap.size+1,0,none⟩=some a:=by go_simp

set_option maxRecDepth 100000 in
set_option maxHeartbeats 4000000 in
theorem rscale_any (f mode a n:Int) (w:World) (a0:0≤a) (a1:a≤4294967295) (n0:-9223372036854775808≤n) (n1:n≤9223372036854775807):
  Calls Tryz.prog 112 #[.int .i64 f,.int .i64 mode,.int .u32 a,.int .i64 n] w fun e w'=>e=scaE f mode a n∧Grown w w':=by
 have HE:=Lib.hid ((exc_new w 75).under1 #[.int .u32 a] 29)
 have HG:=Lib.hid (Grown.alloc (Grown.alloc (Grown.refl w) #[.bool false,.bool false,.bool false,.bool false,.bool false] 75) #[.int .u32 a] 29)
 have HC:=Lib.hid (w_one_under w (.int .u32 a) #[.bool false,.bool false,.bool false,.bool false,.bool false] 75 29)
 obtain ⟨e0,e1⟩:=unE_bd f a
 obtain ⟨m0,m1⟩:=unM_bd f a
 obtain ⟨NN,hNN⟩:∃ NN,nanB f a=NN:=⟨_,rfl⟩
 obtain ⟨SS,hSS⟩:∃ SS,sigB f a=SS:=⟨_,rfl⟩
 obtain ⟨V,hV⟩:∃ V,finI f a=V:=⟨_,rfl⟩
 obtain ⟨s,hs⟩:∃ s,fS f a=s:=⟨_,rfl⟩
 obtain ⟨x,hx⟩:∃ x,unE f a=x:=⟨_,rfl⟩
 obtain ⟨p,hp⟩:∃ p,unM f a=p:=⟨_,rfl⟩
 obtain ⟨L,hL⟩:∃ L,limI n=L:=⟨_,rfl⟩
 have HUa:=Lib.hid (show Ending.returned (.tuple #[.bool (fS f a),.int .i64 (unE f a),.int .u64 (unM f a)])=.returned (.tuple #[.bool s,.int .i64 x,.int .u64 p]) by rw [hs,hx,hp])
 have HM:=Lib.hid (show scaE f mode a n=if NN=true then Ending.returned (.tuple #[.int .u32 (nanI f),.agg #[.bool SS,.bool false,.bool false,.bool false,.bool false]]) else if V=false then inxE (bits .and .u32 a (msk f)) false else PackE f mode s (valN (clampE (x+L)) p false) by
  unfold scaE;rw [hNN,hSS,hV,hs,hx,hp,hL])
 obtain ⟨l0,l1⟩:=lim_bd n
 rw [hL] at l0 l1
 rw [hx] at e0 e1
 rw [hp] at m0 m1
 obtain ⟨R,hR⟩:∃ R,(if n < -5000 then -5000 else n)=R:=⟨_,rfl⟩
 have hR2:(if 5000<R then 5000 else R)=L:=by rw [←hL,←hR];unfold limI;(repeat' split) <;> omega
 have HNN:=Lib.hid hNN
 have HSS:=Lib.hid hSS
 have HV:=Lib.hid hV
 clear hNN hSS hV hs hx hp hL
 cases NN
 case true=>
  have HQ:=Lib.hid (HM.out.trans (if_pos rfl))
  clear HM
  go_enter Tryz.func112,Tryz.ntmps112
  go_wp2_with fail
  generalize ((w.alloc _).alloc _)=W4 at HE HG HC ⊢
  have y0:=HC.out
  refine (nans1_any f a _ _ a0 a1 y0).mono ?_
  rintro e w' ⟨he,m,rfl⟩
  rw [HNN.out,HSS.out] at he
  subst he
  clear y0
  obtain ⟨xb,x0,x1,x2,x3,x4,z0,z1,z2,z3,z4⟩:=HE.out
  go_wp2_with (first
   | (go_at_call 88;refine (rnan_any _ _).mono ?_;rintro e w' ⟨rfl,m,rfl⟩)
   | (go_at_call 61;refine (rmask_any _ _).mono ?_;rintro e w' ⟨rfl,rfl⟩)
   | (go_at_call 53;refine (runpack_any _ _ _ a0 a1).mono ?_;rintro e w' ⟨he,dm,rfl⟩;rw [HUa.out] at he;subst he)
   | (go_at_call 23;refine (rfinite_any _ _ _ (by omega) (by omega)).mono ?_;rintro e w' ⟨he,dm,rfl⟩;rw [HV.out] at he;subst he))
  (try simp only [Exit.inBlock,Exit.then])
  refine bodyPost_ret ?_ rfl ⟨HQ.out.symm,?_⟩
  ·rw [results_tmp_cell rfl]
   go_simp
  ·repeat (first | with_reducible exact HG.out | with_reducible refine Grown.setCell ?_ (by simp <;> omega) _ | with_reducible refine Grown.alloc ?_ _ _ | with_reducible refine grown_more ?_ _ | with_reducible refine Grown.drew ?_)
 case false=>
  cases V
  case false=>
   have HQ:=Lib.hid (HM.out.trans ((if_neg (by decide)).trans (if_pos rfl)))
   clear HM
   go_enter Tryz.func112,Tryz.ntmps112
   go_wp2_with fail
   generalize ((w.alloc _).alloc _)=W4 at HE HG HC ⊢
   have y0:=HC.out
   refine (nans1_any f a _ _ a0 a1 y0).mono ?_
   rintro e w' ⟨he,m,rfl⟩
   rw [HNN.out,HSS.out] at he
   subst he
   clear y0
   obtain ⟨xb,x0,x1,x2,x3,x4,z0,z1,z2,z3,z4⟩:=HE.out
   go_wp2_with (first
    | (go_at_call 88;refine (rnan_any _ _).mono ?_;rintro e w' ⟨rfl,m,rfl⟩)
    | (go_at_call 61;refine (rmask_any _ _).mono ?_;rintro e w' ⟨rfl,rfl⟩)
    | (go_at_call 53;refine (runpack_any _ _ _ a0 a1).mono ?_;rintro e w' ⟨he,dm,rfl⟩;rw [HUa.out] at he;subst he)
    | (go_at_call 23;refine (rfinite_any _ _ _ (by omega) (by omega)).mono ?_;rintro e w' ⟨he,dm,rfl⟩;rw [HV.out] at he;subst he))
   (try simp only [Exit.inBlock,Exit.then])
   refine bodyPost_ret (v:=.tuple #[.int .u32 (bits .and .u32 a (msk f)),.agg #[.bool false,.bool false,.bool false,.bool false,.bool false]]) ?_ rfl ⟨(show _=inxE _ _ from rfl).trans HQ.out.symm,?_⟩
   ·rw [results_tmp_cell rfl]
    go_simp
   ·repeat (first | with_reducible exact HG.out | with_reducible refine Grown.setCell ?_ (by simp <;> omega) _ | with_reducible refine Grown.alloc ?_ _ _ | with_reducible refine grown_more ?_ _ | with_reducible refine Grown.drew ?_)
  case true=>
   have HQ:=Lib.hid (HM.out.trans ((if_neg (by decide)).trans (if_neg (by decide))))
   clear HM
   go_enter Tryz.func112,Tryz.ntmps112
   go_wp2_with fail
   generalize ((w.alloc _).alloc _)=W4 at HE HG HC ⊢
   have y0:=HC.out
   refine (nans1_any f a _ _ a0 a1 y0).mono ?_
   rintro e w' ⟨he,m,rfl⟩
   rw [HNN.out,HSS.out] at he
   subst he
   clear y0
   obtain ⟨xb,x0,x1,x2,x3,x4,z0,z1,z2,z3,z4⟩:=HE.out
   go_wp2_with (first
    | (go_at_call 88;refine (rnan_any _ _).mono ?_;rintro e w' ⟨rfl,m,rfl⟩)
    | (go_at_call 61;refine (rmask_any _ _).mono ?_;rintro e w' ⟨rfl,rfl⟩)
    | (go_at_call 53;refine (runpack_any _ _ _ a0 a1).mono ?_;rintro e w' ⟨he,dm,rfl⟩;rw [HUa.out] at he;subst he)
    | (go_at_call 23;refine (rfinite_any _ _ _ (by omega) (by omega)).mono ?_;rintro e w' ⟨he,dm,rfl⟩;rw [HV.out] at he;subst he))
   refine (rpack_any _ _ _ _ _ _ _ (by omega) (by omega) (by omega) (by omega)).mono ?_
   rintro e W5 ⟨he,hW5⟩
   rw [pack_agg] at he
   subst he
   have HG5:=Lib.hid (show Grown w W5 from grown_trans (by repeat (first | with_reducible exact HG.out | with_reducible refine grown_more ?_ _ | with_reducible refine Grown.drew ?_)) hW5)
   exact dx_25
end Go.Proofs.YteifobleigfbaaaGreat
