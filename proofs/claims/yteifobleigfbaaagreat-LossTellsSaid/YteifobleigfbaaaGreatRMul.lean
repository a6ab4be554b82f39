/- The contract of the reference's Mul. (Written by gen11.py.) What the contract of the reference's Fma leans on. (Written by gen11.py.) -/
import Derived.Test.YteifobleigfbaaaGreatDict
import Derived.Test.YteifobleigfbaaaGreatRd
import Derived.Test.YteifobleigfbaaaGreatNans
import Derived.Test.YteifobleigfbaaaGreatAdd
namespace Go.Proofs.YteifobleigfbaaaGreat
open Go.RowKit
set_option linter.unusedVariables false
set_option linter.unusedSimpArgs false

theorem nou_inf (f a:Int):(nouB f a=true∧infB f a=false)∨(nouB f a=false∧infB f a=true)∨(nouB f a=false∧infB f a=false):=by
 unfold nouB infB
 by_cases h:clsI f a=0
 ·rw [h];exact .inl ⟨rfl,rfl⟩
 ·by_cases g:clsI f a=3
  ·rw [g];exact .inr (.inl ⟨rfl,rfl⟩)
  ·exact .inr (.inr ⟨by simpa using h,by simpa using g⟩)

set_option maxRecDepth 100000 in
set_option maxHeartbeats 16000000 in
theorem rmul_any (f mode a b:Int) (w:World) (a0:0≤a) (a1:a≤4294967295) (b0:0≤b) (b1:b≤4294967295):
  Calls Tryz.prog 96 #[.int .i64 f,.int .i64 mode,.int .u32 a,.int .u32 b] w fun e w'=>e=mulE f mode a b∧Grown w w':=by
 have HE:=Lib.hid ((exc_new w 75).under1 #[.int .u32 a,.int .u32 b] 29)
 have HG:=Lib.hid (Grown.alloc (Grown.alloc (Grown.refl w) #[.bool false,.bool false,.bool false,.bool false,.bool false] 75) #[.int .u32 a,.int .u32 b] 29)
 have HC:=Lib.hid (cells2b w #[.bool false,.bool false,.bool false,.bool false,.bool false] 75 (.int .u32 a) (.int .u32 b) 29)
 obtain ⟨e0,e1⟩:=unE_bd f a
 have e2:=unE_top f a
 obtain ⟨d0,d1⟩:=unE_bd f b
 have d2:=unE_top f b
 obtain ⟨t0,t1,t2⟩:=mul_bd f a b
 have ham:amtP f a b=amtE (unE f a+unE f b) (unM f a*unM f b):=rfl
 have hxa:=nou_inf f a
 have hxb:=nou_inf f b
 obtain ⟨x,hx⟩:∃ x,unE f a=x:=⟨_,rfl⟩
 obtain ⟨y,hy⟩:∃ y,unE f b=y:=⟨_,rfl⟩
 obtain ⟨p,hp⟩:∃ p,unM f a=p:=⟨_,rfl⟩
 obtain ⟨q,hq⟩:∃ q,unM f b=q:=⟨_,rfl⟩
 obtain ⟨n,hn⟩:∃ n,(fS f a)=n:=⟨_,rfl⟩
 obtain ⟨m,hm⟩:∃ m,(fS f b)=m:=⟨_,rfl⟩
 obtain ⟨NN,hNN⟩:∃ NN,(nanB f a || nanB f b)=NN:=⟨_,rfl⟩
 obtain ⟨SS,hSS⟩:∃ SS,(sigB f a || sigB f b)=SS:=⟨_,rfl⟩
 obtain ⟨IA,hIA⟩:∃ IA,(infB f a)=IA:=⟨_,rfl⟩
 obtain ⟨ZA,hZA⟩:∃ ZA,(nouB f a)=ZA:=⟨_,rfl⟩
 obtain ⟨IB,hIB⟩:∃ IB,(infB f b)=IB:=⟨_,rfl⟩
 obtain ⟨ZB,hZB⟩:∃ ZB,(nouB f b)=ZB:=⟨_,rfl⟩
 obtain ⟨s,hs⟩:∃ s,(n != m)=s:=⟨_,rfl⟩
 obtain ⟨T,hT⟩:∃ T,p*q=T:=⟨_,rfl⟩
 have hsg:sgP f a b=s:=by unfold sgP;rw [hn,hm,hs]
 have HM:=Lib.hid (show mulE f mode a b=if NN=true then excE (nanI f) SS else if (ZA&&IB || IA&&ZB)=true then excE (nanI f) true else if (IA || IB)=true then excE (infI f s) false else PackE f mode s (valN (clampE (x+y)) T false) by
  unfold mulE badB
  rw [hZA,hZB,hIA,hIB,hNN,hSS,←prod_val,hsg,hx,hy,hp,hq,hT])
 have HUa:=Lib.hid (show Ending.returned (.tuple #[.bool (fS f a),.int .i64 (unE f a),.int .u64 (unM f a)])=.returned (.tuple #[.bool n,.int .i64 x,.int .u64 p]) by rw [hn,hx,hp])
 have HUb:=Lib.hid (show Ending.returned (.tuple #[.bool (fS f b),.int .i64 (unE f b),.int .u64 (unM f b)])=.returned (.tuple #[.bool m,.int .i64 y,.int .u64 q]) by rw [hm,hy,hq])
 rw [hx,hy,hp,hq,hT] at ham
 rw [hp,hq,hT] at t0 t1
 rw [hx] at e0 e1 e2
 rw [hy] at d0 d1 d2
 rw [hZA,hIA] at hxa
 rw [hZB,hIB] at hxb
 have Hn:=Lib.hid hn
 have Hm:=Lib.hid hm
 have HNN:=Lib.hid hNN
 have HSS:=Lib.hid hSS
 have HIA:=Lib.hid hIA
 have HZA:=Lib.hid hZA
 have HIB:=Lib.hid hIB
 have HZB:=Lib.hid hZB
 have HXa:=Lib.hid hxa
 have HXb:=Lib.hid hxb
 clear hxa hxb ham t2 hsg hx hy hp hq hn hm hNN hSS hIA hZA hIB hZB
 have hs2:(n==m)=!s:=by rw [←hs];cases n <;> cases m <;> rfl
 cases NN
 case true=>
  have HQ:=Lib.hid (HM.out.trans (if_pos rfl))
  clear HM
  go_enter Tryz.func96,Tryz.ntmps96
  exact dx_4
 case false=>
  have HM2:=Lib.hid (HM.out.trans (if_neg (by decide)))
  clear HM
  have HM:=HM2
  clear HM2
  rcases HXa.out with ⟨rfl,rfl⟩ | ⟨rfl,rfl⟩ | ⟨rfl,rfl⟩
  ·rcases HXb.out with ⟨rfl,rfl⟩ | ⟨rfl,rfl⟩ | ⟨rfl,rfl⟩
   ·exact dx_6
   ·have HQ:=Lib.hid (HM.out.trans (if_pos (by decide)))
    clear HM
    go_enter Tryz.func96,Tryz.ntmps96
    exact dx_4
   ·exact dx_6
  ·rcases HXb.out with ⟨rfl,rfl⟩ | ⟨rfl,rfl⟩ | ⟨rfl,rfl⟩
   ·have HQ:=Lib.hid (HM.out.trans (if_pos (by decide)))
    clear HM
    go_enter Tryz.func96,Tryz.ntmps96
    exact dx_4
   ·exact dx_41
   ·exact dx_41
  ·rcases HXb.out with ⟨rfl,rfl⟩ | ⟨rfl,rfl⟩ | ⟨rfl,rfl⟩
   ·exact dx_6
   ·exact dx_41
   ·exact dx_6

theorem noP (f a b:Int) (ha:finI f a=true) (hb:finI f b=true):amtP f a b=0↔(nouB f a || nouB f b)=true:=by
 have h1:=nou_is f a ha
 have h2:=nou_is f b hb
 rw [amt_zero _ _ (unM_bd f a).1] at h1
 rw [amt_zero _ _ (unM_bd f b).1] at h2
 rw [amtP_zero,Bool.or_eq_true,h1,h2]

theorem nan_sig3 (f a b c:Int):(nanB f a || nanB f b || nanB f c)=false→(sigB f a || sigB f b || sigB f c)=false:=by
 unfold nanB sigB
 cases h1:(clsI f a==5) <;> cases h2:(clsI f b==5) <;> cases h3:(clsI f c==5) <;> simp

theorem rspread_prod (s:Bool) (X T:Int) (w:World) (h0:-298≤X) (h1:X≤240) (t0:0≤T) (t1:T<281474976710656):Calls Tryz.prog 114 #[.bool s,.int .i64 X,.int .u64 T] w fun e w'=>e=.returned (wideV s (amtE X T))∧Grown w w':=by
 rw [←spr_amt X T (by omega)]
 exact spread_any s X T w ((X+298) / 64).toNat ((X+298)%64).toNat (by omega) (by omega) (by omega) t0 (by omega)

theorem nans3_grow (f a c d:Int) (b:Nat) (w:World) (h0:0≤a) (h1:a≤4294967295) (g0:0≤c) (g1:c≤4294967295) (k0:0≤d) (k1:d≤4294967295) (hc:w.cell? ⟨b,0,none⟩=some (.int .u32 a)) (hd:w.cell? ⟨b,1,none⟩=some (.int .u32 c)) (he:w.cell? ⟨b,2,none⟩=some (.int .u32 d)):
  Calls Tryz.prog 58 #[.int .i64 f,.slice (some ⟨b,0,none⟩) 3 3] w fun e w'=>e=.returned (.tuple #[.bool (nanB f a || nanB f c || nanB f d),.bool (sigB f a || sigB f c || sigB f d)])∧Grown w w':=
 (nans3_any f a c d b w h0 h1 g0 g1 k0 k1 hc hd he).mono fun _ _ ⟨h,m,hw⟩=>⟨h,by rw [hw];exact grown_drewN w m⟩
end Go.Proofs.YteifobleigfbaaaGreat
