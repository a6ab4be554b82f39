/- The contract of the reference's Fma, by what the first number is. (Written by gen11.py.) -/
import Derived.Test.YteifobleigfbaaaGreatDict
import Derived.Test.YteifobleigfbaaaGreatRMul
namespace Go.Proofs.YteifobleigfbaaaGreat
open Go.RowKit
set_option linter.unusedVariables false
set_option linter.unusedSimpArgs false

set_option maxRecDepth 100000 in
set_option maxHeartbeats 16000000 in
theorem rfma_I (f mode a b c:Int) (w:World) (a0:0≤a) (a1:a≤4294967295) (b0:0≤b) (b1:b≤4294967295) (c0:0≤c) (c1:c≤4294967295) (hxa:nouB f a=false∧infB f a=true):
  Calls Tryz.prog 86 #[.int .i64 f,.int .i64 mode,.int .u32 a,.int .u32 b,.int .u32 c] w fun e w'=>e=fmaE f mode a b c∧Grown w w':=by
 have HX0:=Lib.hid (exc_new w 75)
 have HG0:=Lib.hid (Grown.alloc (Grown.refl w) #[.bool false,.bool false,.bool false,.bool false,.bool false] 75)
 obtain ⟨e0,e1⟩:=unE_bd f a
 have e2:=unE_top f a
 obtain ⟨d0,d1⟩:=unE_bd f b
 have d2:=unE_top f b
 obtain ⟨t0,t1,t2⟩:=mul_bd f a b
 have ham:amtP f a b=amtE (unE f a+unE f b) (unM f a*unM f b):=rfl
 have hfa:=noP f a b
 have hfc:=nou_is f c
 have hfic:=fin_of f c
 have hmc:=mask_inf f c c0 c1
 have hpf:=prod_fit f a b
 have hxb:=nou_inf f b
 have hns:=nan_sig3 f a b c
 obtain ⟨x,hx⟩:∃ x,unE f a=x:=⟨_,rfl⟩
 obtain ⟨y,hy⟩:∃ y,unE f b=y:=⟨_,rfl⟩
 obtain ⟨p,hp⟩:∃ p,unM f a=p:=⟨_,rfl⟩
 obtain ⟨q,hq⟩:∃ q,unM f b=q:=⟨_,rfl⟩
 obtain ⟨n,hn⟩:∃ n,(fS f a)=n:=⟨_,rfl⟩
 obtain ⟨m,hm⟩:∃ m,(fS f b)=m:=⟨_,rfl⟩
 obtain ⟨NN,hNN⟩:∃ NN,(nanB f a || nanB f b || nanB f c)=NN:=⟨_,rfl⟩
 obtain ⟨SS,hSS⟩:∃ SS,(sigB f a || sigB f b || sigB f c)=SS:=⟨_,rfl⟩
 obtain ⟨IA,hIA⟩:∃ IA,(infB f a)=IA:=⟨_,rfl⟩
 obtain ⟨ZA,hZA⟩:∃ ZA,(nouB f a)=ZA:=⟨_,rfl⟩
 obtain ⟨IB,hIB⟩:∃ IB,(infB f b)=IB:=⟨_,rfl⟩
 obtain ⟨ZB,hZB⟩:∃ ZB,(nouB f b)=ZB:=⟨_,rfl⟩
 obtain ⟨IC,hIC⟩:∃ IC,(infB f c)=IC:=⟨_,rfl⟩
 obtain ⟨ZC,hZC⟩:∃ ZC,(nouB f c)=ZC:=⟨_,rfl⟩
 obtain ⟨k,hk⟩:∃ k,(fS f c)=k:=⟨_,rfl⟩
 obtain ⟨s,hs⟩:∃ s,(n != m)=s:=⟨_,rfl⟩
 obtain ⟨T,hT⟩:∃ T,p*q=T:=⟨_,rfl⟩
 have hsg:sgP f a b=s:=by unfold sgP;rw [hn,hm,hs]
 have HM:=Lib.hid (show fmaE f mode a b c=if (NN || (ZA&&IB || IA&&ZB))=true then excE (nanI f) (SS || (ZA&&IB || IA&&ZB)) else if (IA || IB)=true then (if (IC&&(k != s))=true then excE (nanI f) true else excE (infI f s) false)
   else if IC=true then excE (infI f k) false else finE f mode s (amtE (x+y) T) k (amtE (unE f c) (unM f c)) by
  unfold fmaE badB
  rw [hZA,hZB,hIA,hIB,hNN,hSS,hIC,hk,hsg,ham,hx,hy,hp,hq,hT])
 have HUa:=Lib.hid (show Ending.returned (.tuple #[.bool (fS f a),.int .i64 (unE f a),.int .u64 (unM f a)])=.returned (.tuple #[.bool n,.int .i64 x,.int .u64 p]) by rw [hn,hx,hp])
 have HUb:=Lib.hid (show Ending.returned (.tuple #[.bool (fS f b),.int .i64 (unE f b),.int .u64 (unM f b)])=.returned (.tuple #[.bool m,.int .i64 y,.int .u64 q]) by rw [hm,hy,hq])
 rw [hx,hy,hp,hq,hT] at ham
 rw [hp,hq,hT] at t0 t1
 rw [hx] at e0 e1 e2
 rw [hy] at d0 d1 d2
 rw [hZA,hIA] at hxa
 rw [hZB,hIB] at hxb
 rw [hNN,hSS] at hns
 rw [hIC] at hmc hfic
 rw [hk] at hmc
 rw [ham] at hfa hpf
 rw [hZA,hZB] at hfa
 rw [hZC] at hfc
 have hf2:NN=false→IA=false→IB=false→(amtE (x+y) T=0↔(ZA || ZB)=true):=by
  intro g1 g2 g3
  have h:nanB f a=false∧nanB f b=false:=by rw [g1] at hNN;simp at hNN;exact ⟨hNN.1.1,hNN.1.2⟩
  exact hfa (fin_of f a h.1 (by rw [hIA,g2])) (fin_of f b h.2 (by rw [hIB,g3]))
 have hf3:NN=false→IC=false→(ZC=true↔amtE (unE f c) (unM f c)=0):=by
  intro g1 g2
  have h:nanB f c=false:=by rw [g1] at hNN;simp at hNN;exact hNN.2
  exact hfc (hfic h g2)
 clear hfa hfc hfic
 have HNS:=Lib.hid hns
 have HMC:=Lib.hid hmc
 have HF2:=Lib.hid hf2
 have HF3:=Lib.hid hf3
 have HPF:=Lib.hid hpf
 clear hns hmc hf2 hf3 hpf
 have Hn:=Lib.hid hn
 have Hm:=Lib.hid hm
 have HNN:=Lib.hid hNN
 have HSS:=Lib.hid hSS
 have HIA:=Lib.hid hIA
 have HZA:=Lib.hid hZA
 have HIB:=Lib.hid hIB
 have HZB:=Lib.hid hZB
 have HIC:=Lib.hid hIC
 have HZC:=Lib.hid hZC
 have Hk:=Lib.hid hk
 have HXa:=Lib.hid hxa
 have HXb:=Lib.hid hxb
 clear hxa hxb ham t2 hsg hx hy hp hq hn hm hNN hSS hIA hZA hIB hZB hIC hZC hk
 have hs2:(n==m)=!s:=by rw [←hs];cases n <;> cases m <;> rfl
 obtain ⟨rfl,rfl⟩:=HXa.out
 rcases HXb.out with ⟨rfl,rfl⟩ | ⟨rfl,rfl⟩ | ⟨rfl,rfl⟩
 ·exact dx_42
 ·exact dx_34
 ·exact dx_34
end Go.Proofs.YteifobleigfbaaaGreat
