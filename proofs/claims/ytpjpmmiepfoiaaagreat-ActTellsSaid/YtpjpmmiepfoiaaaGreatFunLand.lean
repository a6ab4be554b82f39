/- What Exp takes of its number: how many halvings, and what is left (no program here). Amounts as fractions, and how far from exact a rounded result lies: at most one unit (no program here). What is left of any number that Exp takes, by how far each step lies from what is exact (no program here). Exp's bounds (no program here). Tanh and Sigmoid: what is odd, and their bounds (no program here). The landed functions' own ways as plain numbers: a number moved near 1 by its whole bits, signs laid on and taken off (no program here). -/
import Derived.Test.YtpjpmmiepfoiaaaGreatFunMath
namespace Go.Proofs.YtpjpmmiepfoiaaaGreat
open Go.RowKit
set_option linter.unusedVariables false
set_option linter.unusedSimpArgs false

def tw:Nat:=298

def wN (V:Nat):Nat:=V / 2^tw+(growB 0 false (V / 2^tw) (catU tw V)).toNat

theorem wN_mono {V W:Nat} (h:V≤W):wN V≤wN W:=by
 have hd:V / 2^tw≤W / 2^tw:=Nat.div_le_div_right h
 have g1:=Bool.toNat_le (growB 0 false (V / 2^tw) (catU tw V))
 unfold wN
 by_cases e:V / 2^tw=W / 2^tw
 ·have a:=Nat.div_add_mod V (2^tw)
  have b:=Nat.div_add_mod W (2^tw)
  rw [e] at a
  have hc:catU tw V≤catU tw W:=by
   apply cat_mono
   generalize 2^tw*(W / 2^tw)=Q at a b
   omega
  have:=grow_mono 0 false (W / 2^tw) _ _ hc
  rw [e];omega
 ·omega

theorem wN_zero:wN 0=0:=by
 unfold wN catU;simp [growB]

theorem grow_even (s:Bool) (k c:Nat):growB 0 s k c=growB 0 false k c:=by cases s <;> rfl

theorem who_is (a:Int):whN 2 0 a=wN (amtE (unE 2 a) (unM 2 a)):=by
 obtain ⟨u0,u1⟩:=unE_bd 2 a
 have htw:tw=298:=rfl
 unfold whN wN amtE
 generalize (unM 2 a).toNat=M
 by_cases c:0≤unE 2 a
 ·rw [if_pos c,show (unE 2 a+298).toNat=(unE 2 a).toNat+tw by omega,Nat.pow_add,←Nat.mul_assoc,Nat.mul_div_cancel _ (p2 tw)]
  have hc:catU tw (M*2^(unE 2 a).toNat*2^tw)=0:=by unfold catU;rw [Nat.mul_mod_left,if_pos rfl]
  rw [hc,grow_zero];simp
 ·obtain ⟨k,hk⟩:∃ k:Nat,k=(-unE 2 a).toNat:=⟨_,rfl⟩
  obtain ⟨E,hE⟩:∃ E:Nat,E=(unE 2 a+298).toNat:=⟨_,rfl⟩
  rw [if_neg c,←hk,←hE,show tw=k+E by omega,cat_scale,Nat.pow_add,Nat.mul_div_mul_right _ _ (p2 E),grow_even]

theorem to_is (a:Int) (h:finI 2 a=true) (hw:wN (amtE (unE 2 a) (unM 2 a))<2147483648):toV a=sg (fS 2 a) (wN (amtE (unE 2 a) (unM 2 a))):=by
 have hn:noInt 2 0 a=false:=by
  unfold noInt;rw [h,who_is,decide_eq_false (by omega),decide_eq_false (by omega)];rfl
 unfold toV toE
 rw [hn,if_neg (by decide),who_is]
 rfl

def wI (S:Int):Int:=if S<0 then -(wN S.natAbs:Int) else (wN S.natAbs:Int)

theorem wI_mono {S T:Int} (h:S≤T):wI S≤wI T:=by
 by_cases s:S<0
 ·by_cases t:T<0
  ·have:=wN_mono (show T.natAbs≤S.natAbs by omega)
   unfold wI;rw [if_pos s,if_pos t];omega
  ·unfold wI;rw [if_pos s,if_neg t];omega
 ·have:=wN_mono (show S.natAbs≤T.natAbs by omega)
  unfold wI;rw [if_neg s,if_neg (by omega)];omega

theorem wI_sg (n:Bool) (A:Nat):wI (sg n A)=sg n (wN A):=by
 unfold wI sg
 by_cases z:A=0
 ·subst z;cases n <;> simp [wN_zero]
 ·cases n
  ·simp only [Bool.false_eq_true,if_false];rw [if_neg (by omega),Int.natAbs_natCast]
  ·simp only [if_true];rw [if_pos (by omega),Int.natAbs_neg,Int.natAbs_natCast]

theorem to_wI (a:Int) (h:finI 2 a=true) (hw:-2147483648<wI (sV a)∧wI (sV a)<2147483648):toV a=wI (sV a):=by
 have e:wI (sV a)=sg (fS 2 a) (wN (amtE (unE 2 a) (unM 2 a))):=wI_sg _ _
 rw [e] at hw ⊢
 apply to_is a h
 unfold sg at hw
 split at hw <;> omega

theorem op_word {e:Ending} (h:ShapeE e):0≤valI e∧valI e≤4294967295:=by
 obtain ⟨_,_,_,_,_,_,a,b⟩:=op_val h (V:=valI e) rfl
 exact ⟨a,b⟩

theorem fma_word (a b c:Int):0≤fmaV a b c∧fmaV a b c≤4294967295:=op_word (fma_shape 2 0 a b c)

theorem mul_word (a b:Int):0≤mulV a b∧mulV a b≤4294967295:=op_word (mul_shape 2 0 a b)

theorem add_word (a b:Int):0≤addV a b∧addV a b≤4294967295:=op_word (add_shapeE 2 0 a b)

theorem sub_word (a b:Int):0≤subV a b∧subV a b≤4294967295:=op_word (sub_shapeE 2 0 a b)

theorem frm_word (n:Int):0≤frmV n∧frmV n≤4294967295:=op_word (from_shapeE 2 0 n)

theorem neg_word (a:Int) (a0:0≤a) (a1:a≤4294967295):0≤negV a∧negV a≤4294967295:=min_bd 2 a a0 a1

theorem sP_mono (x y c:Int) (hc:0≤sV c) (h:sV x≤sV y):sP x c≤sP y c:=by
 obtain ⟨T,hT⟩:∃ T:Nat,T=298:=⟨_,rfl⟩
 have a:=sP_mul x c T hT
 have b:=sP_mul y c T hT
 have m:sV x*sV c≤sV y*sV c:=Int.mul_le_mul_of_nonneg_right h hc
 rw [←a,←b] at m
 exact Int.le_of_mul_le_mul_right m (by have:=p2 T;omega)

theorem red_ends:expN 3268407733=-150∧expN 1120924085=150∧kz (mulV 3268407733 1069066811)=-1125515265∧kz (mulV 1120924085 1069066811)=1125515265:=by
 refine ⟨?_,?_,?_,?_⟩ <;> kernel_rfl

theorem mulL_fin (x:Int) (x0:0≤x) (x1:x≤4294967295) (b0:-1120924085≤kz x) (b1:kz x≤1120924085):
  finI 2 x=true∧finI 2 (mulV x 1069066811)=true∧-1125515265≤kz (mulV x 1069066811)∧kz (mulV x 1069066811)≤1125515265:=by
 have hf:finI 2 x=true:=(fin_kz x x0 x1).2 (by omega)
 have hL:finI 2 1069066811=true:=by decide
 have f1:finI 2 1120924085=true:=by decide
 have f2:finI 2 3268407733=true:=by decide
 have k1:kz 1120924085=1120924085:=by decide
 have k2:kz 3268407733=-1120924085:=by decide
 have hs:0≤sV 1069066811:=by
  have:=(kz_line 0 1069066811 (by omega) (by omega) (by omega) (by omega) (by decide) hL).1 (by decide)
  have z:sV 0=0:=by decide
  omega
 have a:=rk_mono (sP_mono x 1120924085 1069066811 hs ((kz_line _ _ x0 x1 (by omega) (by omega) hf f1).1 (by omega)))
 have b:=rk_mono (sP_mono 3268407733 x 1069066811 hs ((kz_line _ _ (by omega) (by omega) x0 x1 f2 hf).1 (by omega)))
 rw [←mul_kz _ _ hf hL] at a b
 rw [←mul_kz _ _ f1 hL,red_ends.2.2.2] at a
 rw [←mul_kz _ _ f2 hL,red_ends.2.2.1] at b
 obtain ⟨w0,w1⟩:=mul_word x 1069066811
 exact ⟨hf,(fin_kz _ w0 w1).2 (by omega),b,a⟩

theorem expN_mono (x y:Int) (x0:0≤x) (x1:x≤4294967295) (y0:0≤y) (y1:y≤4294967295) (b0:-1120924085≤kz x) (b1:kz x≤1120924085) (c0:-1120924085≤kz y) (c1:kz y≤1120924085) (h:kz x≤kz y):expN x≤expN y:=by
 have hL:finI 2 1069066811=true:=by decide
 have hs:0≤sV 1069066811:=by
  have:=(kz_line 0 1069066811 (by omega) (by omega) (by omega) (by omega) (by decide) hL).1 (by decide)
  have z:sV 0=0:=by decide
  omega
 obtain ⟨fx,gx,l1,l2⟩:=mulL_fin x x0 x1 b0 b1
 obtain ⟨fy,gy,l3,l4⟩:=mulL_fin y y0 y1 c0 c1
 obtain ⟨w0,w1⟩:=mul_word x 1069066811
 obtain ⟨w2,w3⟩:=mul_word y 1069066811
 have hxy:=(kz_line _ _ x0 x1 y0 y1 fx fy).1 h
 have hk:=rk_mono (sP_mono x y 1069066811 hs hxy)
 rw [←mul_kz _ _ fx hL,←mul_kz _ _ fy hL] at hk
 have hm:=wI_mono ((kz_line _ _ w0 w1 w2 w3 gx gy).1 hk)
 have e1:wI (sV 1125515265)=150:=by kernel_rfl
 have e2:wI (sV 3272998913)=-150:=by kernel_rfl
 have top:∀ z,0≤z→z≤4294967295→finI 2 z=true→-1125515265≤kz z→kz z≤1125515265→-150≤wI (sV z)∧wI (sV z)≤150:=by
  intro z z0 z1 fz p q
  have a:=wI_mono ((kz_line z 1125515265 z0 z1 (by omega) (by omega) fz (by decide)).1 (by rw [show kz 1125515265=1125515265 by decide];exact q))
  have b:=wI_mono ((kz_line 3272998913 z (by omega) (by omega) z0 z1 (by decide) fz).1 (by rw [show kz 3272998913=-1125515265 by decide];exact p))
  omega
 have tx:=top _ w0 w1 gx l1 l2
 have ty:=top _ w2 w3 gy l3 l4
 unfold expN
 rw [to_wI _ gx (by omega),to_wI _ gy (by omega)]
 exact hm

def redI (k x:Int):Int:=fmaV k 1060205056 x

def redR (k x:Int):Int:=fmaV k 901758606 (redI k x)

def redK (n:Int):Int:=negV (frmV n)

theorem word_parts (e m x:Int) (hx:x=(e+149)*8388608+m) (e0:-149≤e) (e1:e≤104) (m0:8388608≤m) (m1:m<16777216):
  8388608≤x∧x<2139095040∧unE 2 x=e∧unM 2 x=m∧fS 2 x=false∧finI 2 x=true:=by
 have eX:fX 2 x=e+150:=by show x / 8388608%256=_;omega
 have eF:fF 2 x=m - 8388608:=by show x%8388608=_;omega
 have t:topx 2=255:=rfl
 have l:lst 2=-149:=rfl
 have h:hid 2=8388608:=rfl
 refine ⟨by omega,by omega,?_,?_,?_,?_⟩
 ·unfold unE;rw [eX,t,l,if_neg (by omega),if_neg (by omega)];omega
 ·unfold unM;rw [eX,eF,t,h,if_neg (by omega),if_neg (by omega)];omega
 ·rw [fS_two x (by omega) (by omega),decide_eq_false (by omega)]
 ·unfold finI;rw [eX,t];exact decide_eq_true (by omega)

theorem kz_pos (x:Int) (h:x<2147483648):kz x=x:=by unfold kz;rw [if_neg (by omega)]

theorem fin_of_kz (x:Int) (h0:0≤x) (h1:x≤4294967295) (a:-2139095040<kz x) (b:kz x<2139095040):finI 2 x=true:=(fin_kz x h0 h1).2 ⟨a,b⟩

theorem neg_is (a:Int) (a0:0≤a) (a1:a≤4294967295) (hn:nanB 2 a=false):negV a=xorI 2 a∧nanB 2 (negV a)=false∧(a<2147483648→negV a=a+2147483648):=by
 obtain ⟨x1,x2,x3,x4,x5⟩:=xor_parts 2 a a0 a1
 have e:negV a=xorI 2 a:=by
  unfold negV minI
  rw [hn,if_neg (by decide)]
  exact low_is 2 _ x4 (by rw [show msk 2=4294967295 by rfl];exact x5)
 have hc:clsI 2 (xorI 2 a)=clsI 2 a:=by unfold clsI;rw [x1,x2]
 refine ⟨e,?_,fun h=>?_⟩
 ·rw [e];unfold nanB at hn ⊢;rw [hc];exact hn
 ·rw [e];unfold xorI
  rw [show sgb 2=2147483648 by rfl,xor32 a 31 (b:=2147483648) a0 a1 (by decide) (by decide),if_neg (by omega)]

theorem kz_xor (x:Int) (x0:0≤x) (x1:x≤4294967295):kz (xorI 2 x)=-kz x:=by
 unfold xorI
 rw [show sgb 2=2147483648 by rfl,xor32 x 31 (b:=2147483648) x0 x1 (by decide) (by decide)]
 by_cases c:2147483648≤x
 ·rw [show (if x / 2147483648%2=1 then x - 2147483648 else x+2147483648)=x - 2147483648 from if_pos (by omega)]
  unfold kz;rw [if_pos c,if_neg (by omega)];omega
 ·rw [show (if x / 2147483648%2=1 then x - 2147483648 else x+2147483648)=x+2147483648 from if_neg (by omega)]
  unfold kz;rw [if_neg c,if_pos (by omega)];omega

theorem sV_word (j d:Nat) (x:Int) (d0:149≤d) (d1:d≤402) (j0:8388608≤j) (j1:j<16777216) (hx:x=((d:Int) - 149)*8388608+j):
  sV x=((j*2^d:Nat):Int)∧finI 2 x=true∧0≤x∧x<2139095040:=by
 obtain ⟨a,b,h1,h2,h3,h4⟩:=word_parts ((d:Int) - 298) j x (by omega) (by omega) (by omega) (by omega) (by omega)
 refine ⟨?_,h4,by omega,b⟩
 unfold sV amtE
 rw [h1,h2,h3,Int.toNat_natCast,show ((d:Int) - 298+298).toNat=d by omega]
 rfl

theorem sV_low (j:Nat) (d:Nat) (hd:d=149) (j1:j<8388608):sV j=((j*2^d:Nat):Int)∧finI 2 j=true:=by
 have eX:fX 2 (j:Int)=0:=by show (j:Int) / 8388608%256=_;omega
 have eF:fF 2 (j:Int)=j:=by show (j:Int)%8388608=_;omega
 have t:topx 2=255:=rfl
 have l:lst 2=-149:=rfl
 have h1:unE 2 (j:Int)=-149:=by unfold unE;rw [eX,t,l,if_neg (by omega),if_pos rfl]
 have h2:unM 2 (j:Int)=j:=by unfold unM;rw [eX,eF,t,if_neg (by omega),if_pos rfl]
 have h3:fS 2 (j:Int)=false:=by rw [fS_two _ (by omega) (by omega),decide_eq_false (by omega)]
 refine ⟨?_,by unfold finI;rw [eX,t];decide⟩
 unfold sV amtE
 rw [h1,h2,h3,Int.toNat_natCast,show (-149+298:Int).toNat=d by omega]
 rfl

theorem sV_around (V:Nat) (K:Nat) (hK:K=425) (hV:V<2^K):∃ (a:Int) (d j:Nat),0≤a∧a+1<2139095040∧sV a=((j*2^d:Nat):Int)∧sV (a+1)=(((j+1)*2^d:Nat):Int)∧finI 2 a=true∧finI 2 (a+1)=true
  ∧ j*2^d≤V∧V<(j+1)*2^d∧(8388608*2^d≤V∨d=149):=by
 by_cases c:V / 2^149<8388608
 ·have p:=p2 149
  have h1:=Nat.div_add_mod V (2^149)
  have h2:=Nat.mod_lt V p
  obtain ⟨d,hd⟩:∃ d:Nat,d=149:=⟨_,rfl⟩
  rw [←hd] at h1 h2 c p
  generalize hj:V / 2^d=j at h1 c
  obtain ⟨a1,a2⟩:=sV_low j d hd c
  have hm:(j+1)*2^d=j*2^d+2^d:=by rw [Nat.add_mul,Nat.one_mul]
  have hc:=Nat.mul_comm (2^d) j
  refine ⟨j,d,j,by omega,by omega,a1,?_,a2,?_,by omega,by omega,.inr hd⟩
  ·by_cases g:j+1<8388608
   ·exact (sV_low (j+1) d hd g).1
   ·have:j+1=8388608:=by omega
    rw [this]
    exact (sV_word 8388608 d _ (by omega) (by omega) (by omega) (by omega) (by omega)).1
  ·by_cases g:j+1<8388608
   ·exact (sV_low (j+1) d hd g).2
   ·have:(j:Int)+1=8388608:=by omega
    rw [this];decide
 ·have hV0:V≠0:=by intro h;subst h;simp at c
  have l1:=Nat.log2_self_le hV0
  have l2:=Nat.lt_log2_self (n:=V)
  have l3:V.log2<K:=(Nat.log2_lt hV0).2 hV
  have l4:172≤V.log2:=by
   rcases Nat.lt_or_ge V.log2 172 with g | g
   ·exfalso
    have:V<2^172:=Nat.lt_of_lt_of_le l2 (Nat.pow_le_pow_right (by decide) (by omega))
    apply c
    rw [Nat.div_lt_iff_lt_mul (p2 149)]
    have e:8388608*2^149=2^172:=by rw [show (8388608:Nat)=2^23 by decide,←Nat.pow_add]
    omega
   ·exact g
  obtain ⟨d,hd⟩:∃ d:Nat,d=V.log2 - 23:=⟨_,rfl⟩
  rw [show V.log2=23+d by omega,Nat.pow_add] at l1
  rw [show V.log2+1=24+d by omega,Nat.pow_add] at l2
  have p:=p2 d
  have h1:=Nat.div_add_mod V (2^d)
  have h2:=Nat.mod_lt V p
  have e23:(2:Nat)^23=8388608:=by decide
  have e24:(2:Nat)^24=16777216:=by decide
  rw [e23] at l1
  rw [e24] at l2
  have hj0:8388608≤V / 2^d:=(Nat.le_div_iff_mul_le p).2 l1
  have hj1:V / 2^d<16777216:=(Nat.div_lt_iff_lt_mul p).2 l2
  generalize V / 2^d=j at h1 hj0 hj1
  have hm:(j+1)*2^d=j*2^d+2^d:=by rw [Nat.add_mul,Nat.one_mul]
  have hc:=Nat.mul_comm (2^d) j
  obtain ⟨a1,a2,a3,a4⟩:=sV_word j d (((d:Int) - 149)*8388608+j) (by omega) (by omega) hj0 hj1 rfl
  have hb:sV (((d:Int) - 149)*8388608+j+1)=(((j+1)*2^d:Nat):Int)∧finI 2 (((d:Int) - 149)*8388608+j+1)=true∧0≤((d:Int) - 149)*8388608+j+1∧((d:Int) - 149)*8388608+j+1<2139095040:=by
   by_cases g:j+1<16777216
   ·exact sV_word (j+1) d _ (by omega) (by omega) (by omega) g (by omega)
   ·obtain ⟨b1,b2⟩:=sV_word 8388608 (d+1) (((d:Int) - 149)*8388608+j+1) (by omega) (by omega) (by omega) (by omega) (by omega)
    refine ⟨?_,b2⟩
    rw [b1,show j+1=8388608*2 by omega,Nat.pow_succ,Nat.mul_assoc 8388608 2,Nat.mul_comm 2 (2^d)]
  exact ⟨((d:Int) - 149)*8388608+j,d,j,a3,hb.2.2.2,a1,hb.1,a2,hb.2.1,by omega,by omega,.inl l1⟩

theorem around_err (V:Nat) (K:Nat) (hK:K=425) (hV:V<2^K) (x:Int) (x0:0≤x) (x1:x≤4294967295) (hk:kz x=rk V):
  finI 2 x=true∧8388608*(sV x - V)≤V+((2^172:Nat):Int)∧-((V:Int)+((2^172:Nat):Int))≤8388608*(sV x - V):=by
 obtain ⟨a,d,j,a0,a1,s1,s2,f1,f2,h1,h2,h3⟩:=sV_around V K hK hV
 have m1:=rk_mono (show sV a≤(V:Int) by rw [s1];omega)
 have m2:=rk_mono (show (V:Int)≤sV (a+1) by rw [s2];omega)
 rw [rk_self a a0 (by omega) f1,←hk,kz_pos a (by omega)] at m1
 rw [rk_self (a+1) (by omega) (by omega) f2,←hk,kz_pos (a+1) (by omega)] at m2
 have hf:=fin_of_kz x x0 x1 (by omega) (by omega)
 have k1:=(kz_line a x a0 (by omega) x0 x1 f1 hf).1 (by rw [kz_pos a (by omega)];exact m1)
 have k2:=(kz_line x (a+1) x0 x1 (by omega) (by omega) hf f2).1 (by rw [kz_pos (a+1) (by omega)];exact m2)
 rw [s1] at k1
 rw [s2] at k2
 have hm:(j+1)*2^d=j*2^d+2^d:=by rw [Nat.add_mul,Nat.one_mul]
 have hD:8388608*2^d≤V+2^172:=by
  rcases h3 with h | h
  ·omega
  ·have:8388608*2^d=2^172:=by rw [h,show (8388608:Nat)=2^23 by decide,←Nat.pow_add]
   omega
 generalize (2:Nat)^172=Q at hD ⊢
 generalize (2:Nat)^d=D at*
 generalize sV x=X at*
 rw [hm] at k2 h2
 generalize j*D=J at*
 refine ⟨hf,by omega,by omega⟩

theorem rk_err (S:Int) (K:Nat) (hK:K=425) (hS:S.natAbs<2^K) (x:Int) (x0:0≤x) (x1:x≤4294967295) (hk:kz x=rk S):
  finI 2 x=true∧8388608*(sV x - S)≤S.natAbs+((2^172:Nat):Int)∧-((S.natAbs:Int)+((2^172:Nat):Int))≤8388608*(sV x - S):=by
 by_cases c:0≤S
 ·obtain ⟨V,rfl⟩:=Int.eq_ofNat_of_zero_le c
  rw [Int.natAbs_natCast] at hS ⊢
  exact around_err V K hK hS x x0 x1 hk
 ·obtain ⟨V,hV⟩:∃ V:Nat,S=-(V:Int):=⟨S.natAbs,by omega⟩
  subst hV
  rw [Int.natAbs_neg,Int.natAbs_natCast] at hS ⊢
  obtain ⟨y1,y2⟩:=xor_sV x x0 x1
  obtain ⟨_,_,_,w0,w1⟩:=xor_parts 2 x x0 x1
  obtain ⟨g1,g2,g3⟩:=around_err V K hK hS (xorI 2 x) w0 w1 (by rw [kz_xor x x0 x1,hk,rk_neg,rk_pos];omega)
  rw [y2] at g1
  rw [y1] at g2 g3
  generalize (2:Nat)^172=Q at*
  generalize sV x=X at*
  exact ⟨g1,by omega,by omega⟩

/-! Amounts as fractions. -/
def rU:Rat:=((2^298:Nat):Rat)

def rS (S:Int):Rat:=(S:Rat) / rU

def rv (x:Int):Rat:=rS (sV x)

theorem rU_pos:0<rU:=by decide +kernel

theorem rS_add (S T:Int):rS (S+T)=rS S+rS T:=by unfold rS;rw [Rat.intCast_add];grind

theorem rS_sub (S T:Int):rS (S - T)=rS S - rS T:=by unfold rS;rw [Rat.intCast_sub];grind

theorem rS_neg (S:Int):rS (-S)=-rS S:=by unfold rS;rw [Rat.intCast_neg];grind

theorem rS_mulU (S:Int):rS S*rU=(S:Rat):=by
 have p:=rU_pos
 unfold rS;grind

theorem rS_le {S T:Int}:rS S≤rS T↔S≤T:=by
 have p:=rU_pos
 constructor
 ·intro h
  have:=Rat.mul_le_mul_of_nonneg_right h (Rat.le_of_lt p)
  rw [rS_mulU,rS_mulU,Rat.intCast_le_intCast] at this
  exact this
 ·intro h
  rcases (Rat.le_total:rS S≤rS T∨rS T≤rS S) with g | g
  ·exact g
  ·have:=Rat.mul_le_mul_of_nonneg_right g (Rat.le_of_lt p)
   rw [rS_mulU,rS_mulU,Rat.intCast_le_intCast] at this
   rw [show S=T by omega];exact Rat.le_refl

theorem rS_prod (a b:Int):rS (sP a b)=rv a*rv b:=by
 have p:=rU_pos
 have h:=sP_mul a b 298 rfl
 have h2:(sP a b:Rat)*rU=(sV a:Rat)*(sV b:Rat):=by
  have:=congrArg (fun z:Int=>(z:Rat)) h
  simp only [Rat.intCast_mul,Rat.intCast_natCast] at this
  exact this
 unfold rv rS
 grind

theorem rv_err (S:Int) (x:Int) (x0:0≤x) (x1:x≤4294967295) (hk:kz x=rk S) (A:Rat) (hA0:1 / 1099511627776≤A) (hA1:A≤1099511627776) (h0:-A≤rS S) (h1:rS S≤A):
  finI 2 x=true∧-(A / 8000000)≤rv x - rS S∧rv x - rS S≤A / 8000000:=by
 have p:=rU_pos
 obtain ⟨K,hK⟩:∃ K:Nat,K=425:=⟨_,rfl⟩
 have hU:rU=((2^298:Nat):Rat):=rfl
 have hn:rS (S.natAbs:Int)≤A:=by
  rcases Int.natAbs_eq S with h | h
  ·rw [h] at h1;rw [show ((S.natAbs:Nat):Int)=(S.natAbs:Int) from rfl];rw [←h] at h1;rw [←h];exact h1
  ·have:(S.natAbs:Int)=-S:=by omega
   rw [this,rS_neg];grind
 have hS:S.natAbs<2^K:=by
  rcases Nat.lt_or_ge S.natAbs (2^K) with g | g
  ·exact g
  ·exfalso
   have c:rS ((2^K:Nat):Int)≤rS (S.natAbs:Int):=rS_le.2 (by omega)
   have d:(1099511627776:Rat)<rS ((2^K:Nat):Int):=by subst hK;decide +kernel
   grind
 obtain ⟨e1,e2,e3⟩:=rk_err S K hK hS x x0 x1 hk
 have q:rS ((2^172:Nat):Int)≤1 / 1000000000000000000000000000000000000:=by decide +kernel
 have m8:∀ T:Int,rS (8388608*T)=8388608*rS T:=fun T=>by unfold rS;rw [Rat.intCast_mul];grind
 have f2:=rS_le.2 e2
 have f3:=rS_le.2 e3
 rw [m8,rS_sub,rS_add] at f2
 rw [m8,rS_sub,rS_neg,rS_add] at f3
 refine ⟨e1,?_,?_⟩
 ·show -(A / 8000000)≤rS (sV x) - rS S
  grind
 ·show rS (sV x) - rS S≤A / 8000000
  grind

theorem fma_err (a b c:Int) (A:Rat) (fa:finI 2 a=true) (fb:finI 2 b=true) (fc:finI 2 c=true) (hA0:1 / 1099511627776≤A) (hA1:A≤1099511627776) (h0:-A≤rv a*rv b+rv c) (h1:rv a*rv b+rv c≤A):
  finI 2 (fmaV a b c)=true∧-(A / 8000000)≤rv (fmaV a b c) - (rv a*rv b+rv c)∧rv (fmaV a b c) - (rv a*rv b+rv c)≤A / 8000000:=by
 have e:rS (sP a b+sV c)=rv a*rv b+rv c:=by rw [rS_add,rS_prod];rfl
 have:=rv_err (sP a b+sV c) _ (fma_word a b c).1 (fma_word a b c).2 (fma_kz a b c fa fb fc) A hA0 hA1
 rw [e] at this
 exact this h0 h1

theorem mul_err (a b:Int) (A:Rat) (fa:finI 2 a=true) (fb:finI 2 b=true) (hA0:1 / 1099511627776≤A) (hA1:A≤1099511627776) (h0:-A≤rv a*rv b) (h1:rv a*rv b≤A):
  finI 2 (mulV a b)=true∧-(A / 8000000)≤rv (mulV a b) - rv a*rv b∧rv (mulV a b) - rv a*rv b≤A / 8000000:=by
 have:=rv_err (sP a b) _ (mul_word a b).1 (mul_word a b).2 (mul_kz a b fa fb) A hA0 hA1
 rw [rS_prod] at this
 exact this h0 h1

theorem rv_line (x y:Int) (x0:0≤x) (x1:x≤4294967295) (y0:0≤y) (y1:y≤4294967295) (hx:finI 2 x=true) (hy:finI 2 y=true):kz x≤kz y↔rv x≤rv y:=
 (kz_line x y x0 x1 y0 y1 hx hy).trans rS_le.symm

theorem pow_split (v T E:Nat):v*2^(T+E)=v*2^T*2^E:=by rw [Nat.pow_add,Nat.mul_assoc]

theorem frm_kz (n:Int) (T:Nat) (hT:T=298):kz (frmV n)=rk (n*((2^T:Nat):Int)):=by
 have hv:∀ v:Int,valN (clampE 0) v false=upN (v.toNat*2^T):=fun v=>by
  unfold valN upN
  rw [show (clampE 0+10100).toNat=T+9802 by rw [hT];decide]
  rw [Bool.toNat_false,Nat.add_zero]
  exact pow_split _ _ 9802
 unfold frmV fromE
 by_cases c:n<0
 ·rw [if_pos c,hv,pack_kz]
  have:sg true ((-n).toNat*2^T)=n*((2^T:Nat):Int):=by
   obtain ⟨m,rfl⟩:∃ m:Nat,n=-(m:Int):=⟨n.natAbs,by omega⟩
   unfold sg
   rw [if_pos rfl,Int.neg_neg,Int.toNat_natCast,Int.natCast_mul,Int.neg_mul]
  rw [this]
 ·rw [if_neg c,hv,pack_kz]
  have:sg false (n.toNat*2^T)=n*((2^T:Nat):Int):=by
   obtain ⟨m,rfl⟩:=Int.eq_ofNat_of_zero_le (show 0≤n by omega)
   unfold sg
   rw [if_neg (by decide),Int.toNat_natCast,Int.natCast_mul]
  rw [this]

theorem rS_whole (n:Int) (T:Nat) (hT:T=298):rS (n*((2^T:Nat):Int))=n:=by
 have p:=rU_pos
 have h:((((2^T:Nat):Int)):Rat)=rU:=by rw [Rat.intCast_natCast,hT];rfl
 unfold rS
 rw [Rat.intCast_mul,h]
 grind

theorem frm_nan (n:Int):nanB 2 (frmV n)=false:=by
 have hp:∀ s V,nanB 2 (valI (PackE 2 0 s V))=false:=fun s V=>by
  have h:=mag_top V
  show nanB 2 (rdV 2 0 s V)=false
  unfold rdV
  rw [mag_sign]
  have e0:zerI 2 false=0:=rfl
  have e1:zerI 2 true=2147483648:=rfl
  cases s
  ·rw [e0];exact (nan_kz _ (by omega) (by omega)).2 (by rw [kz_pos _ (by omega)];omega)
  ·rw [e1];exact (nan_kz _ (by omega) (by omega)).2 (by unfold kz;rw [if_pos (by omega)];omega)
 unfold frmV fromE
 split <;> exact hp _ _

theorem frm_neg (n:Int):xorI 2 (frmV n)=negV (frmV n):=by
 obtain ⟨h0,h1⟩:=frm_word n
 exact (neg_is _ h0 h1 (frm_nan n)).1.symm

theorem rv_neg (x:Int) (x0:0≤x) (x1:x≤4294967295):rv (xorI 2 x)=-rv x:=by
 unfold rv;rw [(xor_sV x x0 x1).1,rS_neg]

theorem wN_half (V:Nat):2*(wN V*2^tw)≤2*V+2^tw∧2*V≤2*(wN V*2^tw)+2^tw:=by
 have h1:=Nat.div_add_mod V (2^tw)
 have h2:=Nat.mod_lt V (p2 tw)
 have hc:=Nat.mul_comm (2^tw) (V / 2^tw)
 unfold wN catU
 generalize V / 2^tw=q at*
 generalize V%2^tw=m at*
 generalize 2^tw=D at*
 have g0:growB 0 false q 0=false:=rfl
 have g1:growB 0 false q 1=false:=rfl
 have g3:growB 0 false q 3=true:=rfl
 have hm:(q+1)*D=q*D+D:=by rw [Nat.add_mul,Nat.one_mul]
 split
 ·rw [g0];simp only [Bool.toNat_false,Nat.add_zero];omega
 ·split
  ·rw [g1];simp only [Bool.toNat_false,Nat.add_zero];omega
  ·split
   ·cases growB 0 false q 2
    ·simp only [Bool.toNat_false,Nat.add_zero];omega
    ·simp only [Bool.toNat_true];rw [hm];omega
   ·rw [g3];simp only [Bool.toNat_true];rw [hm];omega

theorem rS_tw (n:Int):rS (n*((2^tw:Nat):Int))=n:=rS_whole n tw rfl

theorem wI_half (S:Int):-(1 / 2)≤((wI S:Int):Rat) - rS S∧((wI S:Int):Rat) - rS S≤1 / 2:=by
 have p:=rU_pos
 have key:2*(wI S*((2^tw:Nat):Int))≤2*S+((2^tw:Nat):Int)∧2*S≤2*(wI S*((2^tw:Nat):Int))+((2^tw:Nat):Int):=by
  obtain ⟨h1,h2⟩:=wN_half S.natAbs
  unfold wI
  generalize wN S.natAbs=w at*
  generalize (2:Nat)^tw=D at*
  have e:((w*D:Nat):Int)=(w:Int)*(D:Int):=Int.natCast_mul _ _
  by_cases c:S<0
  ·rw [if_pos c,Int.neg_mul,←e];omega
  ·rw [if_neg c,←e];omega
 have m2:∀ T:Int,rS (2*T)=2*rS T:=fun T=>by unfold rS;rw [Rat.intCast_mul];grind
 have u1:rS ((2^tw:Nat):Int)=1:=by
  have:=rS_tw 1
  rw [Int.one_mul] at this;exact this
 have f1:=rS_le.2 key.1
 have f2:=rS_le.2 key.2
 rw [rS_add,m2,m2,rS_tw,u1] at f1
 rw [rS_add,m2,m2,rS_tw,u1] at f2
 clear key
 grind

theorem red_consts:rv 1069066811=12102203 / 8388608∧rv 1060205056=11629056 / 16777216∧rv 901758606=12566158 / 8796093022208∧rv 3268407733≤0∧-104≤rv 3268407733∧rv 1118925336≤89∧rv 1056964608=1 / 2∧rv 3204448256=-1 / 2:=by
 refine ⟨?_,?_,?_,?_,?_,?_,?_,?_⟩ <;> decide +kernel

theorem red_lin1 (v q n F:Rat) (q1:-(151 / 8000000)≤q - v*(12102203 / 8388608)) (q2:q - v*(12102203 / 8388608)≤151 / 8000000) (h1:-(1 / 2)≤n - q) (h2:n - q≤1 / 2) (m0:-150≤n) (m1:n≤128)
  (k1:-(150 / 8000000)≤F - n) (k2:F - n≤150 / 8000000):-(4 / 10)≤-F*(11629056 / 16777216)+v∧-F*(11629056 / 16777216)+v≤4 / 10:=by
 constructor <;> grind

theorem red_lin2 (A F I n:Rat) (m0:-150≤n) (m1:n≤128) (k1:-(150 / 8000000)≤F - n) (k2:F - n≤150 / 8000000) (a0:-(4 / 10)≤A) (a1:A≤4 / 10)
  (i1:-((4 / 10) / 8000000)≤I - A) (i2:I - A≤(4 / 10) / 8000000):-(45 / 100)≤-F*(12566158 / 8796093022208)+I∧-F*(12566158 / 8796093022208)+I≤45 / 100:=by
 constructor <;> grind

theorem red_lin3 (B R:Rat) (b0:-(45 / 100)≤B) (b1:B≤45 / 100) (r1:-((45 / 100) / 8000000)≤R - B) (r2:R - B≤(45 / 100) / 8000000):-1 / 2≤R∧R≤1 / 2:=by
 constructor <;> grind

theorem expN_whole (x:Int) (x0:0≤x) (x1:x≤4294967295) (b0:-1120924085≤kz x) (b1:kz x≤1118925336):
  -150≤expN x∧expN x≤128∧expN x=wI (sV (mulV x 1069066811)):=by
 obtain ⟨fx,gx,l1,l2⟩:=mulL_fin x x0 x1 b0 (by omega)
 obtain ⟨w0,w1⟩:=mul_word x 1069066811
 have e1:wI (sV 1125515265)=150:=by kernel_rfl
 have e2:wI (sV 3272998913)=-150:=by kernel_rfl
 have a:=wI_mono ((kz_line (mulV x 1069066811) 1125515265 w0 w1 (by omega) (by omega) gx (by decide)).1 (by rw [show kz 1125515265=1125515265 by decide];exact l2))
 have b:=wI_mono ((kz_line 3272998913 (mulV x 1069066811) (by omega) (by omega) w0 w1 (by decide) gx).1 (by rw [show kz 3272998913=-1125515265 by decide];exact l1))
 have e:expN x=wI (sV (mulV x 1069066811)):=by unfold expN;exact to_wI _ gx (by omega)
 have t:expN 1118925336=128:=by kernel_rfl
 have k:kz 1118925336=1118925336:=by decide
 have m:=expN_mono x 1118925336 x0 x1 (by omega) (by omega) b0 (by omega) (by omega) (by omega) (by omega)
 exact ⟨by omega,by omega,e⟩

theorem red_bd (x:Int) (x0:0≤x) (x1:x≤4294967295) (b0:-1120924085≤kz x) (b1:kz x≤1118925336):
  -150≤expN x∧expN x≤128∧finI 2 (expR x)=true∧-1056964608≤kz (expR x)∧kz (expR x)≤1056964608:=by
 obtain ⟨n0,n1,hn⟩:=expN_whole x x0 x1 b0 b1
 obtain ⟨cL,cH,cl,c4,c5,c6,c7,c8⟩:=red_consts
 obtain ⟨fx,gx,l1,l2⟩:=mulL_fin x x0 x1 b0 (by omega)
 have v0:=(rv_line 3268407733 x (by omega) (by omega) x0 x1 (by decide) fx).1 (by rw [show kz 3268407733=-1120924085 by decide];exact b0)
 have v1:=(rv_line x 1118925336 x0 x1 (by omega) (by omega) fx (by decide)).1 (by rw [show kz 1118925336=1118925336 by decide];exact b1)
 have vb:-151≤rv x*(12102203 / 8388608)∧rv x*(12102203 / 8388608)≤151:=by
  generalize rv x=v at*
  generalize rv 3268407733=c at*
  generalize rv 1118925336=d at*
  clear hn fx gx l1 l2
  constructor <;> grind
 obtain ⟨q0,q1,q2⟩:=mul_err x 1069066811 151 fx (by decide) (by decide +kernel) (by decide +kernel) (by rw [cL];exact vb.1) (by rw [cL];exact vb.2)
 rw [cL] at q1 q2
 obtain ⟨h1,h2⟩:=wI_half (sV (mulV x 1069066811))
 rw [←hn] at h1 h2
 replace h1:-(1 / 2)≤(expN x:Rat) - rv (mulV x 1069066811):=h1
 replace h2:(expN x:Rat) - rv (mulV x 1069066811)≤1 / 2:=h2
 have m0:(-150:Rat)≤(expN x:Rat):=by have:=Rat.intCast_le_intCast.2 n0;exact this
 have m1:(expN x:Rat)≤128:=by have:=Rat.intCast_le_intCast.2 n1;exact this
 obtain ⟨f0,f1⟩:=frm_word (expN x)
 obtain ⟨k0,k1,k2⟩:=rv_err (expN x*((2^tw:Nat):Int)) _ f0 f1 (frm_kz (expN x) tw rfl) 150 (by decide +kernel) (by decide +kernel) (by rw [rS_tw];exact m0) (by rw [rS_tw];exact Rat.le_trans m1 (by decide +kernel))
 rw [rS_tw] at k1 k2
 have hK:=rv_neg _ f0 f1
 have fK:finI 2 (negV (frmV (expN x)))=true:=by rw [←frm_neg,(xor_sV _ f0 f1).2];exact k0
 rw [frm_neg] at hK
 unfold expR
 generalize negV (frmV (expN x))=K at hK fK ⊢
 obtain ⟨a0,a1⟩:=red_lin1 _ _ _ _ q1 q2 h1 h2 m0 m1 k1 k2
 obtain ⟨i0,i1,i2⟩:=fma_err K 1060205056 x (4 / 10) fK (by decide) fx (by decide +kernel) (by decide +kernel) (by rw [cH,hK];exact a0) (by rw [cH,hK];exact a1)
 rw [cH,hK] at i1 i2
 generalize fmaV K 1060205056 x=I at*
 obtain ⟨d0,d1⟩:=red_lin2 _ _ _ _ m0 m1 k1 k2 a0 a1 i1 i2
 obtain ⟨r0,r1,r2⟩:=fma_err K 901758606 I (45 / 100) fK (by decide) i0 (by decide +kernel) (by decide +kernel) (by rw [cl,hK];exact d0) (by rw [cl,hK];exact d1)
 rw [cl,hK] at r1 r2
 obtain ⟨g0,g1⟩:=red_lin3 _ _ d0 d1 r1 r2
 obtain ⟨z0,z1⟩:=fma_word K 901758606 I
 generalize fmaV K 901758606 I=R at*
 refine ⟨n0,n1,r0,?_,?_⟩
 ·have:=(rv_line 3204448256 R (by omega) (by omega) z0 z1 (by decide) r0).2 (by rw [c8];exact g0)
  rw [show kz 3204448256=-1056964608 by decide] at this;exact this
 ·have:=(rv_line R 1056964608 z0 z1 (by omega) (by omega) r0 (by decide)).2 (by rw [c7];exact g1)
  rw [show kz 1056964608=1056964608 by decide] at this;exact this

theorem sV_pos (x:Int) (x0:0≤x) (x1:x≤4294967295) (h:finI 2 x=true):0≤kz x↔0≤sV x:=by
 have:=kz_line 0 x (by omega) (by omega) x0 x1 (by decide) h
 rw [show kz 0=0 by decide,show sV 0=0 by decide] at this;exact this

theorem sV_neg (x:Int) (x0:0≤x) (x1:x≤4294967295) (h:finI 2 x=true):kz x≤0↔sV x≤0:=by
 have:=kz_line x 0 x0 x1 (by omega) (by omega) h (by decide)
 rw [show kz 0=0 by decide,show sV 0=0 by decide] at this;exact this

theorem step_bd (C c p r lo hi:Int) (hC:finI 2 C=true) (hc:finI 2 c=true) (hp:finI 2 p=true) (hr:finI 2 r=true)
  (C0:0≤C) (C1:C≤4294967295) (p0:0≤p) (p1:p≤4294967295) (r0:0≤r) (r1:r≤4294967295)
  (q0:0≤kz p) (q1:kz p≤kz C) (s0:-1056964608≤kz r) (s1:kz r≤1056964608)
  (hlo:kz (fmaV C 3204448256 c)=lo) (hhi:kz (fmaV C 1056964608 c)=hi):lo≤kz (fmaV p r c)∧kz (fmaV p r c)≤hi:=by
 obtain ⟨T,hT⟩:∃ T:Nat,T=298:=⟨_,rfl⟩
 have fH:finI 2 1056964608=true:=by decide
 have fM:finI 2 3204448256=true:=by decide
 have kH:kz 1056964608=1056964608:=by decide
 have kM:kz 3204448256=-1056964608:=by decide
 have a1:=(sV_pos p p0 p1 hp).1 q0
 have a2:=(kz_line _ _ p0 p1 C0 C1 hp hC).1 q1
 have a3:=(kz_line _ _ (by omega) (by omega) r0 r1 fM hr).1 (by omega)
 have a4:=(kz_line _ _ r0 r1 (by omega) (by omega) hr fH).1 (by omega)
 have hm:sV 3204448256=-sV 1056964608:=by kernel_rfl
 have hh:0≤sV 1056964608:=(sV_pos _ (by omega) (by omega) fH).1 (by omega)
 have e1:=sP_mul p r T hT
 have e2:=sP_mul C 1056964608 T hT
 have e3:=sP_mul C 3204448256 T hT
 have hpT:(0:Int)<((2^T:Nat):Int):=by have:=p2 T;omega
 rw [hm] at a3 e3
 have b1:sV p*sV r≤sV C*sV 1056964608:=
  Int.le_trans (Int.mul_le_mul_of_nonneg_left a4 a1) (Int.mul_le_mul_of_nonneg_right a2 hh)
 have b2:sV C*-sV 1056964608≤sV p*sV r:=by
  have x1:sV p*-sV 1056964608≤sV p*sV r:=Int.mul_le_mul_of_nonneg_left a3 a1
  have x2:sV p*sV 1056964608≤sV C*sV 1056964608:=Int.mul_le_mul_of_nonneg_right a2 hh
  rw [Int.mul_neg] at x1 ⊢
  omega
 rw [←e1,←e2] at b1
 rw [←e1,←e3] at b2
 have c1:=Int.le_of_mul_le_mul_right b1 hpT
 have c2:=Int.le_of_mul_le_mul_right b2 hpT
 rw [fma_kz _ _ _ hp hr hc,←hlo,←hhi,fma_kz _ _ _ hC fM hc,fma_kz _ _ _ hC fH hc]
 exact ⟨rk_mono (by omega),rk_mono (by omega)⟩

theorem pC_is:kz (fmaV 985008993 3204448256 1007192201)=1006260134∧kz (fmaV 985008993 1056964608 1007192201)=1007937855∧kz (fmaV 1007937855 3204448256 1026206379)=1024994691∧kz (fmaV 1007937855 1056964608 1026206379)=1027418067
  ∧ kz (fmaV 1027418067 3204448256 1042983595)=1041434033∧kz (fmaV 1027418067 1056964608 1042983595)=1044533157∧kz (fmaV 1044533157 3204448256 1056964608)=1053781015∧kz (fmaV 1044533157 1056964608 1056964608)=1058556405
  ∧ kz (fmaV 1058556405 3204448256 1065353216)=1060363014∧kz (fmaV 1058556405 1056964608 1065353216)=1067848317∧kz (fmaV 1067848317 3204448256 1065353216)=1051974406∧kz (fmaV 1067848317 1056964608 1065353216)=1070795070∧kz (fmaV 1065353216 3204448256 1065353216)=1056964608:=by
 refine ⟨?_,?_,?_,?_,?_,?_,?_,?_,?_,?_,?_,?_,?_⟩ <;> kernel_rfl

theorem poly_bd (r : Int) (r0 : 0 ≤ r) (r1 : r ≤ 4294967295) (hr : finI 2 r = true) (s0 : -1056964608 ≤ kz r) (s1 : kz r ≤ 1056964608) :
    ∃ p, alongV 985008993 r [1007192201, 1026206379, 1042983595, 1056964608, 1065353216, 1065353216] = p ∧ 0 ≤ p ∧ p ≤ 4294967295 ∧ finI 2 p = true ∧ 1056964608 ≤ kz p ∧ kz p ≤ 1073741824
      ∧ (0 ≤ kz r → 1065353216 ≤ kz p) ∧ (kz r ≤ 0 → kz p ≤ 1065353216) := by
  obtain ⟨x1, y1, x2, y2, x3, y3, x4, y4, x5, y5, x6, y6, x7⟩ := pC_is
  have hz : finI 2 1065353216 = true := by decide
  obtain ⟨w10, w11⟩ := fma_word 985008993 r 1007192201
  obtain ⟨l1, h1⟩ := step_bd 985008993 1007192201 985008993 r _ _ (by decide) (by decide) (by decide) hr (by omega) (by omega) (by omega) (by omega) r0 r1 (by decide) (by omega) s0 s1 x1 y1
  obtain ⟨p1, hp1⟩ : ∃ p1, fmaV 985008993 r 1007192201 = p1 := ⟨_, rfl⟩
  rw [hp1] at w10 w11 l1 h1
  have f1 := fin_of_kz p1 w10 w11 (by omega) (by omega)
  obtain ⟨w20, w21⟩ := fma_word p1 r 1026206379
  obtain ⟨l2, h2⟩ := step_bd 1007937855 1026206379 p1 r _ _ (by decide) (by decide) f1 hr (by omega) (by omega) w10 w11 r0 r1 (by omega) (by rw [show kz 1007937855 = 1007937855 by decide]; exact h1) s0 s1 x2 y2
  obtain ⟨p2, hp2⟩ : ∃ p2, fmaV p1 r 1026206379 = p2 := ⟨_, rfl⟩
  rw [hp2] at w20 w21 l2 h2
  have f2 := fin_of_kz p2 w20 w21 (by omega) (by omega)
  obtain ⟨w30, w31⟩ := fma_word p2 r 1042983595
  obtain ⟨l3, h3⟩ := step_bd 1027418067 1042983595 p2 r _ _ (by decide) (by decide) f2 hr (by omega) (by omega) w20 w21 r0 r1 (by omega) (by rw [show kz 1027418067 = 1027418067 by decide]; exact h2) s0 s1 x3 y3
  obtain ⟨p3, hp3⟩ : ∃ p3, fmaV p2 r 1042983595 = p3 := ⟨_, rfl⟩
  rw [hp3] at w30 w31 l3 h3
  have f3 := fin_of_kz p3 w30 w31 (by omega) (by omega)
  obtain ⟨w40, w41⟩ := fma_word p3 r 1056964608
  obtain ⟨l4, h4⟩ := step_bd 1044533157 1056964608 p3 r _ _ (by decide) (by decide) f3 hr (by omega) (by omega) w30 w31 r0 r1 (by omega) (by rw [show kz 1044533157 = 1044533157 by decide]; exact h3) s0 s1 x4 y4
  obtain ⟨p4, hp4⟩ : ∃ p4, fmaV p3 r 1056964608 = p4 := ⟨_, rfl⟩
  rw [hp4] at w40 w41 l4 h4
  have f4 := fin_of_kz p4 w40 w41 (by omega) (by omega)
  obtain ⟨w50, w51⟩ := fma_word p4 r 1065353216
  obtain ⟨l5, h5⟩ := step_bd 1058556405 1065353216 p4 r _ _ (by decide) (by decide) f4 hr (by omega) (by omega) w40 w41 r0 r1 (by omega) (by rw [show kz 1058556405 = 1058556405 by decide]; exact h4) s0 s1 x5 y5
  have k5 := fma_kz p4 r 1065353216 f4 hr hz
  obtain ⟨p5, hp5⟩ : ∃ p5, fmaV p4 r 1065353216 = p5 := ⟨_, rfl⟩
  rw [hp5] at w50 w51 l5 h5 k5
  have f5 := fin_of_kz p5 w50 w51 (by omega) (by omega)
  obtain ⟨w60, w61⟩ := fma_word p5 r 1065353216
  obtain ⟨l6, h6⟩ := step_bd 1067848317 1065353216 p5 r _ _ (by decide) (by decide) f5 hr (by omega) (by omega) w50 w51 r0 r1 (by omega) (by rw [show kz 1067848317 = 1067848317 by decide]; exact h5) s0 s1 x6 y6
  have k6 := fma_kz p5 r 1065353216 f5 hr hz
  obtain ⟨T, hT⟩ : ∃ T : Nat, T = 298 := ⟨_, rfl⟩
  have hpT : (0 : Int) < ((2 ^ T : Nat) : Int) := by have := Go.Proofs.YtpjpmmiepfoiaaaGreat.p2 T; omega
  have one : rk (sV 1065353216) = 1065353216 := by
    rw [rk_self _ (by omega) (by omega) hz]; decide
  have q4 := (sV_pos p4 w40 w41 f4).1 (by omega)
  have q5 := (sV_pos p5 w50 w51 f5).1 (by omega)
  have e4 := sP_mul p4 r T hT
  have e5 := sP_mul p5 r T hT
  have up : 0 ≤ kz r → 1065353216 ≤ kz (fmaV p5 r 1065353216) := fun g => by
    have hr0 := (sV_pos r r0 r1 hr).1 g
    have m : 0 ≤ sV p5 * sV r := Int.mul_nonneg q5 hr0
    rw [← e5] at m
    have : 0 ≤ sP p5 r := Int.le_of_mul_le_mul_right (by rw [Int.zero_mul]; exact m) hpT
    rw [k6]
    have := rk_mono (show sV 1065353216 ≤ sP p5 r + sV 1065353216 by omega)
    omega
  have down : kz r ≤ 0 → kz (fmaV p5 r 1065353216) ≤ 1065353216 ∧ 1056964608 ≤ kz (fmaV p5 r 1065353216) := fun g => by
    have hr0 := (sV_neg r r0 r1 hr).1 g
    have m4 : sV p4 * sV r ≤ 0 := Int.mul_nonpos_of_nonneg_of_nonpos q4 hr0
    have m5 : sV p5 * sV r ≤ 0 := Int.mul_nonpos_of_nonneg_of_nonpos q5 hr0
    rw [← e4] at m4
    rw [← e5] at m5
    have n4 : sP p4 r ≤ 0 := Int.le_of_mul_le_mul_right (by rw [Int.zero_mul]; exact m4) hpT
    have n5 : sP p5 r ≤ 0 := Int.le_of_mul_le_mul_right (by rw [Int.zero_mul]; exact m5) hpT
    have a := rk_mono (show sP p4 r + sV 1065353216 ≤ sV 1065353216 by omega)
    have b := rk_mono (show sP p5 r + sV 1065353216 ≤ sV 1065353216 by omega)
    rw [← k5, one] at a
    rw [← k6, one] at b
    refine ⟨b, ?_⟩
    exact (step_bd 1065353216 1065353216 p5 r _ _ hz hz f5 hr (by omega) (by omega) w50 w51 r0 r1 (by omega) (by rw [show kz 1065353216 = 1065353216 by decide]; exact a) s0 s1 x7 rfl).1
  have e : alongV 985008993 r [1007192201, 1026206379, 1042983595, 1056964608, 1065353216, 1065353216] = fmaV p5 r 1065353216 := by
    unfold alongV; simp only [List.foldl_cons, List.foldl_nil]; rw [hp1, hp2, hp3, hp4, hp5]
  refine ⟨_, e, w60, w61, fin_of_kz _ w60 w61 (by omega) (by omega), ?_, by omega, up, fun g => (down g).1⟩
  rcases Int.le_total 0 (kz r) with g | g
  · have := up g; omega
  · exact (down g).2

/-! Scaling. -/
theorem sca_val (p n:Int) (hp:finI 2 p=true) (hs:fS 2 p=false) (n0:-150≤n) (n1:n≤128):scaV p n=(magN 2 0 false ((unM 2 p).toNat*2^(unE 2 p+n+10100).toNat):Int):=by
 obtain ⟨a,b⟩:=fin_kinds p hp
 obtain ⟨u0,u1⟩:=unE_bd 2 p
 have hl:limI n=n:=by unfold limI;rw [if_neg (by omega),if_neg (by omega)]
 have hv:valN (clampE (unE 2 p+limI n)) (unM 2 p) false=(unM 2 p).toNat*2^(unE 2 p+n+10100).toNat:=by
  unfold valN
  rw [hl,show clampE (unE 2 p+n)=unE 2 p+n by unfold clampE;rw [if_neg (by omega),if_neg (by omega)],Bool.toNat_false,Nat.add_zero]
 unfold scaV scaE
 rw [a,hp,hs,hv,if_neg (by decide),if_neg (by decide)]
 show zerI 2 false+_=_
 rw [show zerI 2 false=0 by rfl,Int.zero_add]

theorem mag_num (x:Int) (h0:0≤x) (h1:x<2147483648) (h:finI 2 x=true):(magN 2 0 false (numN 2 x):Int)=x:=by
 have:=rkN_self x h0 (by omega) h
 unfold rkN at this
 rw [up_num] at this
 omega

theorem num_mono (x y:Int) (x0:0≤x) (x1:x<2147483648) (y0:0≤y) (y1:y<2147483648) (hx:finI 2 x=true) (hy:finI 2 y=true) (h:x≤y):numN 2 x≤numN 2 y:=by
 rw [num_line 2 x y hx hy,a_two,a_two];omega

theorem num_twos:numN 2 1065353216=numN 2 1056964608*2∧numN 2 1073741824=numN 2 1065353216*2:=by constructor <;> kernel_rfl

theorem sca_zero (p:Int) (p0:0≤p) (p1:p<2147483648) (hp:finI 2 p=true) (hs:fS 2 p=false):scaV p 0=p:=by
 rw [sca_val p 0 hp hs (by omega) (by omega),Int.add_zero]
 exact mag_num p p0 p1 hp

theorem sca_up (p n:Int) (p0:1056964608≤p) (p1:p<2147483648) (hp:finI 2 p=true) (hs:fS 2 p=false) (n0:1≤n) (n1:n≤128):1065353216≤scaV p n∧scaV p n≤2139095040:=by
 obtain ⟨u0,u1⟩:=unE_bd 2 p
 have hm:=num_mono 1056964608 p (by omega) (by omega) (by omega) p1 (by decide) hp p0
 have hv:numN 2 1065353216≤(unM 2 p).toNat*2^(unE 2 p+n+10100).toNat:=by
  rw [num_twos.1]
  have e:(unM 2 p).toNat*2^(unE 2 p+n+10100).toNat=numN 2 p*2^n.toNat:=by
   unfold numN;rw [Nat.mul_assoc,←Nat.pow_add,show (unE 2 p+10100).toNat+n.toNat=(unE 2 p+n+10100).toNat by omega]
  rw [e]
  exact Nat.mul_le_mul hm (Nat.pow_le_pow_right (n:=2) (by decide) (show 1≤n.toNat by omega))
 have h1:=mag_mono 2 0 false hv
 have h2:=mag_num 1065353216 (by omega) (by omega) (by decide)
 have h3:=mag_top ((unM 2 p).toNat*2^(unE 2 p+n+10100).toNat)
 rw [sca_val p n hp hs (by omega) n1]
 omega

theorem sca_down (p n:Int) (p0:0≤p) (p1:p≤1073741824) (hp:finI 2 p=true) (hs:fS 2 p=false) (n0:-150≤n) (n1:n≤-1):0≤scaV p n∧scaV p n≤1065353216:=by
 obtain ⟨u0,u1⟩:=unE_bd 2 p
 have hm:=num_mono p 1073741824 p0 (by omega) (by omega) (by omega) hp (by decide) p1
 have hv:(unM 2 p).toNat*2^(unE 2 p+n+10100).toNat≤numN 2 1065353216:=by
  rw [num_twos.2] at hm
  have e:numN 2 p=(unM 2 p).toNat*2^(unE 2 p+n+10100).toNat*2^(-n).toNat:=by
   unfold numN;rw [Nat.mul_assoc,←Nat.pow_add,show (unE 2 p+n+10100).toNat+(-n).toNat=(unE 2 p+10100).toNat by omega]
  rw [e] at hm
  have h2:2^1≤2^(-n).toNat:=Nat.pow_le_pow_right (n:=2) (by decide) (show 1≤(-n).toNat by omega)
  generalize (unM 2 p).toNat*2^(unE 2 p+n+10100).toNat=V at hm ⊢
  have h3:V*2^1≤V*2^(-n).toNat:=Nat.mul_le_mul_left _ h2
  omega
 have h1:=mag_mono 2 0 false hv
 have h2:=mag_num 1065353216 (by omega) (by omega) (by decide)
 rw [sca_val p n hp hs n0 (by omega)]
 omega

theorem frm_nought:redK 0=2147483648∧expN 0=0:=by constructor <;> kernel_rfl

theorem red_nought (x:Int) (x0:0≤x) (x1:x≤4294967295) (hx:finI 2 x=true) (hn:expN x=0):kz (expR x)=kz x:=by
 obtain ⟨T,hT⟩:∃ T:Nat,T=298:=⟨_,rfl⟩
 have hpT:(0:Int)<((2^T:Nat):Int):=by have:=p2 T;omega
 have hz:∀ c,sP 2147483648 c=0:=fun c=>by
  have e:=sP_mul 2147483648 c T hT
  rw [show sV 2147483648=0 by decide,Int.zero_mul] at e
  rcases Int.mul_eq_zero.1 e with h | h
  ·exact h
  ·omega
 have hk:expR x=redR (redK 0) x:=by unfold expR redR redI redK;rw [hn]
 have f0:finI 2 2147483648=true:=by decide
 have hb:=(fin_kz x x0 x1).1 hx
 obtain ⟨u0,u1⟩:=fma_word 2147483648 1060205056 x
 have e1:kz (fmaV 2147483648 1060205056 x)=kz x:=by rw [fma_kz _ _ _ f0 (by decide) hx,hz,Int.zero_add,rk_self x x0 x1 hx]
 have f1:finI 2 (fmaV 2147483648 1060205056 x)=true:=fin_of_kz _ u0 u1 (by omega) (by omega)
 rw [hk,frm_nought.1]
 unfold redR redI
 rw [fma_kz _ _ _ f0 (by decide) f1,hz,Int.zero_add,rk_self _ u0 u1 f1,e1]

theorem expI_bd (x:Int) (x0:0≤x) (x1:x≤4294967295) (hn:nanB 2 x=false):
  0≤expI x∧expI x≤2139095040∧(0≤kz x→1065353216≤expI x)∧(kz x≤0→expI x≤1065353216):=by
 have h1:=nan_fin' 1118925336 (by omega) (by omega) x x0 x1 (by decide) hn (by decide)
 have h2:=nan_fin x x0 x1 3268407733 (by omega) (by omega) hn (by decide) (by decide)
 rw [show kz 1118925336=1118925336 by decide] at h1
 rw [show kz 3268407733=-1120924085 by decide] at h2
 unfold expI
 rw [hn,if_neg (by decide),h1,h2]
 by_cases c1:1118925336<kz x
 ·rw [decide_eq_true c1,if_pos rfl];exact ⟨by omega,by omega,by omega,by omega⟩
 ·by_cases c2:kz x < -1120924085
  ·rw [decide_eq_false c1,decide_eq_true c2,if_neg (by decide),if_pos rfl];exact ⟨by omega,by omega,by omega,by omega⟩
  ·rw [decide_eq_false c1,decide_eq_false c2,if_neg (by decide),if_neg (by decide)]
   obtain ⟨n0,n1,fr,s0,s1⟩:=red_bd x x0 x1 (by omega) (by omega)
   obtain ⟨w0,w1⟩:=fma_word (negV (frmV (expN x))) 901758606 (fmaV (negV (frmV (expN x))) 1060205056 x)
   obtain ⟨p,hp,p0,p1,fp,l1,l2,l3,l4⟩:=poly_bd (expR x) w0 w1 fr s0 s1
   have hp':expP x=p:=hp
   rw [hp']
   have fx:finI 2 x=true:=fin_of_kz x x0 x1 (by omega) (by omega)
   have pp:p<2147483648:=by unfold kz at l1;split at l1 <;> omega
   have kp:kz p=p:=by unfold kz;rw [if_neg (by omega)]
   have sp:fS 2 p=false:=by rw [fS_two p p0 p1];exact decide_eq_false (by omega)
   rw [kp] at l1 l2 l3 l4
   have hm0:0≤kz x→0≤expN x:=fun g=>by
    have:=expN_mono 0 x (by omega) (by omega) x0 x1 (by decide) (by decide) (by omega) (by omega) (by rw [show kz 0=0 by decide];exact g)
    rw [frm_nought.2] at this;exact this
   have hm1:kz x≤0→expN x≤0:=fun g=>by
    have:=expN_mono x 0 x0 x1 (by omega) (by omega) (by omega) (by omega) (by decide) (by decide) (by rw [show kz 0=0 by decide];exact g)
    rw [frm_nought.2] at this;exact this
   have hz:expN x=0→kz (expR x)=kz x:=red_nought x x0 x1 fx
   obtain ⟨n,hnn⟩:∃ n,expN x=n:=⟨_,rfl⟩
   rw [hnn] at n0 n1 hm0 hm1 hz ⊢
   rcases (show n≤-1∨n=0∨1≤n by omega) with g | g | g
   ·have:=sca_down p n p0 l2 fp sp n0 g
    exact ⟨by omega,by omega,fun k=>by have:=hm0 k;omega,fun _=>this.2⟩
   ·subst g
    have e:=hz rfl
    rw [sca_zero p p0 pp fp sp]
    exact ⟨by omega,by omega,fun k=>l3 (by omega),fun k=>l4 (by omega)⟩
   ·have:=sca_up p n l1 pp fp sp g n1
    exact ⟨by omega,by omega,fun _=>this.1,fun k=>by have:=hm1 k;omega⟩

theorem mag_one (T:Nat) (hT:T=10100):magN 2 0 false (2^T+1)=1065353216:=by subst hT;kernel_rfl

theorem div_le (a D:Int) (a0:0<a) (a1:a<2139095040) (d1:D<2139095040) (h:a≤D):0≤divV a D∧divV a D≤1065353216:=by
 have fa:finI 2 a=true:=fin_of_kz a (by omega) (by omega) (by unfold kz;rw [if_neg (by omega)];omega) (by unfold kz;rw [if_neg (by omega)];omega)
 have fD:finI 2 D=true:=fin_of_kz D (by omega) (by omega) (by unfold kz;rw [if_neg (by omega)];omega) (by unfold kz;rw [if_neg (by omega)];omega)
 obtain ⟨a2,a3⟩:=fin_kinds a fa
 obtain ⟨d2,d3⟩:=fin_kinds D fD
 have na:nouB 2 a=false:=by
  cases h':nouB 2 a
  ·rfl
  ·have:=(nou_a 2 a).1 h';rw [a_two] at this;omega
 have nD:nouB 2 D=false:=by
  cases h':nouB 2 D
  ·rfl
  ·have:=(nou_a 2 D).1 h';rw [a_two] at this;omega
 have hs:sgP 2 a D=false:=by unfold sgP;rw [fS_two a (by omega) (by omega),fS_two D (by omega) (by omega),decide_eq_false (by omega),decide_eq_false (by omega)];rfl
 have hnum:=num_mono a D (by omega) (by omega) (by omega) (by omega) fa fD h
 obtain ⟨u0,u1⟩:=unE_bd 2 a
 obtain ⟨v0,v1⟩:=unE_bd 2 D
 have hN:0<(unM 2 D).toNat:=by have:=num_pos 2 D d2 nD d3;omega
 obtain ⟨T,hT⟩:∃ T:Nat,T=10100:=⟨_,rfl⟩
 obtain ⟨V,hV⟩:∃ V,V=quoN (unM 2 a).toNat (unM 2 D).toNat 100*2^(unE 2 a - unE 2 D - 100+10100).toNat:=⟨_,rfl⟩
 have hVle:V≤2^T:=by
  unfold numN at hnum
  have hq:quoN (unM 2 a).toNat (unM 2 D).toNat 100*(unM 2 D).toNat≤(unM 2 a).toNat*2^100:=by unfold quoN;exact Nat.div_mul_le_self _ _
  generalize quoN (unM 2 a).toNat (unM 2 D).toNat 100=q at hq hV
  obtain ⟨A,hA⟩:∃ A:Nat,A=(unE 2 a+10100).toNat:=⟨_,rfl⟩
  obtain ⟨B,hB⟩:∃ B:Nat,B=(unE 2 D+10100).toNat:=⟨_,rfl⟩
  obtain ⟨S,hS⟩:∃ S:Nat,S=(unE 2 a - unE 2 D - 100+10100).toNat:=⟨_,rfl⟩
  rw [←hA,←hB] at hnum
  rw [←hS] at hV
  generalize (unM 2 a).toNat=M at hq hnum
  generalize (unM 2 D).toNat=N at hq hnum hN
  have hSB:S+B+100=A+T:=by omega
  have e1:q*N*2^(S+B)≤M*2^100*2^(S+B):=Nat.mul_le_mul_right _ hq
  have e2:M*2^100*2^(S+B)=M*2^A*2^T:=by
   rw [Nat.mul_assoc,←Nat.pow_add,Nat.mul_assoc,←Nat.pow_add,show 100+(S+B)=A+T by omega]
  have e3:M*2^A*2^T≤N*2^B*2^T:=Nat.mul_le_mul_right _ hnum
  have e4:q*N*2^(S+B)=V*(N*2^B):=by
   rw [hV,Nat.pow_add]
   generalize (2:Nat)^S=x
   generalize (2:Nat)^B=y
   grind
  have e5:V*(N*2^B)≤2^T*(N*2^B):=by rw [←e4,Nat.mul_comm (2^T)];omega
  exact Nat.le_of_mul_le_mul_right e5 (Nat.mul_pos hN (p2 B))
 have hb:=Bool.toNat_le (quoB (unM 2 a).toNat (unM 2 D).toNat 100)
 have hval:divV a D=(magN 2 0 false (V+(quoB (unM 2 a).toNat (unM 2 D).toNat 100).toNat):Int):=by
  unfold divV divE quoE
  rw [a2,d2,na,nD,a3,d3,hs,←hV,if_neg (by decide),if_neg (by decide),if_neg (by decide),if_neg (by decide),if_neg (by decide)]
  show zerI 2 false+_=_
  rw [show zerI 2 false=0 by rfl,Int.zero_add]
 have hm:=mag_mono 2 0 false (show V+(quoB (unM 2 a).toNat (unM 2 D).toNat 100).toNat≤2^T+1 by omega)
 rw [mag_one T hT] at hm
 rw [hval];omega

theorem dif_pos' (V W:Nat) (h:W≤V):0≤valI (finE 2 0 false V true W)∧valI (finE 2 0 false V true W)<2147483648:=by
 unfold finE totE
 rw [if_neg (by simp)]
 by_cases d:amT false V true W=0
 ·rw [if_pos d];decide
 ·rw [if_neg d,show sgT false V true W=false by unfold sgT;rw [if_neg (by decide),if_neg (by omega)]]
  have hm:=mag_top (upN (amT false V true W))
  have:valI (PackE 2 0 false (upN (amT false V true W)))=(magN 2 0 false (upN (amT false V true W)):Int):=by
   show zerI 2 false+_=_
   rw [show zerI 2 false=0 by rfl,Int.zero_add]
  rw [this];omega

theorem tan_consts:kz (addV 1091579060 1091579060)=1099967668∧subV 1065353216 (divV 1073741824 (addV 2139095040 1065353216))=1065353216∧kz (addV 1065353216 1065353216)=1073741824∧kz (addV 2139095039 1065353216)=2139095039
  ∧ divV 1065353216 (addV 1065353216 2139095040)=0∧kz (addV 1065353216 0)=1065353216∧kz (addV 1065353216 2139095039)=2139095039:=by
 refine ⟨?_,?_,?_,?_,?_,?_,?_⟩ <;> kernel_rfl

theorem sV_mono (x y:Int) (x0:0≤x) (y1:y<2139095040) (h:x≤y):sV x≤sV y∧finI 2 x=true∧finI 2 y=true:=by
 have fx:=fin_of_kz x x0 (by omega) (by rw [kz_pos x (by omega)];omega) (by rw [kz_pos x (by omega)];omega)
 have fy:=fin_of_kz y (by omega) (by omega) (by rw [kz_pos y (by omega)];omega) (by rw [kz_pos y (by omega)];omega)
 exact ⟨(kz_line x y x0 (by omega) (by omega) (by omega) fx fy).1 (by rw [kz_pos x (by omega),kz_pos y (by omega)];exact h),fx,fy⟩

theorem tanB_bd (a:Int) (a0:0<a) (a1:a≤2139095040):0≤tanB a∧tanB a≤1065353216:=by
 obtain ⟨t1,t2,t3,t4,t5,t6,t7⟩:=tan_consts
 have ka:=kz_pos a (by omega)
 have hn:nanB 2 a=false:=(nan_kz a (by omega) (by omega)).2 (by omega)
 have hl:=nan_fin' 1091579060 (by omega) (by omega) a (by omega) (by omega) (by decide) hn (by decide)
 rw [show kz 1091579060=1091579060 by decide,ka] at hl
 unfold tanB
 rw [hl]
 by_cases c:1091579060<a
 ·rw [decide_eq_true c,if_pos rfl];omega
 ·rw [decide_eq_false c,if_neg (by decide)]
  obtain ⟨y0,y1⟩:=add_word a a
  obtain ⟨s1,fa,fc⟩:=sV_mono a 1091579060 (by omega) (by omega) (by omega)
  obtain ⟨s0,_,_⟩:=sV_mono 0 a (by omega) (by omega) (by omega)
  rw [show sV 0=0 by decide] at s0
  have k1:=rk_mono (show sV a+sV a≤sV 1091579060+sV 1091579060 by omega)
  have k0:=rk_mono (show 0≤sV a+sV a by omega)
  rw [←add_kz _ _ fa fa,←add_kz _ _ fc fc,t1] at k1
  rw [←add_kz _ _ fa fa,rk_zero] at k0
  obtain ⟨e0,e1,e2,e3⟩:=expI_bd (addV a a) y0 y1 ((nan_kz _ y0 y1).2 (by omega))
  have e4:=e2 k0
  generalize expI (addV a a)=E at e0 e1 e4
  clear e2 e3
  by_cases i:E=2139095040
  ·subst i;rw [t2];omega
  ·obtain ⟨b1,_,fE⟩:=sV_mono 1065353216 E (by omega) (by omega) e4
   obtain ⟨b2,_,fG⟩:=sV_mono E 2139095039 (by omega) (by omega) (by omega)
   have fo:finI 2 1065353216=true:=by decide
   obtain ⟨d0,d1⟩:=add_word E 1065353216
   have k2:=rk_mono (show sV 1065353216+sV 1065353216≤sV E+sV 1065353216 by omega)
   have k3:=rk_mono (show sV E+sV 1065353216≤sV 2139095039+sV 1065353216 by omega)
   rw [←add_kz _ _ fo fo,←add_kz _ _ fE fo,t3] at k2
   rw [←add_kz _ _ fE fo,←add_kz _ _ fG fo,t4] at k3
   generalize addV E 1065353216=D at d0 d1 k2 k3
   have kD:kz D=D:=by unfold kz at k2 ⊢;split at k2 <;> rename_i g <;> simp only [g,if_true,if_false] <;> omega
   obtain ⟨q0,q1⟩:=div_le 1073741824 D (by omega) (by omega) (by omega) (by omega)
   generalize divV 1073741824 D=Q at q0 q1
   obtain ⟨r1,fQ,_⟩:=sV_mono Q 1065353216 q0 (by omega) q1
   obtain ⟨r0,_,_⟩:=sV_mono 0 Q (by omega) (by omega) q0
   rw [show sV 0=0 by decide] at r0
   have k4:=sub_kz 1065353216 Q q0 (by omega) fo fQ
   have k5:=rk_mono (show sV 1065353216 - sV Q≤sV 1065353216 by omega)
   rw [←k4,rk_self _ (by omega) (by omega) fo,show kz 1065353216=1065353216 by decide] at k5
   obtain ⟨o1,o2⟩:=fin_kinds 1065353216 fo
   obtain ⟨g1,g2⟩:=fin_kinds Q fQ
   obtain ⟨x1,x2,x3,x4,x5⟩:=xor_parts 2 Q q0 (by omega)
   have hc:clsI 2 (xorI 2 Q)=clsI 2 Q:=by unfold clsI;rw [x1,x2]
   have g3:nanB 2 (xorI 2 Q)=false:=by unfold nanB at g1 ⊢;rw [hc];exact g1
   have g4:infB 2 (xorI 2 Q)=false:=by unfold infB at g2 ⊢;rw [hc];exact g2
   have hv:subV 1065353216 Q=valI (finE 2 0 false (amtE (unE 2 1065353216) (unM 2 1065353216)) true (amtE (unE 2 Q) (unM 2 Q))):=by
    unfold subV subE addE
    rw [o1,g3,o2,g4,x3,fS_two Q q0 (by omega),decide_eq_false (by omega),if_neg (by decide),if_neg (by decide),if_neg (by decide),if_neg (by decide)]
    have:unE 2 (xorI 2 Q)=unE 2 Q∧unM 2 (xorI 2 Q)=unM 2 Q:=by unfold unE unM;rw [x1,x2];exact ⟨rfl,rfl⟩
    rw [this.1,this.2];rfl
   have hs:∀ z:Int,0≤z→z<2147483648→sV z=(amtE (unE 2 z) (unM 2 z):Int):=fun z z0 z1=>by
    unfold sV sg;rw [fS_two z z0 (by omega),decide_eq_false (by omega)];rfl
   rw [hs Q q0 (by omega),hs 1065353216 (by omega) (by omega)] at r1
   obtain ⟨m0,m1⟩:=dif_pos' (amtE (unE 2 1065353216) (unM 2 1065353216)) (amtE (unE 2 Q) (unM 2 Q)) (by omega)
   rw [←hv] at m0 m1
   rw [kz_pos _ m1] at k5
   exact ⟨m0,k5⟩

theorem or_land (t:Int) (t0:0≤t) (t1:t<2147483648):bits .or .u32 t 2147483648=t+2147483648∧bits .or .u32 t 0=t:=by
 have e:sgb 2=2147483648:=rfl
 have h:=or_zer 2 t true t0 (by rw [e];exact t1)
 have g:=or_zer 2 t false t0 (by rw [e];exact t1)
 refine ⟨h,?_⟩
 have:bits .or .u32 t (zerI 2 false)=t+zerI 2 false:=g
 rw [show zerI 2 false=0 by rfl,Int.add_zero] at this
 exact this

theorem sign_land (x:Int) (x0:0≤x) (x1:x≤4294967295):bits .and .u32 x 2147483648=if 2147483648≤x then 2147483648 else 0:=by
 rw [and_bit32 x 31 (b:=2147483648) x0 x1 (by decide) (by decide)]
 split <;> omega

theorem tan_land (x:Int) (x0:0≤x) (x1:x≤4294967295) (hn:nanB 2 x=false):(nouB 2 x=true↔absI x=0)∧(absI x=0→tanI x=x)∧(¬absI x=0→tanI x=bits .or .u32 (tanB (absI x)) (bits .and .u32 x 2147483648)):=by
 have hk:=(nan_kz x x0 x1).1 hn
 have ha:0≤absI x∧absI x≤2139095040:=by unfold absI;unfold kz at hk;split at hk <;> omega
 refine ⟨by rw [nou_a,a_two];rfl,fun z=>by unfold tanI;rw [hn,if_neg (by decide),if_pos z],fun z=>?_⟩
 obtain ⟨b0,b1⟩:=tanB_bd (absI x) (by omega) ha.2
 obtain ⟨o1,o2⟩:=or_land (tanB (absI x)) b0 (by omega)
 unfold tanI
 rw [hn,if_neg (by decide),if_neg z,sign_land x x0 x1]
 by_cases c:2147483648≤x
 ·rw [if_pos c,if_pos c,o1]
  exact (neg_is _ b0 (by omega) ((nan_kz _ b0 (by omega)).2 (by rw [kz_pos _ (by omega)];omega))).2.2 (by omega)
 ·rw [if_neg c,if_neg c,o2]

theorem no_land (x:Int) (x0:0≤x) (x1:x≤4294967295):bits .andNot .u32 x 2147483648=x%2147483648:=by
 have h:=no_sign 2 x x0 x1
 rw [low_is 2 x x0 (by rw [show msk 2=4294967295 by rfl];exact x1)] at h
 exact h

theorem tan_word (x:Int) (x0:0≤x) (x1:x≤4294967295):0≤tanI x∧tanI x≤4294967295:=by
 unfold tanI
 have hb:0≤tanB (absI x)∧tanB (absI x)≤4294967295:=by
  unfold tanB
  split
  ·omega
  ·exact sub_word _ _
 split
 ·omega
 ·split
  ·omega
  ·split
   ·exact neg_word _ hb.1 hb.2
   ·exact hb
end Go.Proofs.YtpjpmmiepfoiaaaGreat
