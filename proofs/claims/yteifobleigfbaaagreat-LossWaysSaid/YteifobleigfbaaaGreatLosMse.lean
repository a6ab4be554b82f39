/- LossMse's numbers: a sum of squares is nought just when all are alike. No program. (Written by gen70.py.) -/
import Derived.Test.YteifobleigfbaaaGreatLosMath
import Derived.KernelRfl
namespace Go.Proofs.YteifobleigfbaaaGreat
open Go.RowKit
set_option linter.unusedVariables false
set_option linter.unusedSimpArgs false

def bnd (k:Nat):Int:=[0,1115684864,1124073472,1128267776,1132462080,1134559232,1136656384,1138753536,1140850688,1141899264,1142947840,1143996416,1145044992,1146093568,1147142144,1148190720,1149239296].getD k 0

theorem bnd_up (k:Nat) (h:k<16):sV (bnd k)+sV 1115684864=sV (bnd (k+1))∧finI 2 (bnd (k+1))=true∧0≤bnd (k+1)∧bnd (k+1)≤1149239296∧kz (bnd (k+1))=bnd (k+1):=by
 rcases (show k=0∨k=1∨k=2∨k=3∨k=4∨k=5∨k=6∨k=7∨k=8∨k=9∨k=10∨k=11∨k=12∨k=13∨k=14∨k=15 by omega) with rfl | rfl | rfl | rfl | rfl | rfl | rfl | rfl | rfl | rfl | rfl | rfl | rfl | rfl | rfl | rfl
 ·exact ⟨by kernel_rfl,by kernel_rfl,by decide,by decide,by kernel_rfl⟩
 ·exact ⟨by kernel_rfl,by kernel_rfl,by decide,by decide,by kernel_rfl⟩
 ·exact ⟨by kernel_rfl,by kernel_rfl,by decide,by decide,by kernel_rfl⟩
 ·exact ⟨by kernel_rfl,by kernel_rfl,by decide,by decide,by kernel_rfl⟩
 ·exact ⟨by kernel_rfl,by kernel_rfl,by decide,by decide,by kernel_rfl⟩
 ·exact ⟨by kernel_rfl,by kernel_rfl,by decide,by decide,by kernel_rfl⟩
 ·exact ⟨by kernel_rfl,by kernel_rfl,by decide,by decide,by kernel_rfl⟩
 ·exact ⟨by kernel_rfl,by kernel_rfl,by decide,by decide,by kernel_rfl⟩
 ·exact ⟨by kernel_rfl,by kernel_rfl,by decide,by decide,by kernel_rfl⟩
 ·exact ⟨by kernel_rfl,by kernel_rfl,by decide,by decide,by kernel_rfl⟩
 ·exact ⟨by kernel_rfl,by kernel_rfl,by decide,by decide,by kernel_rfl⟩
 ·exact ⟨by kernel_rfl,by kernel_rfl,by decide,by decide,by kernel_rfl⟩
 ·exact ⟨by kernel_rfl,by kernel_rfl,by decide,by decide,by kernel_rfl⟩
 ·exact ⟨by kernel_rfl,by kernel_rfl,by decide,by decide,by kernel_rfl⟩
 ·exact ⟨by kernel_rfl,by kernel_rfl,by decide,by decide,by kernel_rfl⟩
 ·exact ⟨by kernel_rfl,by kernel_rfl,by decide,by decide,by kernel_rfl⟩

theorem sq_ends:sP 855638016 855638016=sV 645922816∧sP 1090519040 1090519040=sV 1115684864∧kz 645922816=645922816:=⟨by kernel_rfl,by kernel_rfl,by decide⟩

theorem fma_noughts:fmaV 0 0 0=0∧fmaV 2147483648 2147483648 0=0:=⟨by kernel_rfl,by kernel_rfl⟩

theorem sq_mono (x y:Int) (hx:0≤sV x) (h:sV x≤sV y):sP x x≤sP y y:=by
 obtain ⟨T,hT⟩:∃ T:Nat,T=298:=⟨_,rfl⟩
 have a:=sP_mul x x T hT
 have b:=sP_mul y y T hT
 have hU:(0:Int)<((2^T:Nat):Int):=by have:=Nat.two_pow_pos T;omega
 have m:sV x*sV x≤sV y*sV y:=Int.mul_le_mul h h hx (Int.le_trans hx h)
 rw [←a,←b] at m
 exact Int.le_of_mul_le_mul_right m hU

theorem sq_sign (x y:Int) (h:sV x=-sV y):sP x x=sP y y:=by
 obtain ⟨T,hT⟩:∃ T:Nat,T=298:=⟨_,rfl⟩
 have a:=sP_mul x x T hT
 have b:=sP_mul y y T hT
 have hU:(0:Int)<((2^T:Nat):Int):=by have:=Nat.two_pow_pos T;omega
 have m:sV x*sV x=sV y*sV y:=by rw [h,Int.neg_mul_neg]
 rw [←a,←b] at m
 exact Int.eq_of_mul_eq_mul_right (by omega) m

theorem sq_pos (x:Int):0≤sP x x:=by
 obtain ⟨T,hT⟩:∃ T:Nat,T=298:=⟨_,rfl⟩
 have a:=sP_mul x x T hT
 have hU:(0:Int)<((2^T:Nat):Int):=by have:=Nat.two_pow_pos T;omega
 have m:0≤sV x*sV x:=by
  rcases Int.le_total 0 (sV x) with h | h
  ·exact Int.mul_nonneg h h
  ·have:=Int.mul_nonneg (show 0≤-sV x by omega) (show 0≤-sV x by omega)
   rwa [Int.neg_mul_neg] at this
 rw [←a] at m
 exact Int.le_of_mul_le_mul_right (by rw [Int.zero_mul];exact m) hU

theorem sV_flip (d:Int) (d0:2147483648≤d) (d1:d≤4294967295):sV d=-sV (d - 2147483648):=by
 have e:unE 2 d=unE 2 (d - 2147483648)∧unM 2 d=unM 2 (d - 2147483648):=by
  have e5:∀ x,fX 2 x=x / 8388608%256:=fun x=>rfl
  have e6:∀ x,fF 2 x=x%8388608:=fun x=>rfl
  unfold unE unM
  rw [e5,e5,e6,e6,show d / 8388608%256=(d - 2147483648) / 8388608%256 by omega,show d%8388608=(d - 2147483648)%8388608 by omega]
  exact ⟨rfl,rfl⟩
 unfold sV
 rw [e.1,e.2,fS_two d (by omega) d1,fS_two (d - 2147483648) (by omega) (by omega),decide_eq_true d0,decide_eq_false (by omega)]
 rfl

theorem sq_abs (d:Int) (d0:0≤d) (d1:d≤4294967295):∃ x:Int,0≤x∧x≤2147483647∧sP d d=sP x x∧(kz d=x∨kz d=-x):=by
 by_cases c:2147483648≤d
 ·exact ⟨d - 2147483648,by omega,by omega,sq_sign _ _ (sV_flip d c d1),.inr (by unfold kz;rw [if_pos c];omega)⟩
 ·exact ⟨d,d0,by omega,rfl,.inl (by unfold kz;rw [if_neg c])⟩

theorem sq_step (d s:Int) (k:Nat) (hk:k<16) (d0:0≤d) (d1:d≤4294967295) (s0:0≤s) (s1:s≤2147483647) (hd:kz d=0∨(855638016≤kz d∧kz d≤1090519040)∨(855638016≤-kz d∧-kz d≤1090519040)) (hs:s≤bnd k) (hb:sV s≤sV (bnd k)) (hf:finI 2 s=true):
  0≤fmaV d d s∧(fmaV d d s=2147483648∨fmaV d d s≤bnd (k+1))∧sV (fmaV d d s)≤sV (bnd (k+1))∧finI 2 (fmaV d d s)=true∧(kz d≠0→645922816≤kz (fmaV d d s))∧(645922816≤s→645922816≤kz (fmaV d d s))∧(kz d=0→s=0→fmaV d d s=0):=by
 obtain ⟨b1,b2,b3,b4,b5⟩:=bnd_up k hk
 obtain ⟨e1,e2,e3⟩:=sq_ends
 have fd:finI 2 d=true:=(fin_kz d d0 d1).2 (by omega)
 have hz:=fma_kz d d s fd fd hf
 have hs0:0≤sV s:=by
  have:=(kz_line 0 s (by decide) (by decide) s0 (by omega) (by decide) hf).1 (by rw [show kz 0=0 by decide];unfold kz;rw [if_neg (by omega)];exact s0)
  rw [sV_nought] at this
  exact this
 obtain ⟨x,x0,x1,hx,hxk⟩:=sq_abs d d0 d1
 have kx:kz x=x:=by unfold kz;rw [if_neg (by omega)]
 have hxr:x=0∨(855638016≤x∧x≤1090519040):=by omega
 have fx:finI 2 x=true:=(fin_kz x x0 (by omega)).2 (by omega)
 have hsx:0≤sV x:=by
  have:=(kz_line 0 x (by decide) (by decide) x0 (by omega) (by decide) fx).1 (by rw [show kz 0=0 by decide,kx];exact x0)
  rw [sV_nought] at this
  exact this
 have hup:sP d d≤sV 1115684864:=by
  rw [hx,←e2]
  exact sq_mono x 1090519040 hsx ((kz_line x 1090519040 x0 (by omega) (by decide) (by decide) fx (by decide)).1 (by rw [kx,show kz 1090519040=1090519040 by decide];omega))
 obtain ⟨f0,f1⟩:=fma_word d d s
 have hU:kz (fmaV d d s)≤bnd (k+1):=by
  rw [hz,←b5,←rk_self (bnd (k+1)) b3 (by omega) b2]
  exact rk_mono (by rw [←b1];omega)
 have hL:0≤kz (fmaV d d s):=by
  rw [hz,←rk_zero]
  exact rk_mono (by have:=sq_pos d;omega)
 have hfin:finI 2 (fmaV d d s)=true:=(fin_kz _ f0 f1).2 (by omega)
 have low:∀ S,sV 645922816≤S→645922816≤rk S:=fun S hS=>by
  have:=rk_mono hS
  rw [rk_self 645922816 (by decide) (by decide) (by decide),e3] at this
  exact this
 refine ⟨f0,?_,?_,hfin,fun h=>?_,fun h=>?_,fun h1 h2=>?_⟩
 ·by_cases c:2147483648≤fmaV d d s
  ·left
   have:kz (fmaV d d s)=2147483648 - fmaV d d s:=by unfold kz;rw [if_pos c]
   omega
  ·right
   have:kz (fmaV d d s)=fmaV d d s:=by unfold kz;rw [if_neg c]
   omega
 ·exact (kz_line _ _ f0 f1 b3 (by omega) hfin b2).1 (by rw [b5];exact hU)
 ·rw [hz]
  refine low _ ?_
  have:sV 645922816≤sP d d:=by
   rw [hx,←e1]
   exact sq_mono 855638016 x (by decide +kernel) ((kz_line 855638016 x (by decide) (by decide) x0 (by omega) (by decide) fx).1 (by rw [kx,show kz 855638016=855638016 by decide];omega))
  omega
 ·rw [hz]
  refine low _ ?_
  have:sV 645922816≤sV s:=(kz_line 645922816 s (by decide) (by decide) s0 (by omega) (by decide) hf).1 (by rw [e3];unfold kz;rw [if_neg (by omega)];exact h)
  have:=sq_pos d
  omega
 ·subst h2
  have:d=0∨d=2147483648:=by unfold kz at h1;split at h1 <;> omega
  rcases this with rfl | rfl
  ·exact fma_noughts.1
  ·exact fma_noughts.2

theorem mil_two (k:Int) (k0:0≤k):0≤milI 2 k∧milI 2 k≤4294967295∧(milI 2 k%2147483648=0∨(1048576000≤milI 2 k%2147483648∧milI 2 k%2147483648≤1082130431)):=by
 have e1:sgb 2=2147483648:=by decide
 have e2:hid 2=8388608:=by decide
 have e3:bia 2=127:=by decide
 obtain ⟨h0,h1⟩:=mil_bd 2 k k0
 refine ⟨h0,h1,?_⟩
 unfold milI milA at*
 rw [e1,e2,e3] at*
 (repeat' split) <;> omega

theorem mse_dif (z t:Int) (z0:0≤z) (z1:z≤4294967295) (t0:0≤t) (t1:t≤4294967295) (hz:z%2147483648=0∨(1048576000≤z%2147483648∧z%2147483648≤1082130431)) (ht:t%2147483648=0∨(1048576000≤t%2147483648∧t%2147483648≤1082130431)):
  (∀ n:Nat,1≤n→n≤16→cmpC 2 z t=cmpC 2 (divV (addV (subV z t) (subV z t)) (frmV n)) 0)∧(cmpC 2 z t=0↔kz (subV z t)=0)∧(kz (subV z t)=0∨(855638016≤kz (subV z t)∧kz (subV z t)≤1090519040)∨(855638016≤-kz (subV z t)∧-kz (subV z t)≤1090519040)):=by
 obtain ⟨T,hT⟩:∃ T:Nat,T=273:=⟨_,rfl⟩
 obtain ⟨m1,e1,a1,a2,-⟩:=mil_whole z z0 z1 hz T hT
 obtain ⟨m2,e2,b1,b2,-⟩:=mil_whole t t0 t1 ht T hT
 have fz:finI 2 z=true:=(fin_kz z z0 z1).2 (by unfold kz;split <;> omega)
 have ft:finI 2 t=true:=(fin_kz t t0 t1).2 (by unfold kz;split <;> omega)
 refine ⟨fun n h0 h1=>mse_way z t n z0 z1 t0 t1 fz ft h0 h1 T hT m1 e1 ⟨a1,a2⟩ m2 e2 ⟨b1,b2⟩,?_⟩
 obtain ⟨hd,hl,hg⟩:=sub_line z t z0 z1 t0 t1 fz ft
 have hU:(0:Int)<((2^T:Nat):Int):=by have:=Nat.two_pow_pos T;omega
 have hS:sV z - sV t=(m1 - m2)*((2^T:Nat):Int):=by rw [e1,e2,Int.sub_mul]
 rw [hS] at hd
 have hlt:kz z<kz t↔m1<m2:=by
  rw [hl,e1,e2]
  exact ⟨fun h=>Int.lt_of_mul_lt_mul_right h (Int.le_of_lt hU),fun h=>Int.mul_lt_mul_of_pos_right h hU⟩
 have hgt:kz t<kz z↔m2<m1:=by
  rw [hg,e1,e2]
  exact ⟨fun h=>Int.lt_of_mul_lt_mul_right h (Int.le_of_lt hU),fun h=>Int.mul_lt_mul_of_pos_right h hU⟩
 rw [cmp_kz z t z0 z1 t0 t1 (fin_kinds z fz).1 (fin_kinds t ft).1]
 rcases Int.lt_trichotomy m1 m2 with c | c | c
 ·obtain ⟨r0,r1⟩:=rk_dif_neg (m1 - m2) T hT (by omega) (by omega)
  rw [←hd] at r0 r1
  rw [if_pos (hlt.2 c)]
  exact ⟨⟨fun h=>absurd h (by decide),fun h=>by omega⟩,.inr (.inr ⟨r0,r1⟩)⟩
 ·subst c
  have hd0:kz (subV z t)=0:=by rw [hd,Int.sub_self,Int.zero_mul,rk_zero]
  rw [if_neg (by rw [hlt];omega),if_neg (by rw [hgt];omega)]
  exact ⟨⟨fun _=>hd0,fun _=>rfl⟩,.inl hd0⟩
 ·obtain ⟨r0,r1⟩:=rk_dif (m1 - m2) T hT (by omega) (by omega)
  rw [←hd] at r0 r1
  rw [if_neg (by rw [hlt];omega),if_pos (hgt.2 c)]
  exact ⟨⟨fun h=>absurd h (by decide),fun h=>by omega⟩,.inr (.inl ⟨r0,r1⟩)⟩

theorem sq_sum (D : Nat → Int) (S : Nat → Int) (n : Nat) (hn : n ≤ 16) (h0 : S 0 = 0) (hS : ∀ i, S (i + 1) = fmaV (D i) (D i) (S i)) (hw : ∀ i, 0 ≤ D i ∧ D i ≤ 4294967295)
    (hd : ∀ i, i < n → kz (D i) = 0 ∨ (855638016 ≤ kz (D i) ∧ kz (D i) ≤ 1090519040) ∨ (855638016 ≤ -kz (D i) ∧ -kz (D i) ≤ 1090519040)) :
    ∀ k, k ≤ n → 0 ≤ S k ∧ S k ≤ 2147483647 ∧ S k ≤ bnd k ∧ sV (S k) ≤ sV (bnd k) ∧ finI 2 (S k) = true ∧ ((∀ i, i < k → kz (D i) = 0) → S k = 0) ∧ ((∃ i, i < k ∧ kz (D i) ≠ 0) → 645922816 ≤ S k) := by
  intro k
  induction k with
  | zero =>
    intro _
    rw [h0]
    exact ⟨by decide, by decide, by decide, by decide, by decide, fun _ => rfl, fun ⟨i, hi, _⟩ => absurd hi (Nat.not_lt_zero i)⟩
  | succ k ih =>
    intro hk
    obtain ⟨s0, s1, s2, s3, s4, s5, s6⟩ := ih (by omega)
    obtain ⟨b1, b2, b3, b4, b5⟩ := bnd_up k (by omega)
    obtain ⟨g1, g2, g3, g4, g5, g6, g7⟩ := sq_step (D k) (S k) k (by omega) (hw k).1 (hw k).2 s0 s1 (hd k (by omega)) s2 s3 s4
    rw [← hS k] at g1 g2 g3 g4 g5 g6 g7
    by_cases c : ∃ i, i < k + 1 ∧ kz (D i) ≠ 0
    · have hbig : 645922816 ≤ kz (S (k + 1)) := by
        obtain ⟨i, hi, hne⟩ := c
        by_cases e : i = k
        · subst e; exact g5 hne
        · exact g6 (s6 ⟨i, by omega, hne⟩)
      have hlow : ¬ 2147483648 ≤ S (k + 1) := by
        intro h
        have : kz (S (k + 1)) = 2147483648 - S (k + 1) := by unfold kz; rw [if_pos h]
        omega
      have hkz : kz (S (k + 1)) = S (k + 1) := by unfold kz; rw [if_neg hlow]
      exact ⟨g1, by omega, by omega, g3, g4, fun h => by obtain ⟨i, hi, hne⟩ := c; exact absurd (h i hi) hne, fun _ => by omega⟩
    · have hall : ∀ i, i < k + 1 → kz (D i) = 0 := fun i hi => Decidable.byContradiction fun h => c ⟨i, hi, h⟩
      have hz := g7 (hall k (by omega)) (s5 fun i hi => hall i (by omega))
      exact ⟨g1, by omega, by omega, g3, g4, fun _ => hz, fun h => absurd h c⟩

theorem div_zero (m:Int) (m0:1065353216≤m) (m1:m≤1098907648):divV 0 m=0:=by
 obtain ⟨d1,-,-,-,-⟩:=mid_parts m (by omega) (by omega) (by omega) (by omega)
 have hE:divE 2 0 0 m=excE (zerI 2 (sgP 2 0 m)) false:=by
  unfold divE nanB nouB infB
  rw [d1]
  rfl
 unfold divV
 rw [hE]
 show zerI 2 (sgP 2 0 m)=0
 have:sgP 2 0 m=false:=by
  unfold sgP
  rw [fS_two 0 (by decide) (by decide),fS_two m (by omega) (by omega),decide_eq_false (show ¬2147483648≤m by omega)]
  rfl
 rw [this]
 rfl

theorem mse_zero (z t:PT) (hF:z.F=2∧t.F=2) (n:Nat) (hn:z.n=n) (n0:1≤n) (n1:n≤16) (hb:msB z t=true) (hR:z.R≠0)
  (hz:∀ i,i<n→∃ k,0≤k∧z.g i=milI 2 k) (ht:∀ i,i<n→∃ k,0≤k∧t.g i=milI 2 k):
  (mseV z t=0↔∀ i,i<n→cmpC 2 (z.g i) (t.g i)=0)∧∀ i,i<n→cmpC 2 (z.g i) (t.g i)=cmpC 2 ((mseT z t).g i) 0:=by
 have wid:∀ x,0≤x→x≤4294967295→finI 2 x=true→conV 2 2 0 x=x:=fun x x0 x1 hx=>
  (con_exact 2 2 0 x x hx x0 (by rw [show msk 2=4294967295 by decide];exact x1) hx rfl rfl).1
 have hD:∀ i,i<n→msD z t i=subV (z.g i) (t.g i)∧(∀ n:Nat,1≤n→n≤16→cmpC 2 (z.g i) (t.g i)=cmpC 2 (divV (addV (subV (z.g i) (t.g i)) (subV (z.g i) (t.g i))) (frmV n)) 0)∧(cmpC 2 (z.g i) (t.g i)=0↔kz (subV (z.g i) (t.g i))=0)∧(kz (subV (z.g i) (t.g i))=0∨(855638016≤kz (subV (z.g i) (t.g i))∧kz (subV (z.g i) (t.g i))≤1090519040)∨(855638016≤-kz (subV (z.g i) (t.g i))∧-kz (subV (z.g i) (t.g i))≤1090519040)):=fun i hi=>by
  obtain ⟨k,k0,ek⟩:=hz i hi
  obtain ⟨l,l0,el⟩:=ht i hi
  obtain ⟨u0,u1,u2⟩:=mil_two k k0
  obtain ⟨v0,v1,v2⟩:=mil_two l l0
  rw [←ek] at u0 u1 u2
  rw [←el] at v0 v1 v2
  refine ⟨?_,mse_dif _ _ u0 u1 v0 v1 u2 v2⟩
  unfold msD widV
  rw [hF.1,hF.2,wid _ u0 u1 ((fin_kz _ u0 u1).2 (by unfold kz;split <;> omega)),wid _ v0 v1 ((fin_kz _ v0 v1).2 (by unfold kz;split <;> omega))]
 obtain ⟨f0,f1⟩:=frm_small n n0 n1
 have hsum:=sq_sum (msD z t) (msS z t) n n1 rfl (fun i=>rfl) (fun i=>sub_word _ _) (fun i hi=>by rw [(hD i hi).1];exact (hD i hi).2.2.2) n (Nat.le_refl _)
 obtain ⟨s0,s1,s2,s3,s4,s5,s6⟩:=hsum
 have hV:mseV z t=divV (msS z t n) (frmV n):=by unfold mseV;rw [if_pos hb,if_neg hR,hn]
 refine ⟨?_,fun i hi=>?_⟩
 ·rw [hV]
  by_cases c:∃ i,i<n∧kz (msD z t i)≠0
  ·have hs:=s6 c
   have hle:msS z t n≤1149239296:=by
    obtain ⟨k,hk⟩:∃ k,n=k+1:=⟨n - 1,by omega⟩
    obtain ⟨-,-,-,b4,-⟩:=bnd_up k (by omega)
    rw [hk] at s2 ⊢
    omega
   obtain ⟨q,q0,q1,hq⟩:=div_sign (msS z t n) (frmV n) s0 (by omega) (by omega) (by omega) f0 f1
   rw [if_neg (by omega)] at hq
   constructor
   ·intro h
    rw [h] at hq
    have:kz 0=0:=by decide
    omega
   ·intro h
    obtain ⟨i,hi,hne⟩:=c
    rw [(hD i hi).1] at hne
    exact absurd ((hD i hi).2.2.1.1 (h i hi)) hne
  ·have hall:∀ i,i<n→kz (msD z t i)=0:=fun i hi=>Decidable.byContradiction fun h=>c ⟨i,hi,h⟩
   rw [s5 hall,div_zero _ f0 f1]
   exact ⟨fun _ i hi=>(hD i hi).2.2.1.2 (by rw [←(hD i hi).1];exact hall i hi),fun _=>rfl⟩
 ·obtain ⟨e,h1,-,-⟩:=hD i hi
  have hT:(mseT z t).g i=divV (addV (msD z t i) (msD z t i)) (frmV n):=by unfold mseT;rw [if_pos hb,hn]
  rw [hT,e]
  exact h1 n n0 n1
end Go.Proofs.YteifobleigfbaaaGreat
