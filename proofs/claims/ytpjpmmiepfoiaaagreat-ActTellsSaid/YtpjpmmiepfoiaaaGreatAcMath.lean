/- What activations and masks come to, as plain numbers: what the laws of package act ask. No program. -/
import Derived.Test.YtpjpmmiepfoiaaaGreatActM
import Derived.KernelRfl
namespace Go.Proofs.YtpjpmmiepfoiaaaGreat
open Go Go.RowKit
set_option linter.unusedVariables false
set_option linter.unusedSimpArgs false

theorem relus_three (x:Int) (x0:0≤x) (x1:x≤4294967295):
  (4≤clsI 2 x∧valA 1 x=2143289344∧sloA 1 x=0)∨(clsI 2 x<4∧(2147483648≤x∨clsI 2 x=0)∧valA 1 x=0∧sloA 1 x=0)
   ∨ (clsI 2 x<4∧clsI 2 x≠0∧x<2147483648∧valA 1 x=x∧sloA 1 x=1065353216∧lesB 2 0 x=true):=by
 have n0:nanB 2 0=false:=by decide
 have z0:nouB 2 0=true:=by decide
 have k0:keyI 2 0=0:=by decide
 have hs:sgb 2=2147483648:=by decide
 have hl:=les_is 2 0 x
 have kc:=cls_cases 2 x
 have v:valA 1 x=if nanB 2 x then 2143289344 else if lesB 2 0 x then x else 0:=rfl
 have s:sloA 1 x=if lesB 2 0 x then 1065353216 else 0:=rfl
 have hk:keyI 2 x=if 2147483648≤x then -1 - x%2147483648 else x%2147483648:=by
  unfold keyI fS
  rw [hs]
  by_cases c:2147483648≤x
  ·rw [if_pos c,if_pos (by simp only [beq_iff_eq];omega)]
  ·rw [if_neg c,if_neg (by simp only [beq_iff_eq];omega)]
 by_cases c4:4≤clsI 2 x
 ·have hn:nanB 2 x=true:=by
   unfold nanB
   rcases (show clsI 2 x=4∨clsI 2 x=5 by omega) with h | h <;> rw [h] <;> rfl
  have hL:lesB 2 0 x=false:=by
   cases e:lesB 2 0 x
   ·rfl
   ·have:=(hl.1 e).2.1;rw [hn] at this;cases this
  refine .inl ⟨c4,?_,?_⟩
  ·rw [v,hn];rfl
  ·rw [s,hL];rfl
 ·have hn:nanB 2 x=false:=by
   unfold nanB
   rw [Bool.or_eq_false_iff]
   simp only [beq_eq_false_iff_ne,ne_eq]
   omega
  by_cases c:2147483648≤x∨clsI 2 x=0
  ·have hL:lesB 2 0 x=false:=by
    cases e:lesB 2 0 x
    ·rfl
    ·obtain ⟨_,_,h3,h4⟩:=hl.1 e
     exfalso
     rcases c with c | c
     ·rw [k0,hk,if_pos c] at h4;omega
     ·exact h3 ⟨z0,by unfold nouB;rw [c];rfl⟩
   refine .inr (.inl ⟨by omega,c,?_,?_⟩)
   ·rw [v,hn,hL];rfl
   ·rw [s,hL];rfl
  ·have hx:x≠0:=fun e=>c (.inr (by rw [e];decide))
   have hL:lesB 2 0 x=true:=hl.2 ⟨n0,hn,fun h=>by
    have:=h.2
    unfold nouB at this
    rw [beq_iff_eq] at this
    omega,by rw [k0,hk,if_neg (by omega)];omega⟩
   refine .inr (.inr ⟨by omega,by omega,by omega,?_,?_,hL⟩)
   ·rw [v,hn,hL];rfl
   ·rw [s,hL];rfl

theorem key_magA (f mode:Int) (V:Nat):keyI f (rdV f mode false V)=magN f mode false V:=by
 have h:=mag_le f mode false V
 have g:=gre_sgb f
 have e:rdV f mode false V=magN f mode false V:=by unfold rdV zerI;simp
 have hs:fS f (magN f mode false V)=false:=by
  unfold fS
  rw [Int.ediv_eq_zero_of_lt (by omega) (by omega)];rfl
 rw [e]
 unfold keyI
 rw [hs]
 simp only [Bool.false_eq_true,if_false]
 exact Int.emod_eq_of_lt (by omega) (by omega)

theorem frm_mag (v:Int) (v0:0≤v):frmV v=(magN 2 0 false (valN (clampE 0) v false):Int):=by
 unfold frmV fromE
 rw [if_neg (by omega)]
 show rdV 2 0 false _=_
 unfold rdV zerI
 simp

theorem frm_mono (v u:Int) (v0:0≤v) (h:v≤u):frmV v≤frmV u:=by
 rw [frm_mag v v0,frm_mag u (by omega)]
 have:=mag_mono 2 0 false (val_mono (clampE 0) v u false false v0 (by rcases Int.lt_or_eq_of_le h with h | h;exact .inl h;exact .inr ⟨h,fun x=>x⟩) (by decide))
 omega

theorem frm_ends:frmV 2147483648=1325400064∧frmV 4294967296=1333788672:=by
 refine ⟨?_,?_⟩ <;> kernel_rfl

theorem kep_parts (b:Int) (h0:1325400064≤b) (h1:b≤1333788672):clsI 2 b=2∧fS 2 b=false∧((unE 2 b=8∧8388608≤unM 2 b∧unM 2 b≤16777215)∨(unE 2 b=9∧unM 2 b=8388608)):=by
 have e1:sgb 2=2147483648:=by decide
 have e2:topx 2=255:=by decide
 have e3:hid 2=8388608:=by decide
 have e4:lst 2=-149:=by decide
 have e5:fX 2 b=b / 8388608%256:=by
  unfold fX;first | rfl | (rw [e3,e2];rfl) | (rw [e3,e2])
 have e6:fF 2 b=b%8388608:=by
  unfold fF;first | rfl | (rw [e3])
 refine ⟨?_,?_,?_⟩
 ·unfold clsI
  rw [e5,e2,if_neg (by omega),if_pos (by omega)]
 ·unfold fS
  rw [e1,Int.ediv_eq_zero_of_lt (by omega) (by omega)];rfl
 ·unfold unE unM
  rw [e5,e6,e2,e3,e4,if_neg (by omega),if_neg (by omega),if_neg (by omega),if_neg (by omega)]
  omega

theorem quo_least (N:Nat) (hN:0<N) (h:N≤16777216):633825300114114700748351602688≤quoN 8388608 N 100:=by
 unfold quoN
 rw [Nat.le_div_iff_mul_le hN]
 have h2:=Nat.mul_le_mul_left 633825300114114700748351602688 h
 exact Nat.le_trans h2 (by decide)

theorem quo_less (N:Nat) (hN:N=8388608):2*633825300114114700748351602688≤quoN 8388608 N 100:=by
 subst hN
 decide

theorem mag_unit:∀ T:Nat,T=10100→magN 2 0 false (2^T)=1065353216:=by
 intro T hT;subst hT;kernel_rfl

theorem quo_core (e:Int) (N k T:Nat) (h:2^k≤quoN 8388608 N 100) (hE:k+(e - 100+10100).toNat=T):2^T≤quoN 8388608 N 100*2^(e - 100+10100).toNat+(quoB 8388608 N 100).toNat:=by
 generalize (e - 100+10100).toNat=E at hE ⊢
 subst hE
 rw [Nat.pow_add]
 exact Nat.le_trans (Nat.mul_le_mul_right _ h) (Nat.le_add_right _ _)

theorem kep_least (D:Int) (h0:0≤D) (h1:D≤2147483648):∃ X:Nat,kepV D=rdV 2 0 false X∧∀ T:Nat,T=10100→2^T≤X:=by
 have b0:=frm_mono 2147483648 (4294967296 - D) (by decide) (by omega)
 have b1:=frm_mono (4294967296 - D) 4294967296 (by omega) (by omega)
 obtain ⟨f0,f1⟩:=frm_ends
 rw [f0] at b0
 rw [f1] at b1
 unfold kepV
 rw [f1]
 generalize frmV (4294967296 - D)=b at b0 b1
 obtain ⟨c1,c2,c3⟩:=kep_parts b b0 b1
 obtain ⟨a1,a2,a3⟩:=kep_parts 1333788672 (by decide) (by decide)
 have d1:unE 2 1333788672=9:=by decide
 have d2:unM 2 1333788672=8388608:=by decide
 have hE:divE 2 0 1333788672 b=quoE 2 0 (sgP 2 1333788672 b) (unE 2 1333788672 - unE 2 b) (unM 2 1333788672).toNat (unM 2 b).toNat:=by
  unfold divE nanB nouB infB
  rw [c1,a1]
  rfl
 have hs:sgP 2 1333788672 b=false:=by
  unfold sgP
  rw [a2,c2];rfl
 unfold divV
 rw [hE,hs,d2]
 refine ⟨_,rfl,fun T hT=>?_⟩
 rcases c3 with ⟨e1,e2,e3⟩ | ⟨e1,e2⟩
 ·refine quo_core _ _ 99 T (Nat.le_trans (by decide) (quo_least _ (by omega) (by omega))) ?_
  rw [d1,e1]
  omega
 ·refine quo_core _ _ 100 T ?_ ?_
  ·rw [e2]
   exact Nat.le_trans (by decide) (quo_less _ rfl)
  ·rw [d1,e1]
   omega

theorem kep_one (D:Int) (h0:0≤D) (h1:D≤2147483648):1065353216≤kepV D∧lesB 2 (kepV D) 1065353216=false:=by
 obtain ⟨X,hX,hT⟩:=kep_least D h0 h1
 obtain ⟨T,hT2⟩:∃ T:Nat,T=10100:=⟨_,rfl⟩
 have h:=mag_mono 2 0 false (hT T hT2)
 rw [mag_unit T hT2] at h
 have hk:=key_magA 2 0 X
 have e:rdV 2 0 false X=magN 2 0 false X:=by unfold rdV zerI;simp
 have ko:keyI 2 1065353216=1065353216:=by decide
 rw [hX]
 clear hX hT hT2
 refine ⟨by rw [e];omega,?_⟩
 cases c:lesB 2 (rdV 2 0 false X) 1065353216
 ·rfl
 ·have:=((les_is 2 _ _).1 c).2.2.2
  rw [hk,ko] at this
  omega

theorem kep_none:kepV 0=1065353216:=by kernel_rfl

theorem new_le (x y:Nat) (hx:x≤64) (hy:y≤64):newR x y=x∧newC x y=y:=by
 have h1:clampI (x:Int)=x:=by unfold clampI;rw [if_neg (by omega),if_neg (by omega)]
 have h2:clampI (y:Int)=y:=by unfold clampI;rw [if_neg (by omega),if_neg (by omega)]
 have h3:=Nat.mul_le_mul hx hy
 have h4:newB x y=false:=by
  unfold newB
  rw [h1,h2,←Int.natCast_mul]
  exact decide_eq_false (by omega)
 unfold newR newC
 rw [h4,h1,h2]
 exact ⟨rfl,rfl⟩

theorem mas_le (x y:Nat) (hx:x≤64) (hy:y≤64) (drop seed stream:Int):masT x y drop seed stream=⟨x,y,2,x*y,masV drop seed stream⟩:=by
 obtain ⟨h1,h2⟩:=new_le x y hx hy
 unfold masT
 rw [h1,h2]
 rfl
end Go.Proofs.YtpjpmmiepfoiaaaGreat
