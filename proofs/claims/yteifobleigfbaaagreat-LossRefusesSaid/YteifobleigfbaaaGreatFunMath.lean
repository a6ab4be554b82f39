/- Differences of two near one another (no program here). What the laws of layer 5 lean on: ones, noughts, shapes (no program here). What the laws of layer 6 lean on: by one, by itself, by noughts and infinities (no program here). Numbers in other formats, their places in the line (no program here). Whole numbers, and back, as plain numbers (no program here). A number that is scaled by the least number's place and back is made whole (no program here). Single numbers' operations in NearEven as plain numbers; the fixed programs of functions (no program here). Singles in their line: places, amounts with signs; what is rounded keeps the order (no program here). Which of two Singles is below the other, by places; functions of what is beyond their ends (no program here). A tensor's numbers as Singles; the product of two lists, in order. No program. -/
import Derived.Test.YteifobleigfbaaaGreatNans
import Derived.Test.YteifobleigfbaaaGreatRFmt
import Derived.Test.YteifobleigfbaaaGreatAdd
import Derived.Test.YteifobleigfbaaaGreatMath
import Derived.Test.YteifobleigfbaaaGreatRdRef
import Derived.KernelRfl
import Derived.Test.YteifobleigfbaaaGreatWorld
namespace Go.Proofs.YteifobleigfbaaaGreat
open Go.RowKit
set_option linter.unusedVariables false
set_option linter.unusedSimpArgs false

theorem pack_num (f mode z:Int) (n:Bool) (V:Nat) (h0:0≤z) (h1:z≤msk f) (hf:finI f z=true) (hs:fS f z=n) (ha:amtE (unE f z) (unM f z)=V):PackE f mode n (upN V)=excE z false:=by
 subst ha hs
 rw [up_num]
 exact num_pack f mode z h0 h1 hf

theorem lim_fmt (f:Int):(fn f:Int)+1≤bia f - 2∧bia f+2<topx f∧3<bia f:=by
 rcases fmt_cases f with ⟨rfl,hf⟩ | ⟨rfl,hf⟩ | ⟨⟨c0,c1⟩,hf⟩ <;> obtain ⟨e1,e2,e3,e4,e5,e6,e7,e8,e9⟩:=hf
 all_goals
  rw [e2,e4,e9]
  omega

theorem msk_le (f:Int):msk f≤4294967295:=by unfold msk;(repeat' split) <;> decide

theorem word_bd (f mode:Int) (neg:Bool) (V:Nat):0≤rdV f mode neg V∧rdV f mode neg V≤4294967295:=by
 have h:=rdV_bd f mode neg V
 have:=msk_le f
 omega

theorem nan_bd (f:Int):0≤nanI f∧nanI f≤4294967295:=by
 rcases fmt_cases f with ⟨rfl,hf⟩ | ⟨rfl,hf⟩ | ⟨⟨c0,c1⟩,hf⟩ <;> obtain ⟨e1,e2,e3,e4,e5,e6,e7,e8,e9⟩:=hf
 all_goals
  unfold nanI infI
  rw [show ∀ g,zerI g false=0 from fun _=>rfl,e3,e4,e7]
  decide

def ShapeE (e:Ending):Prop:=∃ (v:Int) (b1 b2 b3 b4 b5:Bool),e=.returned (.tuple #[.int .u32 v,.agg #[.bool b1,.bool b2,.bool b3,.bool b4,.bool b5]])∧0≤v∧v≤4294967295

theorem shape_pack (f mode:Int) (n:Bool) (V:Nat):ShapeE (PackE f mode n V):=⟨_,_,_,_,_,_,rfl,(word_bd f mode n V).1,(word_bd f mode n V).2⟩

theorem shape_exc (v:Int) (i:Bool) (h:0≤v∧v≤4294967295):ShapeE (excE v i):=⟨_,_,_,_,_,_,rfl,h.1,h.2⟩

theorem mul_shape (f mode a b:Int):ShapeE (mulE f mode a b):=by
 unfold mulE
 split
 ·exact shape_exc _ _ (nan_bd f)
 ·split
  ·exact shape_exc _ _ (nan_bd f)
  ·split
   ·exact shape_exc _ _ (inf_parts f _).2.2
   ·exact shape_pack _ _ _ _

theorem fin_shapeE (f mode:Int) (n:Bool) (V:Nat) (m:Bool) (W:Nat):ShapeE (finE f mode n V m W):=by
 unfold finE totE
 split
 ·exact shape_exc _ _ (zer_parts f _).2.2.2
 ·split
  ·exact shape_exc _ _ (zer_parts f _).2.2.2
  ·exact shape_pack _ _ _ _

theorem fma_shape (f mode a b c:Int):ShapeE (fmaE f mode a b c):=by
 unfold fmaE
 split
 ·exact shape_exc _ _ (nan_bd f)
 ·split
  ·split
   ·exact shape_exc _ _ (nan_bd f)
   ·exact shape_exc _ _ (inf_parts f _).2.2
  ·split
   ·exact shape_exc _ _ (inf_parts f _).2.2
   ·exact fin_shapeE _ _ _ _ _ _

/-! One. -/
def oneI (f:Int):Int:=bia f*hid f

theorem one_parts (f:Int):fX f (oneI f)=bia f∧fF f (oneI f)=0∧fS f (oneI f)=false∧0≤oneI f∧oneI f≤msk f∧oneI f≤4294967295∧finI f (oneI f)=true∧nanB f (oneI f)=false∧sigB f (oneI f)=false∧infB f (oneI f)=false∧nouB f (oneI f)=false∧unE f (oneI f)=-(fn f:Int)∧unM f (oneI f)=hid f:=by
 obtain ⟨l1,l2,l3⟩:=lim_fmt f
 have hb:=bia_lst f
 have hh:=hid_pos f
 obtain ⟨p1,p2,p3,p4,p5,p6,p7⟩:=parts_make f false (bia f) 0 (oneI f) (by omega) (by omega) (by omega) hh (by rw [show zerI f false=0 from rfl];unfold oneI;omega)
 obtain ⟨r1,r2,r3,r4,r5⟩:=norm_parts f (oneI f) (bia f) 0 p1 p2 (by omega) (by omega)
 have hc:clsI f (oneI f)=2:=by unfold clsI;rw [p1,if_neg (by omega),if_pos (by omega)]
 exact ⟨p1,p2,p3,p4,p5,p6,p7,r1,by unfold sigB;rw [hc];rfl,r2,r3,by rw [r4];omega,by rw [r5];omega⟩

theorem amt_one (f x:Int):amtP f (oneI f) x=amtE (unE f x) (unM f x):=by
 obtain ⟨p1,p2,p3,p4,p5,p6,p7,r1,r2,r3,r4,r5,r6⟩:=one_parts f
 obtain ⟨m0,m1⟩:=unM_bd f x
 obtain ⟨e0,e1⟩:=unE_bd f x
 have hfn:=fn_bd f
 have hh:=hid_fn f
 obtain ⟨M,hM⟩:=Int.eq_ofNat_of_zero_le m0
 unfold amtP amtE
 rw [r5,r6,hM,hh,←Int.natCast_mul,Int.toNat_natCast,Int.toNat_natCast,Nat.mul_comm (2^fn f),Nat.mul_assoc,←Nat.pow_add]
 rw [show fn f+(-(fn f:Int)+unE f x+298).toNat=(unE f x+298).toNat by omega]

theorem mul_one (f mode x:Int) (h0:0≤x) (h1:x≤msk f):(4≤clsI f x→∃ i,mulE f mode x (oneI f)=excE (nanI f) i)∧(clsI f x=3→mulE f mode x (oneI f)=excE x false)∧(clsI f x≤2→mulE f mode x (oneI f)=excE x false):=by
 obtain ⟨p1,p2,p3,p4,p5,p6,p7,r1,r2,r3,r4,r5,r6⟩:=one_parts f
 have hb:badB f x (oneI f)=false:=by unfold badB;rw [r3,r4];cases nouB f x <;> cases infB f x <;> rfl
 have hs:sgP f x (oneI f)=fS f x:=by unfold sgP;rw [p3];cases fS f x <;> rfl
 have ha:amtP f x (oneI f)=amtE (unE f x) (unM f x):=by rw [←amtP_turn,amt_one]
 have hp:=parts_sum f x h0 h1
 have c:=cls_cases f x
 unfold mulE
 rw [r1,r2,r3,hb,hs,ha]
 simp only [Bool.or_false,Bool.false_eq_true,if_false]
 refine ⟨fun h=>?_,fun h=>?_,fun h=>?_⟩
 ·have hn:nanB f x=true:=by unfold nanB;simp;omega
  rw [if_pos hn];exact ⟨_,rfl⟩
 ·have hn:nanB f x=false:=by unfold nanB;rw [h];rfl
  have hi:infB f x=true:=by unfold infB;rw [h];rfl
  rw [hn,if_neg (by decide),if_pos hi]
  have e:infI f (fS f x)=x:=by unfold infI;rw [show fX f x=topx f by omega,show fF f x=0 by omega,Int.add_zero] at hp;exact hp.symm
  rw [e]
 ·have hn:nanB f x=false:=by unfold nanB;simp;omega
  have hi:infB f x=false:=by unfold infB;simp;omega
  rw [hn,hi,if_neg (by decide),if_neg (by decide)]
  exact pack_num f mode x _ _ h0 h1 (fin_of f x hn hi) rfl rfl

theorem divZ_shape (v:Int) (h:0≤v∧v≤4294967295):ShapeE (divZ v):=⟨_,_,_,_,_,_,rfl,h.1,h.2⟩

theorem div_shape (f mode a b:Int):ShapeE (divE f mode a b):=by
 unfold divE quoE
 split
 ·exact shape_exc _ _ (nan_bd f)
 ·split
  ·exact shape_exc _ _ (nan_bd f)
  ·split
   ·exact shape_exc _ _ (inf_parts f _).2.2
   ·split
    ·exact shape_exc _ _ (zer_parts f _).2.2.2
    ·split
     ·exact divZ_shape _ (inf_parts f _).2.2
     ·exact shape_pack _ _ _ _

def conV (f g mode a:Int):Int:=if nanB f a=true then nanI g else if infB f a=true then infI g (fS f a) else rdV g mode (fS f a) (numN f a)

def conO (f g mode a:Int):Bool:=!nanB f a&&!infB f a&&rdO g mode (fS f a) (numN f a)

def conU (f g a:Int):Bool:=!nanB f a&&!infB f a&&rdU g (numN f a)

def conX (f g mode a:Int):Bool:=!nanB f a&&!infB f a&&rdX g mode (fS f a) (numN f a)

def conE (f g mode a:Int):Ending:=.returned (.tuple #[.int .u32 (conV f g mode a),.agg #[.bool (sigB f a),.bool false,.bool (conO f g mode a),.bool (conU f g a),.bool (conX f g mode a)]])

theorem val_num (f x:Int):valN (clampE (unE f x)) (unM f x) false=numN f x:=by
 obtain ⟨u0,u1⟩:=unE_bd f x
 unfold valN numN clampE
 rw [if_neg (by omega),if_neg (by omega)]
 simp

theorem con_nan (f g mode a:Int) (h:nanB f a=true):conE f g mode a=.returned (.tuple #[.int .u32 (nanI g),.agg #[.bool (sigB f a),.bool false,.bool false,.bool false,.bool false]]):=by
 unfold conE conV conO conU conX;simp [h]

theorem not_sig (f a:Int) (h:nanB f a=false):sigB f a=false:=by
 rcases cls_three f a with ⟨_,b,_⟩ | ⟨_,b,_⟩ | ⟨_,_,_,d⟩
 ·rw [h] at b;exact absurd b (by decide)
 ·rw [h] at b;exact absurd b (by decide)
 ·exact d

theorem con_inf (f g mode a:Int) (h:nanB f a=false) (i:infB f a=true):conE f g mode a=.returned (.tuple #[.int .u32 (infI g (fS f a)),.agg #[.bool false,.bool false,.bool false,.bool false,.bool false]]):=by
 unfold conE conV conO conU conX;simp [h,i,not_sig f a h]

theorem con_fin (f g mode a:Int) (h:nanB f a=false) (i:infB f a=false):conE f g mode a=PackE g mode (fS f a) (valN (clampE (unE f a)) (unM f a) false):=by
 rw [val_num,←packE_is]
 unfold conE conV conO conU conX;simp [h,i,not_sig f a h]

theorem nan_word (f:Int):0≤nanI f∧nanI f≤msk f:=by
 rcases fmt_cases f with ⟨rfl,hf⟩ | ⟨rfl,hf⟩ | ⟨⟨c0,c1⟩,hf⟩ <;> obtain ⟨e1,e2,e3,e4,e5,e6,e7,e8,e9⟩:=hf
 all_goals
  unfold nanI infI zerI
  rw [e3,e4,e7,e8]
  simp only [Bool.false_eq_true,if_false]
  decide

theorem msk_top (f:Int):msk f≤4294967295:=by unfold msk;(repeat' split) <;> decide

theorem con_bd (f g mode a:Int):0≤conV f g mode a∧conV f g mode a≤msk g:=by
 have h1:=nan_word g
 have h2:=sgb_low g (fS f a)
 have h3:=rdV_bd g mode (fS f a) (numN f a)
 unfold conV
 (repeat' split) <;> omega

theorem three_kinds (f a:Int):(nanB f a=true∧infB f a=false∧finI f a=false)∨(nanB f a=false∧infB f a=true∧finI f a=false∧fX f a=topx f∧fF f a=0)∨(nanB f a=false∧infB f a=false∧finI f a=true∧fX f a<topx f):=by
 have c:=cls_cases f a
 have ht:=topx_pos f
 unfold nanB infB finI
 rcases c with ⟨c,x,y⟩ | ⟨c,x,y⟩ | ⟨c,x,y⟩ | ⟨c,x,y⟩ | ⟨c,x,y⟩ | ⟨c,x,y⟩ <;> rw [c]
 ·exact .inr (.inr ⟨rfl,rfl,decide_eq_true (by omega),by omega⟩)
 ·exact .inr (.inr ⟨rfl,rfl,decide_eq_true (by omega),by omega⟩)
 ·exact .inr (.inr ⟨rfl,rfl,decide_eq_true (by omega),by omega⟩)
 ·exact .inr (.inl ⟨rfl,rfl,decide_eq_false (by omega),x,y⟩)
 ·exact .inl ⟨rfl,rfl,decide_eq_false (by omega)⟩
 ·exact .inl ⟨rfl,rfl,decide_eq_false (by omega)⟩

theorem con_exact (f g mode x z:Int) (hx:finI f x=true) (z0:0≤z) (z1:z≤msk g) (hz:finI g z=true) (hs:fS g z=fS f x) (hn:numN g z=numN f x):
  conV f g mode x=z∧conO f g mode x=false∧conU f g x=false∧conX f g mode x=false:=by
 have hp:=num_pack g mode z z0 z1 hz
 rw [←packE_is,hs,hn] at hp
 injection hp with hp
 simp only [Value.tuple.injEq,Value.agg.injEq,Array.mk.injEq,List.cons.injEq,Value.int.injEq,Value.bool.injEq,and_true,true_and] at hp
 obtain ⟨p1,p2,p3,p4⟩:=hp
 rcases three_kinds f x with ⟨a,b,c⟩ | ⟨a,b,c,_⟩ | ⟨a,b,c,_⟩
 ·rw [hx] at c;exact absurd c (by decide)
 ·rw [hx] at c;exact absurd c (by decide)
 ·unfold conV conO conU conX
  simp [a,b,p1,p2,p3,p4]

theorem inf_is (f:Int) (s:Bool):nanB f (infI f s)=false∧infB f (infI f s)=true∧nouB f (infI f s)=false:=by
 obtain ⟨a,b,_⟩:=sgb_low f s
 have ht:=topx_pos f
 have c:clsI f (infI f s)=3:=by unfold clsI;rw [a,b,if_neg (by omega),if_neg (by omega),if_pos rfl]
 unfold nanB infB nouB
 rw [c];exact ⟨rfl,rfl,rfl⟩

def aN (f x:Int):Int:=fX f x*hid f+fF f x

theorem kept_amt (f:Int) (V:Nat):keptN f V*2^(luN f+dN f V)≤V∧(catN f V=0→keptN f V*2^(luN f+dN f V)=V):=by
 have a:=Nat.div_add_mod V (2^(luN f+dN f V))
 have e:keptN f V*2^(luN f+dN f V)=2^(luN f+dN f V)*(V / 2^(luN f+dN f V)):=by unfold keptN;rw [Nat.mul_comm]
 rw [e]
 refine ⟨by omega,fun h=>?_⟩
 have:V%2^(luN f+dN f V)=0:=by
  unfold catN catU at h
  split at h
  ·assumption
  ·split at h
   ·omega
   ·split at h <;> omega
 omega

theorem nou_a (f x:Int):nouB f x=true↔aN f x=0:=by
 have c:=cls_cases f x
 have hX:=fX_bd f x
 have hF:=fF_bd f x
 have hH:=hid_pos f
 have ht:=topx_pos f
 have m0:0≤fX f x*hid f:=Int.mul_nonneg hX.1 (Int.le_of_lt hH)
 have m1:0<fX f x→0<fX f x*hid f:=fun h=>Int.mul_pos h hH
 unfold nouB aN
 rw [beq_iff_eq]
 constructor
 ·intro h
  rw [show fX f x=0 by omega];omega
 ·intro h
  rcases Int.lt_or_eq_of_le hX.1 with e | e
  ·have:=m1 e;omega
  ·omega

def inxE (v:Int) (x:Bool):Ending:=.returned (.tuple #[.int .u32 v,.agg #[.bool false,.bool false,.bool false,.bool false,.bool x]])

def whN (f mode a:Int):Nat:=
 if 0≤unE f a then (unM f a).toNat*2^(unE f a).toNat
 else (unM f a).toNat / 2^(-unE f a).toNat+(growB mode (fS f a) ((unM f a).toNat / 2^(-unE f a).toNat) (catU (-unE f a).toNat (unM f a).toNat)).toNat

def whX (f a:Int):Bool:=decide (unE f a<0)&&catU (-unE f a).toNat (unM f a).toNat != 0

def fromE (f mode v:Int):Ending:=if v<0 then PackE f mode true (valN (clampE 0) (-v) false) else PackE f mode false (valN (clampE 0) v false)

def noInt (f mode a:Int):Bool:=!finI f a || decide (2147483648<whN f mode a) || (decide (whN f mode a=2147483648)&&!fS f a)

def toE (f mode a:Int):Ending:=
 if noInt f mode a=true then .returned (.tuple #[.int .i32 (-2147483648),.agg #[.bool true,.bool false,.bool false,.bool false,.bool false]])
 else .returned (.tuple #[.int .i32 (if fS f a then -(whN f mode a:Int) else (whN f mode a:Int)),.agg #[.bool false,.bool false,.bool false,.bool false,.bool (whX f a)]])

def wholE (f mode a:Int):Ending:=
 if nanB f a=true then .returned (.tuple #[.int .u32 (nanI f),.agg #[.bool (sigB f a),.bool false,.bool false,.bool false,.bool false]])
 else if (!finI f a || decide (0≤unE f a))=true then inxE (bits .and .u32 a (msk f)) false
 else inxE (rdV f mode (fS f a) (valN (clampE 0) (whN f mode a) false)) (whX f a)

def limI (n:Int):Int:=if n < -5000 then -5000 else if 5000<n then 5000 else n

def scaE (f mode a n:Int):Ending:=
 if nanB f a=true then .returned (.tuple #[.int .u32 (nanI f),.agg #[.bool (sigB f a),.bool false,.bool false,.bool false,.bool false]])
 else if finI f a=false then inxE (bits .and .u32 a (msk f)) false
 else PackE f mode (fS f a) (valN (clampE (unE f a+limI n)) (unM f a) false)

theorem lim_bd (n:Int):-5000≤limI n∧limI n≤5000:=by unfold limI;(repeat' split) <;> omega

theorem cat_scale (s E M:Nat):catU (s+E) (M*2^E)=catU s M:=by
 have hE:=p2 E
 unfold catU
 rw [Nat.pow_add,Nat.mul_mod_mul_right]
 have e1:M%2^s*2^E=0↔M%2^s=0:=by
  constructor
  ·intro h;rcases Nat.mul_eq_zero.1 h with g | g <;> omega
  ·intro h;rw [h,Nat.zero_mul]
 have e2:2*(M%2^s*2^E)<2^s*2^E↔2*(M%2^s)<2^s:=by
  rw [←Nat.mul_assoc];exact Nat.mul_lt_mul_right hE
 have e3:2*(M%2^s*2^E)=2^s*2^E↔2*(M%2^s)=2^s:=by
  rw [←Nat.mul_assoc];exact Nat.mul_left_inj (by omega)
 simp only [e1,e2,e3]

theorem dv_whole (M s:Nat) (hM:M<16777216) (s1:1≤s) (s2:s≤200):
  dvK (M:Int) s=((M / 2^s:Nat):Int)∧dvH (M:Int) s=decide (2≤catU s M)∧dvR (M:Int) s=decide (catU s M%2=1):=by
 obtain ⟨a,b,c⟩:=dv_val M 100 (s+99) (s:Int) false (by omega) (by omega) (by omega) (by omega) (fun h=>by
  rw [show (-((s:Int) - 1)).toNat=0 by omega];omega)
 simp only [Bool.toNat_false,Nat.add_zero,show s+99+1=s+100 by omega] at a b c
 rw [cat_scale] at b c
 rw [Nat.pow_add,Nat.mul_div_mul_right _ _ (p2 100)] at a
 rw [Bool.or_false] at c
 exact ⟨a,b,c⟩

def unU (f mode a:Int):Int:=if 39<unE f a∧0<unM f a then 4611686018427387904 else (whN f mode a:Int)

theorem whn_up (f mode a:Int) (h:0≤unE f a):(whN f mode a:Int)=unM f a*2^(unE f a).toNat:=by
 unfold whN
 rw [if_pos h,Int.natCast_mul,←pow2_cast,Int.toNat_of_nonneg (unM_bd f a).1]

theorem whn_small (f mode a:Int) (h:unE f a<0):whN f mode a≤16777216:=by
 obtain ⟨m0,m1⟩:=unM_bd f a
 have hs:2≤2^(-unE f a).toNat:=Nat.pow_le_pow_right (n:=2) (by decide) (show 1≤(-unE f a).toNat by omega)
 unfold whN
 rw [if_neg (by omega)]
 have:=Bool.toNat_le (growB mode (fS f a) ((unM f a).toNat / 2^(-unE f a).toNat) (catU (-unE f a).toNat (unM f a).toNat))
 have:(unM f a).toNat / 2^(-unE f a).toNat≤(unM f a).toNat:=Nat.div_le_self _ _
 omega

theorem unu_is (f mode a:Int):0≤unU f mode a∧unU f mode a≤9223372036854775807∧(2147483648<unU f mode a↔2147483648<whN f mode a)∧(unU f mode a=2147483648↔whN f mode a=2147483648)
  ∧ (unU f mode a≤2147483648→unU f mode a=(whN f mode a:Int)):=by
 obtain ⟨m0,m1⟩:=unM_bd f a
 unfold unU
 by_cases c:39<unE f a∧0<unM f a
 ·rw [if_pos c]
  have h:=whn_up f mode a (by omega)
  have hp:(2:Int)^40≤2^(unE f a).toNat:=pow2_le (by omega)
  have:1*2^(unE f a).toNat≤unM f a*2^(unE f a).toNat:=Int.mul_le_mul_of_nonneg_right (by omega) (Int.le_of_lt (pow2_pos _))
  have e40:(2:Int)^40=1099511627776:=by decide
  refine ⟨by omega,by omega,by omega,by omega,by omega⟩
 ·rw [if_neg c]
  have hb:whN f mode a≤9223372036854775807:=by
   by_cases g:unE f a<0
   ·have:=whn_small f mode a g;omega
   ·have h:=whn_up f mode a (by omega)
    by_cases z:unM f a=0
    ·rw [z,Int.zero_mul] at h;omega
    ·have hp:(2:Int)^(unE f a).toNat≤2^39:=pow2_le (by omega)
     have:unM f a*2^(unE f a).toNat≤16777215*2^39:=Int.mul_le_mul (by omega) hp (Int.le_of_lt (pow2_pos _)) (by omega)
     have e39:(2:Int)^39=549755813888:=by decide
     omega
  refine ⟨by omega,by omega,by omega,by omega,fun _=>rfl⟩

theorem place_num (f:Int) (s:Bool) (d K:Nat) (z:Int) (hK:K<2^(fn f+1)) (hd:d≠0→2^fn f≤K) (hp:d*2^fn f+K≤greN f) (hz:z=zerI f s+((d*2^fn f+K:Nat):Int)):
  0≤z∧z≤msk f∧z≤4294967295∧finI f z=true∧fS f z=s∧numN f z=K*2^(luN f+d):=by
 have hh:=hid_fn f
 have hg:=gre_is f
 have hH:=hid_pos f
 have hl:=lu_is f
 have ht:=topx_pos f
 rw [Nat.pow_succ] at hK
 by_cases c:K<2^fn f
 ·have d0:d=0:=by
   by_cases e:d=0
   ·exact e
   ·have:=hd e;omega
  subst d0
  obtain ⟨p1,p2,p3,p4,p5,p6,p7⟩:=parts_make f s 0 (K:Int) z (by omega) ht (by omega) (by omega) (by rw [hz];simp)
  refine ⟨p4,p5,p6,p7,p3,?_⟩
  rcases three_ways f z with ⟨a,b,_⟩ | ⟨a,b,c',d'⟩ | ⟨a,_⟩
  ·omega
  ·unfold numN;rw [c',d',p2];simp [luN]
  ·omega
 ·have e1:((d*2^fn f+K:Nat):Int)=(d:Int)*hid f+K:=by rw [hh];simp
  have hlt:(d:Int)+1<topx f:=by
   have h1:((d:Int)+1)*hid f<topx f*hid f:=by rw [Int.add_mul];omega
   exact Int.lt_of_mul_lt_mul_right h1 (Int.le_of_lt hH)
  obtain ⟨p1,p2,p3,p4,p5,p6,p7⟩:=parts_make f s ((d:Int)+1) ((K:Int) - hid f) z (by omega) hlt (by omega) (by omega) (by rw [hz,e1,Int.add_mul];omega)
  refine ⟨p4,p5,p6,p7,p3,?_⟩
  rcases three_ways f z with ⟨a,b,_⟩ | ⟨a,b,c',d'⟩ | ⟨a,a2,b,c',d'⟩
  ·omega
  ·omega
  ·unfold numN
   rw [c',d',p1,p2,show ((K:Int) - hid f+hid f).toNat=K by omega,show (lst f+((d:Int)+1) - 1+10100).toNat=luN f+d by omega]

theorem cat_none (f:Int) (q k:Nat) (hq:q<2^(fn f+1)) (hk:luN f≤k) (hk1:1≤k):catN f (q*2^k)=0∧luN f+dN f (q*2^k)≤k:=by
 by_cases z:q=0
 ·subst z;rw [Nat.zero_mul,d_zero];exact ⟨cat_zero f,by omega⟩
 ·have hl:=val_log q k 0 hk1 (by omega) z
  rw [Nat.add_zero] at hl
  have hq2:=(Nat.log2_lt z).2 hq
  have hd:luN f+dN f (q*2^k)≤k:=by unfold dN;rw [hl];omega
  refine ⟨?_,hd⟩
  obtain ⟨j,hj⟩:∃ j,k=luN f+dN f (q*2^k)+j:=⟨k - (luN f+dN f (q*2^k)),by omega⟩
  unfold catN catU
  generalize luN f+dN f (q*2^k)=u at hj ⊢
  rw [hj,Nat.pow_add,Nat.mul_comm (2^u),←Nat.mul_assoc,Nat.mul_mod_left,if_pos rfl]

theorem exact_num (f mode:Int) (s:Bool) (V:Nat) (hc:catN f V=0) (hp:plcN f mode s V≤greN f):
  0≤rdV f mode s V∧rdV f mode s V≤msk f∧rdV f mode s V≤4294967295∧finI f (rdV f mode s V)=true∧fS f (rdV f mode s V)=s∧numN f (rdV f mode s V)=V:=by
 obtain ⟨k1,k2⟩:=kept_bd f V
 have ha:=(kept_amt f V).2 hc
 have hpl:plcN f mode s V=dN f V*2^fn f+keptN f V:=by unfold plcN;rw [hc,grow_zero];simp
 have h:=place_num f s (dN f V) (keptN f V) (rdV f mode s V) k1 k2 (by omega) (by unfold rdV magN;rw [if_pos hp,hpl])
 rw [ha] at h
 exact h

theorem sig_bd (f a:Int):(unM f a).toNat<2^(fn f+1):=by
 have hh:=hid_fn f
 have hF:=fF_bd f a
 have hH:=hid_pos f
 rw [Nat.pow_succ]
 unfold unM
 (repeat' split) <;> omega

theorem exp_bd (f a:Int) (h:finI f a=true):lst f≤unE f a:=by
 rcases three_ways f a with ⟨x,b,_⟩ | ⟨x,b,c',d'⟩ | ⟨x,x2,b,c',d'⟩
 ·rw [h] at b;exact absurd b (by decide)
 ·omega
 ·omega

theorem fin_place (f mode a:Int) (s:Bool) (h:finI f a=true) (V:Nat) (hV:V≤numN f a):plcN f mode s V≤greN f:=by
 obtain ⟨p,c⟩:=num_parts f a h
 rw [plc_cat0 f 0 mode false s _ c] at p
 have hlt:=fin_lt f a h
 have hF:=fF_bd f a
 have hH:=hid_pos f
 have hg:=gre_is f
 have m1:(fX f a+1)*hid f≤topx f*hid f:=Int.mul_le_mul_of_nonneg_right (by omega) (Int.le_of_lt hH)
 rw [Int.add_mul] at m1
 have:=plc_mono f mode s hV
 omega

theorem made_fin (f mode a : Int) (h : finI f a = true) :
    ∃ V : Nat, valN (clampE (unE f a + lst f)) (unM f a) false = V ∧ rdO f mode (fS f a) V = false ∧ (catN f V != 0) = whX f a
      ∧ 0 ≤ rdV f mode (fS f a) V ∧ rdV f mode (fS f a) V ≤ 4294967295 ∧ finI f (rdV f mode (fS f a) V) = true ∧ fS f (rdV f mode (fS f a) V) = fS f a
      ∧ numN f (rdV f mode (fS f a) V) = whN f mode a * 2 ^ luN f := by
  obtain ⟨u0, u1⟩ := unE_bd f a
  have hl := lst_bd f
  have hlu := lu_is f
  have hfn := fn_bd f
  have hM := sig_bd f a
  obtain ⟨V, hV⟩ : ∃ V, V = (unM f a).toNat * 2 ^ (unE f a + lst f + 10100).toNat := ⟨_, rfl⟩
  have hle : V ≤ numN f a := by
    rw [hV]; unfold numN
    exact Nat.mul_le_mul_left _ (Nat.pow_le_pow_right (by decide) (by omega))
  have hp := fin_place f mode a (fS f a) h V hle
  have hO : rdO f mode (fS f a) V = false := by unfold rdO; exact decide_eq_false (by omega)
  refine ⟨V, ?_, hO, ?_⟩
  · unfold valN
    rw [show clampE (unE f a + lst f) = unE f a + lst f by unfold clampE; rw [if_neg (by omega), if_neg (by omega)], hV, Bool.toNat_false, Nat.add_zero]
  by_cases c : 0 ≤ unE f a
  · have e1 : (unE f a + lst f + 10100).toNat = (unE f a).toNat + luN f := by omega
    rw [e1] at hV
    obtain ⟨c1, c2⟩ := cat_none f (unM f a).toNat ((unE f a).toNat + luN f) hM (by omega) (by omega)
    rw [← hV] at c1 c2
    obtain ⟨x1, x2, x3, x4, x5, x6⟩ := exact_num f mode (fS f a) V c1 hp
    refine ⟨?_, x1, x3, x4, x5, ?_⟩
    · rw [c1]; unfold whX; rw [decide_eq_false (by omega)]; rfl
    · rw [x6, hV]; unfold whN; rw [if_pos c, Nat.pow_add, Nat.mul_assoc]
  · obtain ⟨k, hk⟩ : ∃ k : Nat, k = (-unE f a).toNat := ⟨_, rfl⟩
    obtain ⟨E, hE⟩ : ∃ E : Nat, E = (unE f a + lst f + 10100).toNat := ⟨_, rfl⟩
    have hkE : luN f = k + E := by omega
    rw [← hE] at hV
    have hlow : V < 2 ^ (fn f + luN f) := by
      have h1 : V < 2 ^ (fn f + 1) * 2 ^ E := by rw [hV]; exact Nat.mul_lt_mul_of_pos_right hM (p2 _)
      rw [← Nat.pow_add] at h1
      exact Nat.lt_of_lt_of_le h1 (Nat.pow_le_pow_right (by decide) (by omega))
    obtain ⟨d0, d1⟩ := low_plc f mode (fS f a) V hlow
    have hkept : keptN f V = (unM f a).toNat / 2 ^ k := by
      unfold keptN; rw [d0, Nat.add_zero, hkE, hV, Nat.pow_add, Nat.mul_div_mul_right _ _ (p2 E)]
    have hcat : catN f V = catU k (unM f a).toNat := by
      unfold catN; rw [d0, Nat.add_zero, hkE, hV, cat_scale]
    have hw : plcN f mode (fS f a) V = whN f mode a := by
      unfold plcN whN
      rw [d0, hkept, hcat, if_neg c, ← hk]; simp
    have hgr := Bool.toNat_le (growB mode (fS f a) (keptN f V) (catN f V))
    have hpl : plcN f mode (fS f a) V = keptN f V + (growB mode (fS f a) (keptN f V) (catN f V)).toNat := by unfold plcN; rw [d0]; simp
    have hp1 := p2 (fn f)
    obtain ⟨x1, x2, x3, x4, x5, x6⟩ := place_num f (fS f a) 0 (whN f mode a) (rdV f mode (fS f a) V) (by rw [Nat.pow_succ]; omega) (by simp) (by rw [Nat.zero_mul, Nat.zero_add]; omega)
      (by unfold rdV magN; rw [if_pos hp, hw, Nat.zero_mul, Nat.zero_add])
    refine ⟨?_, x1, x3, x4, x5, by rw [x6, Nat.add_zero]⟩
    rw [hcat]; unfold whX; rw [decide_eq_true (by omega), Bool.true_and, ← hk]

theorem made_back (f z:Int) (W T:Nat) (hT:T=10100) (hz:finI f z=true) (hn:numN f z=W*2^luN f):
  valN (clampE (unE f z+limI (-lst f))) (unM f z) false=W*2^T:=by
 obtain ⟨u0,u1⟩:=unE_bd f z
 have hl:=lst_bd f
 have hlu:=lu_is f
 have he:=exp_bd f z hz
 have hlim:limI (-lst f)=-lst f:=by unfold limI;rw [if_neg (by omega),if_neg (by omega)]
 unfold numN at hn
 rw [show (unE f z+10100).toNat=(unE f z - lst f).toNat+luN f by omega,Nat.pow_add,←Nat.mul_assoc] at hn
 have hX:=Nat.eq_of_mul_eq_mul_right (p2 (luN f)) hn
 unfold valN
 rw [hlim,show clampE (unE f z+-lst f)=unE f z+-lst f by unfold clampE;rw [if_neg (by omega),if_neg (by omega)],Bool.toNat_false,Nat.add_zero,
  show (unE f z+-lst f+10100).toNat=(unE f z - lst f).toNat+T by omega,Nat.pow_add,←Nat.mul_assoc,hX]

theorem whole_val (W T:Nat) (hT:T=10100):valN (clampE 0) (W:Int) false=W*2^T:=by
 unfold valN
 rw [show clampE 0=0 by rfl,Bool.toNat_false,Nat.add_zero,Int.toNat_natCast,show ((0:Int)+10100).toNat=T by omega]

theorem num_masked (f a:Int) (h0:0≤a) (h1:a≤4294967295):numN f (bits .and .u32 a (msk f))=numN f a∧finI f (bits .and .u32 a (msk f))=finI f a:=by
 obtain ⟨x,y,z,_⟩:=and_parts f a h0 h1
 unfold numN unM unE finI
 rw [x,y];exact ⟨rfl,rfl⟩

theorem whole_fin (f mode a:Int) (a0:0≤a) (a1:a≤4294967295) (h:finI f a=true) (T:Nat) (hT:T=10100):
  ∃ v:Int,wholE f mode a=inxE v (whX f a)∧rdV f mode (fS f a) (valN (clampE 0) (whN f mode a) false)=v∧0≤v∧v≤4294967295∧finI f v=true∧fS f v=fS f a∧numN f v=whN f mode a*2^T:=by
 have hn:nanB f a=false:=by
  rcases three_kinds f a with ⟨x,y,z⟩ | ⟨x,y,z,_⟩ | ⟨x,y,z,_⟩
  ·rw [h] at z;exact absurd z (by decide)
  ·exact x
  ·exact x
 have hl:=lst_bd f
 have hlu:=lu_is f
 have hfn:=fn_bd f
 by_cases c:0≤unE f a
 ·obtain ⟨m1,m2⟩:=num_masked f a a0 a1
  obtain ⟨x,y,z,w0,w1⟩:=and_parts f a a0 a1
  have hX:whX f a=false:=by unfold whX;rw [decide_eq_false (by omega)];rfl
  have hV:valN (clampE 0) (whN f mode a:Int) false=numN f a:=by
   rw [whole_val _ T hT];unfold whN numN
   rw [if_pos c,Nat.mul_assoc,←Nat.pow_add,show (unE f a).toNat+T=(unE f a+10100).toNat by omega]
  have hp:=num_pack f mode (bits .and .u32 a (msk f)) (mask_word f a a0 a1).1 (mask_word f a a0 a1).2 (by rw [m2,h])
  rw [z,m1] at hp
  unfold PackE at hp
  simp only [Ending.returned.injEq,Value.tuple.injEq,Array.mk.injEq,List.cons.injEq,Value.int.injEq,true_and] at hp
  refine ⟨bits .and .u32 a (msk f),?_,?_,w0,w1,by rw [m2,h],z,?_⟩
  ·unfold wholE;rw [if_neg (by rw [hn];decide),if_pos (by simp [c]),hX]
  ·rw [hV];exact hp.1
  ·rw [m1,←hV,whole_val _ T hT]
 ·have hs:=whn_small f mode a (by omega)
  have hW:whN f mode a<2^(fn f+1):=by
   unfold whN;rw [if_neg c]
   have hM:=sig_bd f a
   have hgr:=Bool.toNat_le (growB mode (fS f a) ((unM f a).toNat / 2^(-unE f a).toNat) (catU (-unE f a).toNat (unM f a).toNat))
   have h2:2^1≤2^(-unE f a).toNat:=Nat.pow_le_pow_right (by decide) (by omega)
   have h3:(unM f a).toNat / 2^(-unE f a).toNat≤(unM f a).toNat / 2:=Nat.div_le_div_left (by omega) (by decide)
   have h4:2^1≤2^(fn f):=Nat.pow_le_pow_right (by decide) (by omega)
   rw [Nat.pow_succ] at hM ⊢
   omega
  obtain ⟨c1,c2⟩:=cat_none f (whN f mode a) T hW (by omega) (by omega)
  have hp:plcN f mode (fS f a) (whN f mode a*2^T)≤greN f:=by
   obtain ⟨k1,k2⟩:=kept_bd f (whN f mode a*2^T)
   have hpl:plcN f mode (fS f a) (whN f mode a*2^T)=dN f (whN f mode a*2^T)*2^fn f+keptN f (whN f mode a*2^T):=by unfold plcN;rw [c1,grow_zero];simp
   have hd:dN f (whN f mode a*2^T)≤(-lst f).toNat:=by omega
   have hm:dN f (whN f mode a*2^T)*2^fn f≤(-lst f).toNat*2^fn f:=Nat.mul_le_mul_right _ hd
   have hg:(-lst f).toNat*2^fn f+2^(fn f+1)≤greN f+1:=by
    unfold greN
    rcases fmt_cases f with ⟨rfl,hf⟩ | ⟨rfl,hf⟩ | ⟨⟨q0,q1⟩,hf⟩ <;> obtain ⟨e1,e2,e3,e4,e5,e6,e7,e8,e9⟩:=hf <;> rw [e2,e3,e4,e6] <;> decide
   rw [hpl]
   generalize dN f (whN f mode a*2^T)*2^fn f=D at hm ⊢
   generalize keptN f (whN f mode a*2^T)=K at k1 ⊢
   omega
  obtain ⟨x1,x2,x3,x4,x5,x6⟩:=exact_num f mode (fS f a) (whN f mode a*2^T) c1 hp
  refine ⟨rdV f mode (fS f a) (whN f mode a*2^T),?_,by rw [whole_val _ T hT],x1,x3,x4,x5,x6⟩
  unfold wholE
  rw [if_neg (by rw [hn];decide),if_neg (by rw [h];simp;omega),whole_val _ T hT]

theorem sh_whole (f v:Int) (W T:Nat) (hT:T=10100) (hn:numN f v=W*2^T):
  (shO (unM f v) (-unE f v)=true∧18446744073709551616≤W)∨(shO (unM f v) (-unE f v)=false∧shV (unM f v) (-unE f v)=W):=by
 obtain ⟨u0,u1⟩:=unE_bd f v
 obtain ⟨m0,m1⟩:=unM_bd f v
 unfold numN at hn
 obtain ⟨X,hX⟩:=Int.eq_ofNat_of_zero_le m0
 rw [hX,Int.toNat_natCast] at hn
 rw [hX]
 unfold shO shV
 by_cases c:0<unE f v
 ·rw [if_pos (by omega),if_pos (by omega),show (- -unE f v).toNat=(unE f v).toNat by omega,pow2_cast,←Int.natCast_mul]
  rw [show (unE f v+10100).toNat=(unE f v).toNat+T by omega,Nat.pow_add,←Nat.mul_assoc] at hn
  have hw:=Nat.eq_of_mul_eq_mul_right (p2 T) hn
  rw [hw]
  by_cases g:18446744073709551616≤W
  ·exact .inl ⟨decide_eq_true (by omega),g⟩
  ·exact .inr ⟨decide_eq_false (by omega),by omega⟩
 ·rw [if_neg (by omega),if_neg (by omega),pow2_cast,←Int.natCast_ediv,←Int.natCast_emod]
  obtain ⟨k,hk⟩:∃ k:Nat,k=(-unE f v).toNat:=⟨_,rfl⟩
  obtain ⟨E,hE⟩:∃ E:Nat,E=(unE f v+10100).toNat:=⟨_,rfl⟩
  rw [←hE,show T=k+E by omega,Nat.pow_add,←Nat.mul_assoc] at hn
  have hw:=Nat.eq_of_mul_eq_mul_right (p2 E) hn
  rw [←hk,hw,Nat.mul_mod_left,Nat.mul_div_cancel _ (p2 k)]
  exact .inr ⟨decide_eq_false (by simp),rfl⟩

theorem nan_twice (f:Int):nanB f (nanI f)=true∧sigB f (nanI f)=false:=by
 have h:=nan_nan f
 refine ⟨h,?_⟩
 have c:=cls_cases f (nanI f)
 unfold nanB at h
 unfold sigB
 unfold nanI infI zerI at*
 rcases fmt_cases f with ⟨rfl,hf⟩ | ⟨rfl,hf⟩ | ⟨⟨q0,q1⟩,hf⟩
 ·decide
 ·decide
 ·obtain ⟨e1,e2,e3,e4,e5,e6,e7,e8,e9⟩:=hf
  unfold clsI fX fF;rw [e3,e4,e7];simp only [Bool.false_eq_true,if_false];decide

theorem round_ways (f mode a : Int) (a0 : 0 ≤ a) (a1 : a ≤ 4294967295) :
    ∃ v1 g1 g2 g3 g4 g5 v2 h1 h2 h3 h4 h5, scaE f mode a (lst f) = .returned (.tuple #[.int .u32 v1, .agg #[.bool g1, .bool g2, .bool g3, .bool g4, .bool g5]]) ∧ 0 ≤ v1 ∧ v1 ≤ 4294967295
      ∧ scaE f mode v1 (-lst f) = .returned (.tuple #[.int .u32 v2, .agg #[.bool h1, .bool h2, .bool h3, .bool h4, .bool h5]])
      ∧ wholE f mode a = .returned (.tuple #[.int .u32 v2, .agg #[.bool g1, .bool false, .bool false, .bool false, .bool g5]]) := by
  have hl := lst_bd f
  have hlim : limI (lst f) = lst f := by unfold limI; rw [if_neg (by omega), if_neg (by omega)]
  rcases three_kinds f a with ⟨x, y, z⟩ | ⟨x, y, z, _⟩ | ⟨x, y, z, _⟩
  · obtain ⟨n1, n2⟩ := nan_twice f
    have hw := nan_word f
    have ht := msk_top f
    refine ⟨nanI f, sigB f a, false, false, false, false, nanI f, false, false, false, false, false, ?_, hw.1, by omega, ?_, ?_⟩
    · unfold scaE; rw [if_pos x]
    · unfold scaE; rw [if_pos n1, n2]
    · unfold wholE; rw [if_pos x]
  · have hm := mask_inf f a a0 a1 y
    obtain ⟨i1, i2, _⟩ := inf_is f (fS f a)
    obtain ⟨w0, w1⟩ := mask_word f a a0 a1
    have ht := msk_top f
    rw [hm] at w0 w1
    have hm2 : bits .and .u32 (infI f (fS f a)) (msk f) = infI f (fS f a) := by
      have hS : fS f (infI f (fS f a)) = fS f a := by rw [← hm]; exact (and_parts f a a0 a1).2.2.1
      rw [mask_inf f _ (by omega) (by omega) i2, hS]
    have hf : finI f (infI f (fS f a)) = false := by
      rcases three_kinds f (infI f (fS f a)) with ⟨x', y', z'⟩ | ⟨x', y', z', _⟩ | ⟨x', y', z', _⟩
      · exact z'
      · exact z'
      · rw [i2] at y'; exact absurd y' (by decide)
    refine ⟨infI f (fS f a), false, false, false, false, false, infI f (fS f a), false, false, false, false, false, ?_, by omega, by omega, ?_, ?_⟩
    · unfold scaE inxE; rw [if_neg (by rw [x]; decide), if_pos z, hm]
    · unfold scaE inxE; rw [if_neg (by rw [i1]; decide), if_pos hf, hm2]
    · unfold wholE inxE; rw [if_neg (by rw [x]; decide), if_pos (by simp [z]), hm]
  · obtain ⟨V, m1, m2, m3, m4, m5, m6, m7, m8⟩ := made_fin f mode a z
    obtain ⟨T, hT⟩ : ∃ T : Nat, T = 10100 := ⟨_, rfl⟩
    obtain ⟨v, q1, q2, q3, q4, q5, q6, q7⟩ := whole_fin f mode a a0 a1 z T hT
    have hb := made_back f (rdV f mode (fS f a) V) (whN f mode a) T hT m6 m8
    have hn1 : nanB f (rdV f mode (fS f a) V) = false := by
      rcases three_kinds f (rdV f mode (fS f a) V) with ⟨x', y', z'⟩ | ⟨x', y', z', _⟩ | ⟨x', y', z', _⟩
      · rw [m6] at z'; exact absurd z' (by decide)
      · exact x'
      · exact x'
    rw [whole_val _ T hT] at q2
    refine ⟨rdV f mode (fS f a) V, false, false, false, rdU f V, whX f a, v, false, false, rdO f mode (fS f a) (whN f mode a * 2 ^ T), rdU f (whN f mode a * 2 ^ T), rdX f mode (fS f a) (whN f mode a * 2 ^ T), ?_, m4, m5, ?_, ?_⟩
    · unfold scaE
      rw [if_neg (by rw [x]; decide), if_neg (by rw [z]; decide), hlim, m1]
      unfold PackE rdX; rw [m2, m3, Bool.false_or]
    · unfold scaE
      rw [if_neg (by rw [hn1]; decide), if_neg (by rw [m6]; decide), m7, hb]
      unfold PackE; rw [q2]
    · rw [q1]; rfl

theorem to_ways (f mode a : Int) (a0 : 0 ≤ a) (a1 : a ≤ 4294967295) :
    ∃ v g1 g5, wholE f mode a = .returned (.tuple #[.int .u32 v, .agg #[.bool g1, .bool false, .bool false, .bool false, .bool g5]]) ∧ 0 ≤ v ∧ v ≤ 4294967295 ∧ finI f v = finI f a
      ∧ (finI f a = true → g1 = false ∧ g5 = whX f a ∧ fS f v = fS f a ∧ ((shO (unM f v) (-unE f v) = true ∧ 18446744073709551616 ≤ whN f mode a) ∨ (shO (unM f v) (-unE f v) = false ∧ shV (unM f v) (-unE f v) = whN f mode a))) := by
  rcases three_kinds f a with ⟨x, y, z⟩ | ⟨x, y, z, _⟩ | ⟨x, y, z, _⟩
  · have hw := nan_word f
    have ht := msk_top f
    have hf : finI f (nanI f) = false := by
      have hn := nan_nan f
      rcases three_kinds f (nanI f) with ⟨x', y', z'⟩ | ⟨x', y', z', _⟩ | ⟨x', y', z', _⟩
      · exact z'
      · exact z'
      · rw [hn] at x'; exact absurd x' (by decide)
    exact ⟨nanI f, sigB f a, false, by unfold wholE; rw [if_pos x], hw.1, by omega, by rw [hf, z], fun h => absurd (z.symm.trans h) (by decide)⟩
  · obtain ⟨m1, m2⟩ := num_masked f a a0 a1
    obtain ⟨_, _, _, w0, w1⟩ := and_parts f a a0 a1
    exact ⟨bits .and .u32 a (msk f), false, false, by unfold wholE inxE; rw [if_neg (by rw [x]; decide), if_pos (by simp [z])], w0, w1, m2, fun h => absurd (z.symm.trans h) (by decide)⟩
  · obtain ⟨T, hT⟩ : ∃ T : Nat, T = 10100 := ⟨_, rfl⟩
    obtain ⟨v, q1, q2, q3, q4, q5, q6, q7⟩ := whole_fin f mode a a0 a1 z T hT
    exact ⟨v, false, whX f a, q1, q3, q4, by rw [q5, z], fun _ => ⟨rfl, rfl, q6, sh_whole f v _ T hT q7⟩⟩

def valI (e : Ending) : Int := match e with
  | .returned (.tuple r) => (match r[0]? with
    | some (Value.int _ v) => v
    | _ => 0)
  | _ => 0

theorem op_val {e:Ending} (h:ShapeE e) {V:Int} (hV:valI e=V):∃ b1 b2 b3 b4 b5,e=.returned (.tuple #[.int .u32 V,.agg #[.bool b1,.bool b2,.bool b3,.bool b4,.bool b5]])∧0≤V∧V≤4294967295:=by
 obtain ⟨v,b1,b2,b3,b4,b5,he,h0,h1⟩:=h
 subst he
 have:v=V:=hV
 subst this
 exact ⟨b1,b2,b3,b4,b5,rfl,h0,h1⟩

theorem from_shapeE (f mode v:Int):ShapeE (fromE f mode v):=by
 unfold fromE;split <;> exact shape_pack _ _ _ _

theorem sca_shapeE (f mode a n:Int) (a0:0≤a) (a1:a≤4294967295):ShapeE (scaE f mode a n):=by
 have hm:=mask_word f a a0 a1
 have ht:=msk_le f
 unfold scaE inxE
 split
 ·exact ⟨_,_,_,_,_,_,rfl,(nan_bd f).1,(nan_bd f).2⟩
 ·split
  ·exact ⟨_,_,_,_,_,_,rfl,by omega,by omega⟩
  ·exact shape_pack _ _ _ _

theorem add_shapeE (f mode a b:Int):ShapeE (addE f mode a b):=by
 unfold addE
 split
 ·exact shape_exc _ _ (nan_bd f)
 ·split
  ·exact shape_exc _ _ (nan_bd f)
  ·split
   ·exact shape_exc _ _ (inf_parts f _).2.2
   ·split
    ·exact shape_exc _ _ (inf_parts f _).2.2
    ·exact fin_shapeE _ _ _ _ _ _

theorem sub_shapeE (f mode a b:Int):ShapeE (subE f mode a b):=add_shapeE f mode a (xorI f b)

theorem to_val (f mode a:Int) {V:Int} (hV:valI (toE f mode a)=V):∃ b1 b2 b3 b4 b5,toE f mode a=.returned (.tuple #[.int .i32 V,.agg #[.bool b1,.bool b2,.bool b3,.bool b4,.bool b5]])∧-2147483648≤V∧V≤2147483647:=by
 unfold toE at hV ⊢
 by_cases c:noInt f mode a=true
 ·rw [if_pos c] at hV ⊢
  have:(-2147483648:Int)=V:=hV
  subst this
  exact ⟨_,_,_,_,_,rfl,by omega,by omega⟩
 ·rw [if_neg c] at hV ⊢
  have:(if fS f a then -(whN f mode a:Int) else (whN f mode a:Int))=V:=hV
  subst this
  refine ⟨_,_,_,_,_,rfl,?_⟩
  unfold noInt at c
  simp only [Bool.or_eq_true,Bool.and_eq_true,Bool.not_eq_true',decide_eq_true_eq,not_or,not_and] at c
  obtain ⟨⟨c1,c2⟩,c3⟩:=c
  cases hs:fS f a
  ·simp only [Bool.false_eq_true,if_false]
   have:whN f mode a≠2147483648:=fun h=>by have:=c3 h;rw [hs] at this;exact this rfl
   omega
  ·simp only [if_true];omega

def fmaV (a b c:Int):Int:=valI (fmaE 2 0 a b c)

def addV (a b:Int):Int:=valI (addE 2 0 a b)

def subV (a b:Int):Int:=valI (subE 2 0 a b)

def mulV (a b:Int):Int:=valI (mulE 2 0 a b)

def divV (a b:Int):Int:=valI (divE 2 0 a b)

def frmV (n:Int):Int:=valI (fromE 2 0 n)

def toV (a:Int):Int:=valI (toE 2 0 a)

def scaV (a n:Int):Int:=valI (scaE 2 0 a n)

def negV (a:Int):Int:=minI 2 a

def alongV (p r:Int) (L:List Int):Int:=L.foldl (fun p c=>fmaV p r c) p

/-! The programs. -/
def expN (x:Int):Int:=toV (mulV x 1069066811)

def expR (x:Int):Int:=fmaV (negV (frmV (expN x))) 901758606 (fmaV (negV (frmV (expN x))) 1060205056 x)

def expP (x:Int):Int:=alongV 985008993 (expR x) [1007192201,1026206379,1042983595,1056964608,1065353216,1065353216]

def expI (x:Int):Int:=if nanB 2 x then 2143289344 else if lesB 2 1118925336 x then 2139095040 else if lesB 2 x 3268407733 then 0 else scaV (expP x) (expN x)

def logE (x:Int):Int:=unE 2 x+(lenI (unM 2 x) - 1)

def logM (x:Int):Int:=1065353216+unM 2 x*2^(24 - lenI (unM 2 x)).toNat%8388608

def logV (x:Int):Int:=if lesB 2 1068827891 (logM x) then mulV (logM x) 1056964608 else logM x

def logK (x:Int):Int:=if lesB 2 1068827891 (logM x) then logE x+1 else logE x

def logS (t:Int):Int:=divV t (addV 1073741824 t)

def logQ (z:Int):Int:=alongV 1046711865 z [1049774373,1053609165,1059760811]

def logY (s:Int):Int:=fmaV s (mulV (logQ (mulV s s)) (mulV s s)) (addV s s)

def logT (k y:Int):Int:=fmaV k 1060205056 (fmaV k 901758606 y)

def logI (x:Int):Int:=
 if nanB 2 x then 2143289344 else if nouB 2 x then 4286578688 else if fS 2 x then 2143289344 else if infB 2 x then 2139095040
 else logT (frmV (logK x)) (logY (logS (subV (logV x) 1065353216)))

def kz (x:Int):Int:=if 2147483648≤x then 2147483648 - x else x

def sg (n:Bool) (V:Nat):Int:=if n then -(V:Int) else (V:Int)

def sV (x:Int):Int:=sg (fS 2 x) (amtE (unE 2 x) (unM 2 x))

def sP (a b:Int):Int:=sg (sgP 2 a b) (amtP 2 a b)

def rkN (V:Nat):Nat:=magN 2 0 false (upN V)

def rk (S:Int):Int:=if S<0 then -(rkN S.natAbs:Int) else (rkN S.natAbs:Int)

theorem up_mono {V W:Nat} (h:V≤W):upN V≤upN W:=by unfold upN;exact Nat.mul_le_mul_right _ h

theorem rkN_mono {V W:Nat} (h:V≤W):rkN V≤rkN W:=mag_mono 2 0 false (up_mono h)

theorem rkN_zero:rkN 0=0:=by
 have h:upN 0=0:=(up_zero 0).2 rfl
 unfold rkN magN;rw [h,plc_zero,if_pos (by omega)]

theorem rk_pos (A:Nat):rk (A:Int)=rkN A:=by unfold rk;rw [if_neg (by omega),Int.natAbs_natCast]

theorem rk_neg (A:Nat):rk (-(A:Int))=-(rkN A:Int):=by
 unfold rk
 by_cases z:A=0
 ·subst z;simp [rkN_zero]
 ·rw [if_pos (by omega),Int.natAbs_neg,Int.natAbs_natCast]

theorem rk_zero:rk 0=0:=by have:=rk_pos 0;rw [rkN_zero] at this;exact this

theorem rk_mono {S T:Int} (h:S≤T):rk S≤rk T:=by
 by_cases s:S<0
 ·by_cases t:T<0
  ·have:=rkN_mono (show T.natAbs≤S.natAbs by omega)
   unfold rk;rw [if_pos s,if_pos t];omega
  ·unfold rk;rw [if_pos s,if_neg t];omega
 ·have:=rkN_mono (show S.natAbs≤T.natAbs by omega)
  unfold rk;rw [if_neg s,if_neg (by omega)];omega

theorem rk_sg (n:Bool) (A:Nat):rk (sg n A)=if n then -(rkN A:Int) else (rkN A:Int):=by
 unfold sg;cases n
 ·simp only [Bool.false_eq_true,if_false];exact rk_pos A
 ·simp only [if_true];exact rk_neg A

theorem mag_sign (s:Bool) (V:Nat):magN 2 0 s V=magN 2 0 false V:=by cases s <;> rfl

theorem gre_two:greN 2=2139095039:=by decide

theorem mag_top (V:Nat):magN 2 0 false V≤2139095040:=by have:=mag_le 2 0 false V;rw [gre_two] at this;exact this

theorem kz_mag (s:Bool) (M:Int) (h0:0≤M) (h1:M<2147483648):kz (zerI 2 s+M)=if s then -M else M:=by
 have e:zerI 2 s=if s then 2147483648 else 0:=by cases s <;> rfl
 rw [e];unfold kz
 cases s
 ·simp only [Bool.false_eq_true,if_false];rw [if_neg (by omega)];omega
 ·simp only [if_true];rw [if_pos (by omega)];omega

theorem pack_kz (n:Bool) (A:Nat):kz (valI (PackE 2 0 n (upN A)))=rk (sg n A):=by
 have h:=mag_top (upN A)
 show kz (rdV 2 0 n (upN A))=_
 unfold rdV
 rw [mag_sign,kz_mag n _ (by omega) (by omega),rk_sg];rfl

theorem a_two (x:Int):aN 2 x=x%2147483648:=(low_parts 2 x).symm

theorem fS_two (x:Int) (h0:0≤x) (h1:x≤4294967295):fS 2 x=decide (2147483648≤x):=by
 show (x / 2147483648%2==1)=_
 rw [Bool.eq_iff_iff,beq_iff_eq,decide_eq_true_eq];omega

theorem kz_parts (x:Int) (h0:0≤x) (h1:x≤4294967295):kz x=if fS 2 x then -(x%2147483648) else x%2147483648:=by
 rw [fS_two x h0 h1];unfold kz
 by_cases c:2147483648≤x
 ·rw [if_pos c,decide_eq_true c,if_pos rfl];omega
 ·rw [if_neg c,decide_eq_false c];simp;omega

theorem fin_kz (x:Int) (h0:0≤x) (h1:x≤4294967295):finI 2 x=true↔-2139095040<kz x∧kz x<2139095040:=by
 have e:finI 2 x=decide (x / 8388608%256<255):=rfl
 rw [e,decide_eq_true_eq];unfold kz;split <;> omega

theorem nan_kz (x:Int) (h0:0≤x) (h1:x≤4294967295):nanB 2 x=false↔-2139095040≤kz x∧kz x≤2139095040:=by
 have e1:fX 2 x=x / 8388608%256:=rfl
 have e2:fF 2 x=x%8388608:=rfl
 have e3:topx 2=255:=rfl
 rcases three_kinds 2 x with ⟨a,b,c⟩ | ⟨a,b,c,d,e⟩ | ⟨a,b,c,d⟩
 ·rw [a]
  have hf:¬(finI 2 x=true):=by rw [c];decide
  rw [fin_kz x h0 h1] at hf
  have hi:¬(fX 2 x=255∧fF 2 x=0):=fun h=>by
   have:clsI 2 x=3:=by unfold clsI;rw [h.1,h.2];decide
   unfold infB at b;rw [this] at b;exact absurd b (by decide)
  rw [e1,e2] at hi
  constructor
  ·intro h;exact absurd h (by decide)
  ·intro h;exfalso;apply hi;unfold kz at h hf;split at h <;> omega
 ·rw [a]
  refine ⟨fun _=>?_,fun _=>rfl⟩
  rw [e1,e3] at d;rw [e2] at e
  unfold kz;split <;> omega
 ·rw [a]
  refine ⟨fun _=>?_,fun _=>rfl⟩
  have:=(fin_kz x h0 h1).1 c
  omega

theorem rkN_self (x:Int) (h0:0≤x) (h1:x≤4294967295) (h:finI 2 x=true):(rkN (amtE (unE 2 x) (unM 2 x)):Int)=x%2147483648:=by
 obtain ⟨p,c⟩:=num_parts 2 x h
 have hl:=low_parts 2 x
 have e:sgb 2=2147483648:=rfl
 rw [e] at hl
 rw [←hl] at p
 have hf:=(fin_kz x h0 h1).1 h
 have hk:x%2147483648<2139095040:=by unfold kz at hf;split at hf <;> omega
 unfold rkN magN
 rw [up_num,if_pos (by rw [gre_two];omega)]
 exact p

theorem rk_self (x:Int) (h0:0≤x) (h1:x≤4294967295) (h:finI 2 x=true):rk (sV x)=kz x:=by
 unfold sV
 rw [rk_sg,kz_parts x h0 h1,rkN_self x h0 h1 h]

theorem sV_kz (x y:Int) (x0:0≤x) (x1:x≤4294967295) (y0:0≤y) (y1:y≤4294967295) (h:kz x=kz y):sV x=sV y:=by
 have e:x=y∨(x=0∧y=2147483648)∨(x=2147483648∧y=0):=by unfold kz at h;split at h <;> split at h <;> omega
 have z1:sV 0=0:=by decide
 have z2:sV 2147483648=0:=by decide
 rcases e with rfl | ⟨rfl,rfl⟩ | ⟨rfl,rfl⟩
 ·rfl
 ·rw [z1,z2]
 ·rw [z1,z2]

theorem kz_line (x y:Int) (x0:0≤x) (x1:x≤4294967295) (y0:0≤y) (y1:y≤4294967295) (hx:finI 2 x=true) (hy:finI 2 y=true):kz x≤kz y↔sV x≤sV y:=by
 have ex:=rk_self x x0 x1 hx
 have ey:=rk_self y y0 y1 hy
 constructor
 ·intro h
  rcases Int.lt_or_le (sV y) (sV x) with c | c
  ·have:=rk_mono (Int.le_of_lt c)
   rw [ex,ey] at this
   rw [sV_kz x y x0 x1 y0 y1 (by omega)]
   exact Int.le_refl _
  ·exact c
 ·intro h
  have:=rk_mono h
  rw [ex,ey] at this;exact this

theorem tot_sum (n:Bool) (V:Nat) (m:Bool) (W:Nat):sg (sgT n V m W) (amT n V m W)=sg n V+sg m W:=by
 unfold sg sgT amT
 cases n <;> cases m <;> simp
 ·(repeat' split) <;> omega
 ·(repeat' split) <;> omega
 ·omega

theorem fin_kzv (n:Bool) (V:Nat) (m:Bool) (W:Nat):kz (valI (finE 2 0 n V m W))=rk (sg n V+sg m W):=by
 have hz:∀ s,kz (valI (excE (zerI 2 s) false))=0:=fun s=>by
  show kz (zerI 2 s)=0
  cases s <;> rfl
 have ht:=tot_sum n V m W
 unfold finE
 by_cases c:V=0∧W=0∧n=m
 ·obtain ⟨rfl,rfl,rfl⟩:=c
  rw [if_pos ⟨rfl,rfl,rfl⟩,hz]
  have:sg n 0+sg n 0=0:=by cases n <;> rfl
  rw [this,rk_zero]
 ·rw [if_neg c]
  unfold totE
  by_cases d:amT n V m W=0
  ·rw [if_pos d,hz,←ht,d]
   have:sg (sgT n V m W) 0=0:=by cases sgT n V m W <;> rfl
   rw [this,rk_zero]
  ·rw [if_neg d,pack_kz,ht]

theorem fin_kinds (x:Int) (h:finI 2 x=true):nanB 2 x=false∧infB 2 x=false:=by
 rcases three_kinds 2 x with ⟨a,b,c⟩ | ⟨a,b,c,_⟩ | ⟨a,b,c,_⟩
 ·rw [h] at c;exact absurd c (by decide)
 ·rw [h] at c;exact absurd c (by decide)
 ·exact ⟨a,b⟩

theorem bad_fin (a b:Int) (ha:infB 2 a=false) (hb:infB 2 b=false):badB 2 a b=false:=by unfold badB;rw [ha,hb];simp

theorem fma_kz (a b c:Int) (ha:finI 2 a=true) (hb:finI 2 b=true) (hc:finI 2 c=true):kz (fmaV a b c)=rk (sP a b+sV c):=by
 obtain ⟨a1,a2⟩:=fin_kinds a ha
 obtain ⟨b1,b2⟩:=fin_kinds b hb
 obtain ⟨c1,c2⟩:=fin_kinds c hc
 unfold fmaV fmaE
 rw [a1,b1,c1,bad_fin a b a2 b2,a2,b2,c2,if_neg (by decide),if_neg (by decide),if_neg (by decide),fin_kzv];rfl

theorem mul_kz (a b:Int) (ha:finI 2 a=true) (hb:finI 2 b=true):kz (mulV a b)=rk (sP a b):=by
 obtain ⟨a1,a2⟩:=fin_kinds a ha
 obtain ⟨b1,b2⟩:=fin_kinds b hb
 unfold mulV mulE
 rw [a1,b1,bad_fin a b a2 b2,a2,b2,if_neg (by decide),if_neg (by decide),if_neg (by decide),pack_kz];rfl

theorem add_kz (a b:Int) (ha:finI 2 a=true) (hb:finI 2 b=true):kz (addV a b)=rk (sV a+sV b):=by
 obtain ⟨a1,a2⟩:=fin_kinds a ha
 obtain ⟨b1,b2⟩:=fin_kinds b hb
 unfold addV addE
 rw [a1,b1,a2,b2,if_neg (by decide),if_neg (by simp),if_neg (by decide),if_neg (by decide),fin_kzv];rfl

theorem xor_sV (b:Int) (b0:0≤b) (b1:b≤4294967295):sV (xorI 2 b)=-sV b∧finI 2 (xorI 2 b)=finI 2 b:=by
 obtain ⟨x1,x2,x3,x4,x5⟩:=xor_parts 2 b b0 b1
 unfold sV finI unE unM
 rw [x1,x2,x3]
 refine ⟨?_,rfl⟩
 unfold sg;cases fS 2 b <;> simp

theorem sub_kz (a b:Int) (b0:0≤b) (b1:b≤4294967295) (ha:finI 2 a=true) (hb:finI 2 b=true):kz (subV a b)=rk (sV a - sV b):=by
 obtain ⟨x,y⟩:=xor_sV b b0 b1
 have h:=add_kz a (xorI 2 b) ha (by rw [y,hb])
 rw [x] at h
 exact h

theorem sP_mul (a b:Int) (T:Nat) (hT:T=298):sP a b*((2^T:Nat):Int)=sV a*sV b:=by
 obtain ⟨a0,a1⟩:=unE_bd 2 a
 obtain ⟨b0,b1⟩:=unE_bd 2 b
 obtain ⟨m1,m2,m3⟩:=mul_bd 2 a b
 have k:amtP 2 a b*2^T=amtE (unE 2 a) (unM 2 a)*amtE (unE 2 b) (unM 2 b):=by
  unfold amtP amtE
  rw [m3,Nat.mul_assoc,←Nat.pow_add,show (unE 2 a+unE 2 b+298).toNat+T=(unE 2 a+298).toNat+(unE 2 b+298).toNat by omega,Nat.pow_add]
  generalize (2:Nat)^(unE 2 a+298).toNat=A
  generalize (2:Nat)^(unE 2 b+298).toNat=B
  generalize (unM 2 a).toNat=M
  generalize (unM 2 b).toNat=K
  grind
 unfold sP sV sgP
 have hs:∀ (s t:Bool) (X Y:Nat),sg s X*sg t Y=sg (s != t) (X*Y):=by
  intro s t X Y;unfold sg;cases s <;> cases t <;> simp [Int.neg_mul,Int.mul_neg]
 rw [hs,←k]
 generalize amtP 2 a b=P
 generalize (2:Nat)^T=B
 unfold sg
 cases (fS 2 a != fS 2 b) <;> simp [Int.neg_mul]

theorem nan_fin (x:Int) (x0:0≤x) (x1:x≤4294967295) (y:Int) (y0:0≤y) (y1:y≤4294967295) (hx:nanB 2 x=false) (hy:nanB 2 y=false) (hz:¬kz y=0):lesB 2 x y=decide (kz x<kz y):=by
 have e:∀ v:Int,0≤v→v≤4294967295→keyI 2 v=if 2147483648≤v then 2147483647 - v else v:=fun v v0 v1=>by
  have hl:=low_parts 2 v
  rw [show sgb 2=2147483648 by rfl] at hl
  rw [key_parts,←hl,fS_two v v0 v1]
  by_cases c:2147483648≤v
  ·rw [decide_eq_true c,if_pos rfl,if_pos c];omega
  ·rw [decide_eq_false c,if_neg (by decide),if_neg c];omega
 have hn:¬(nouB 2 x=true∧nouB 2 y=true):=fun h=>by
  have:=key_nou 2 y h.2
  rw [e y y0 y1] at this
  unfold kz at hz
  split at this <;> split at hz <;> omega
 have h:=les_is 2 x y
 rw [hx,hy,e x x0 x1,e y y0 y1] at h
 rw [Bool.eq_iff_iff,h,decide_eq_true_eq]
 unfold kz at hz ⊢
 by_cases cx:2147483648≤x
 ·by_cases cy:2147483648≤y
  ·simp only [if_pos cx,if_pos cy] at hz ⊢
   exact ⟨fun g=>by have:=g.2.2.2;omega,fun g=>⟨by trivial,by trivial,hn,by omega⟩⟩
  ·simp only [if_pos cx,if_neg cy] at hz ⊢
   exact ⟨fun g=>by have:=g.2.2.2;omega,fun g=>⟨by trivial,by trivial,hn,by omega⟩⟩
 ·by_cases cy:2147483648≤y
  ·simp only [if_neg cx,if_pos cy] at hz ⊢
   exact ⟨fun g=>by have:=g.2.2.2;omega,fun g=>⟨by trivial,by trivial,hn,by omega⟩⟩
  ·simp only [if_neg cx,if_neg cy] at hz ⊢
   exact ⟨fun g=>by have:=g.2.2.2;omega,fun g=>⟨by trivial,by trivial,hn,by omega⟩⟩

theorem nan_fin' (x:Int) (x0:0≤x) (x1:x≤4294967295) (y:Int) (y0:0≤y) (y1:y≤4294967295) (hx:nanB 2 x=false) (hy:nanB 2 y=false) (hz:¬kz x=0):lesB 2 x y=decide (kz x<kz y):=by
 by_cases c:kz y=0
 ·have e:∀ v:Int,0≤v→v≤4294967295→keyI 2 v=if 2147483648≤v then 2147483647 - v else v:=fun v v0 v1=>by
   have hl:=low_parts 2 v
   rw [show sgb 2=2147483648 by rfl] at hl
   rw [key_parts,←hl,fS_two v v0 v1]
   by_cases c:2147483648≤v
   ·rw [decide_eq_true c,if_pos rfl,if_pos c];omega
   ·rw [decide_eq_false c,if_neg (by decide),if_neg c];omega
  have hn:¬(nouB 2 x=true∧nouB 2 y=true):=fun h=>by
   have:=key_nou 2 x h.1
   rw [e x x0 x1] at this
   unfold kz at hz
   by_cases cx:2147483648≤x
   ·simp only [if_pos cx] at hz this;omega
   ·simp only [if_neg cx] at hz this;omega
  have h:=les_is 2 x y
  rw [hx,hy,e x x0 x1,e y y0 y1] at h
  rw [Bool.eq_iff_iff,h,decide_eq_true_eq]
  unfold kz at hz c ⊢
  by_cases cx:2147483648≤x
  ·by_cases cy:2147483648≤y
   ·simp only [if_pos cx,if_pos cy] at hz c ⊢
    exact ⟨fun g=>by have:=g.2.2.2;omega,fun g=>⟨by trivial,by trivial,hn,by omega⟩⟩
   ·simp only [if_pos cx,if_neg cy] at hz c ⊢
    exact ⟨fun g=>by have:=g.2.2.2;omega,fun g=>⟨by trivial,by trivial,hn,by omega⟩⟩
  ·by_cases cy:2147483648≤y
   ·simp only [if_neg cx,if_pos cy] at hz c ⊢
    exact ⟨fun g=>by have:=g.2.2.2;omega,fun g=>⟨by trivial,by trivial,hn,by omega⟩⟩
   ·simp only [if_neg cx,if_neg cy] at hz c ⊢
    exact ⟨fun g=>by have:=g.2.2.2;omega,fun g=>⟨by trivial,by trivial,hn,by omega⟩⟩
 ·exact nan_fin x x0 x1 y y0 y1 hx hy c

def widV (F:Int) (g:Nat→Int) (i:Nat):Int:=conV F 2 0 (g i)

theorem wid_bd (F:Int) (g:Nat→Int) (i:Nat):0≤widV F g i∧widV F g i≤4294967295:=con_bd F 2 0 (g i)

theorem addV_bd (a b:Int):0≤addV a b∧addV a b≤4294967295:=by
 obtain ⟨_,_,_,_,_,_,h0,h1⟩:=op_val (add_shapeE 2 0 a b) rfl
 exact ⟨h0,h1⟩
end Go.Proofs.YteifobleigfbaaaGreat
