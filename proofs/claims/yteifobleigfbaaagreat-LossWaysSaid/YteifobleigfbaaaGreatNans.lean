/- The contract of the reference's keys. Contracts of the reference's questions of a number: is it none, is it infinite, nought. The contract of the reference's question of three numbers: is one none. Which of two bits is greater, as plain numbers (no program here). Laws of the line of numbers (no program here). Sums of two numbers: what they come to (no program here). Sums with noughts; mild numbers' parts (no program here). Products, products and sums: what they come to (no program here). Sums of two raised numbers; the ways of package prod's Mul and Fma (no program here). Quotients and roots, cut at any place that is far enough: they are rounded alike (no program here). What quotients of any bits are (no program here). -/
import Derived.Test.YteifobleigfbaaaGreatRFmt
import Derived.Test.YteifobleigfbaaaGreatWorld
import Derived.Test.YteifobleigfbaaaGreatRows
import Derived.Lib.Hide
import Derived.Handy
import Derived.Test.YteifobleigfbaaaGreatMath
import Derived.Test.YteifobleigfbaaaGreatWide
namespace Go.Proofs.YteifobleigfbaaaGreat
open Go.RowKit
set_option linter.unusedVariables false
set_option linter.unusedSimpArgs false

def keyI (f a:Int):Int:=if fS f a then -1 - a%sgb f else a%sgb f

theorem no_sign (f v:Int) (h0:0≤v) (h1:v≤4294967295):bits .andNot .u32 (bits .and .u32 v (msk f)) (zerI f true)=v%sgb f:=by
 have key:∀ X:Nat,X<65536→X&&&(4294967295 - 32768)=X%32768:=by
  intro X hX
  have e:X&&&(4294967295 - 32768)=(X&&&(4294967295 - 32768))%2^16:=(Nat.mod_eq_of_lt (Nat.lt_of_le_of_lt Nat.and_le_left hX)).symm
  rw [e,Nat.and_mod_two_pow,Nat.mod_eq_of_lt (a:=X) (by omega),show (4294967295 - 32768)%2^16=2^15 - 1 from by decide,Nat.and_two_pow_sub_one_eq_mod]
 have key2:∀ X:Nat,X&&&(4294967295 - 2147483648)=X%2147483648:=by
  intro X
  rw [show 4294967295 - 2147483648=2^31 - 1 from by decide,Nat.and_two_pow_sub_one_eq_mod]
 have hz:zerI f true=sgb f:=rfl
 rw [hz]
 rcases fmt_cases f with ⟨rfl,hf⟩ | ⟨rfl,hf⟩ | ⟨⟨c0,c1⟩,hf⟩ <;> obtain ⟨e1,e2,e3,e4,e5,e6,e7,e8,e9⟩:=hf <;> rw [e8,e5]
 ·rw [and32 v 16 (p:=65536) h0 h1 (by decide) (by decide) (by decide),u32_andNot _ _ (by omega) (by omega) (by decide) (by decide)]
  have:=key (v%65536).toNat (by omega)
  rw [show (32768:Int).toNat=32768 from rfl,this];omega
 ·rw [and32 v 16 (p:=65536) h0 h1 (by decide) (by decide) (by decide),u32_andNot _ _ (by omega) (by omega) (by decide) (by decide)]
  have:=key (v%65536).toNat (by omega)
  rw [show (32768:Int).toNat=32768 from rfl,this];omega
 ·rw [and32 v 32 (p:=4294967296) h0 h1 (by decide) (by decide) (by decide),u32_andNot _ _ (by omega) (by omega) (by decide) (by decide)]
  have:=key2 (v%4294967296).toNat
  rw [show (2147483648:Int).toNat=2147483648 from rfl,this];omega

set_option maxHeartbeats 1000000 in
theorem rneg_any (f:Int) (v:Int) (w:World) (h0:0≤v) (h1:v≤4294967295):
  Calls Tryz.prog 89 #[.int .i64 f,.int .u32 v] w fun e w'=>e=.returned (.bool (fS f v))∧∃ m,w'=w.drewN m:=by
 go_enter Tryz.func89,Tryz.ntmps89
 go_wp2_with (go_at_call 94;refine (rparts_any _ _ _ h0 h1).mono ?_;rintro e w' ⟨rfl,m,rfl⟩)
 go_ret
 exact ⟨rfl,_,rfl⟩

set_option maxHeartbeats 1000000 in
theorem rkey_any (f:Int) (v:Int) (w:World) (h0:0≤v) (h1:v≤4294967295):
  Calls Tryz.prog 60 #[.int .i64 f,.int .u32 v] w fun e w'=>e=.returned (.int .i64 (keyI f v))∧∃ m,w'=w.drewN m:=by
 have hn:=no_sign f v h0 h1
 have hs:0<sgb f∧sgb f≤2147483648:=by unfold sgb;(repeat' split) <;> decide
 have hb0:0≤v%sgb f:=Int.emod_nonneg _ (by omega)
 have hb1:v%sgb f<sgb f:=Int.emod_lt_of_pos _ hs.1
 obtain ⟨hs0,hs1⟩:=hs
 go_enter Tryz.func60,Tryz.ntmps60
 go_wp2_with (first
   | (go_at_call 61;refine (rmask_any _ _).mono ?_;rintro e w' ⟨rfl,rfl⟩)
   | (go_at_call 87;refine (rsign_any _ _ _).mono ?_;rintro e w' ⟨rfl,rfl⟩)
   | (go_at_call 89;refine (rneg_any _ _ _ h0 h1).mono ?_;rintro e w' ⟨rfl,m,rfl⟩))
 all_goals
  go_ret
  exact ⟨ret_int (by unfold keyI;simp_all),_,rfl⟩

def nanB (f a:Int):Bool:=clsI f a==4 || clsI f a==5

def sigB (f a:Int):Bool:=clsI f a==5

def infB (f a:Int):Bool:=clsI f a==3

def nouB (f a:Int):Bool:=clsI f a==0

theorem cls_three (f a:Int):(clsI f a=4∧nanB f a=true∧sigB f a=false)∨(clsI f a=5∧nanB f a=true∧sigB f a=true)∨((clsI f a==4)=false∧(clsI f a==5)=false∧nanB f a=false∧sigB f a=false):=by
 unfold nanB sigB
 by_cases h:clsI f a=4
 ·exact .inl ⟨h,by simp [h],by simp [h]⟩
 ·by_cases g:clsI f a=5
  ·exact .inr (.inl ⟨g,by simp [g],by simp [g]⟩)
  ·exact .inr (.inr ⟨by simpa using h,by simpa using g,by simp [h,g],by simp [g]⟩)

theorem ret_bb {p q r s:Bool} (h:p=q) (g:r=s):Ending.returned (.tuple #[.bool p,.bool r])=.returned (.tuple #[.bool q,.bool s]):=by rw [h,g]

set_option maxHeartbeats 1000000 in
theorem nans1_any (f a:Int) (b:Nat) (w:World) (h0:0≤a) (h1:a≤4294967295) (hc:w.cell? ⟨b,0,none⟩=some (.int .u32 a)):
  Calls Tryz.prog 58 #[.int .i64 f,.slice (some ⟨b,0,none⟩) 1 1] w fun e w'=>e=.returned (.tuple #[.bool (nanB f a),.bool (sigB f a)])∧∃ m,w'=w.drewN m:=by
 obtain ⟨C,hC⟩:∃ C,clsI f a=C:=⟨_,rfl⟩
 have HC:=Lib.hid hC
 have HW:=cls_three f a
 rw [hC] at HW
 clear hC
 rcases HW with ⟨rfl,n1,n2⟩ | ⟨rfl,n1,n2⟩ | ⟨c4,c5,n1,n2⟩
 all_goals
  have N1:=Lib.hid n1
  have N2:=Lib.hid n2
  clear n1 n2
  go_enter Tryz.func58,Tryz.ntmps58
  go_wp2
  refine wp_loop_rounds 2 ?_
  repeat any_goals (rw [rounds_succ];go_wp2_with (go_at_call 54;refine (rclass_any _ _ _ (by omega) (by omega)).mono ?_;rintro e w' ⟨he,m,rfl⟩;rw [HC.out] at he;subst he))
  go_ret2
  exact ⟨ret_bb (by rw [N1.out]) (by rw [N2.out]),_,rfl⟩

set_option maxHeartbeats 1000000 in
theorem nans2_any (f a c:Int) (b:Nat) (w:World) (h0:0≤a) (h1:a≤4294967295) (g0:0≤c) (g1:c≤4294967295) (hc:w.cell? ⟨b,0,none⟩=some (.int .u32 a)) (hd:w.cell? ⟨b,1,none⟩=some (.int .u32 c)):
  Calls Tryz.prog 58 #[.int .i64 f,.slice (some ⟨b,0,none⟩) 2 2] w fun e w'=>e=.returned (.tuple #[.bool (nanB f a || nanB f c),.bool (sigB f a || sigB f c)])∧∃ m,w'=w.drewN m:=by
 obtain ⟨C,hC⟩:∃ C,clsI f a=C:=⟨_,rfl⟩
 obtain ⟨D,hD⟩:∃ D,clsI f c=D:=⟨_,rfl⟩
 have HC:=Lib.hid hC
 have HD:=Lib.hid hD
 have HW:=cls_three f a
 have HX:=cls_three f c
 rw [hC] at HW
 rw [hD] at HX
 clear hC hD
 rcases HW with ⟨rfl,n1,n2⟩ | ⟨rfl,n1,n2⟩ | ⟨c4,c5,n1,n2⟩
 all_goals
  rcases HX with ⟨rfl,n3,n4⟩ | ⟨rfl,n3,n4⟩ | ⟨d4,d5,n3,n4⟩
  all_goals
   have N1:=Lib.hid n1
   have N2:=Lib.hid n2
   have N3:=Lib.hid n3
   have N4:=Lib.hid n4
   clear n1 n2 n3 n4
   go_enter Tryz.func58,Tryz.ntmps58
   go_wp2
   refine wp_loop_rounds 3 ?_
   repeat any_goals (rw [rounds_succ];go_wp2_with (go_at_call 54;refine (rclass_any _ _ _ (by omega) (by omega)).mono ?_;rintro e w' ⟨he,m,rfl⟩;(first | rw [HC.out] at he | rw [HD.out] at he);subst he))
   go_ret2
   refine ⟨ret_bb (by rw [N1.out,N3.out];rfl) (by rw [N2.out,N4.out];rfl),?_⟩
   first | exact ⟨_,rfl⟩ | exact ⟨_,World.drewN_drewN _ _ _⟩

set_option maxHeartbeats 400000 in
theorem rinfB_any (f:Int) (v:Int) (w:World) (h0:0≤v) (h1:v≤4294967295):
  Calls Tryz.prog 90 #[.int .i64 f,.int .u32 v] w fun e w'=>e=.returned (.bool (infB f v))∧∃ m,w'=w.drewN m:=by
 go_enter Tryz.func90,Tryz.ntmps90
 go_wp2_with (go_at_call 54;refine (rclass_any _ _ _ h0 h1).mono ?_;rintro e w' ⟨rfl,m,rfl⟩)
 go_ret
 exact ⟨rfl,_,rfl⟩

set_option maxHeartbeats 400000 in
theorem rnouB_any (f:Int) (v:Int) (w:World) (h0:0≤v) (h1:v≤4294967295):
  Calls Tryz.prog 59 #[.int .i64 f,.int .u32 v] w fun e w'=>e=.returned (.bool (nouB f v))∧∃ m,w'=w.drewN m:=by
 go_enter Tryz.func59,Tryz.ntmps59
 go_wp2_with (go_at_call 54;refine (rclass_any _ _ _ h0 h1).mono ?_;rintro e w' ⟨rfl,m,rfl⟩)
 go_ret
 exact ⟨rfl,_,rfl⟩

theorem mask_inf (f v:Int) (h0:0≤v) (h1:v≤4294967295) (h:infB f v=true):bits .and .u32 v (msk f)=infI f (fS f v):=by
 have c:=cls_cases f v
 unfold infB at h
 simp at h
 rw [mask_parts f v h0 h1]
 unfold infI
 have e:fX f v=topx f∧fF f v=0:=by omega
 rw [e.1,e.2,Int.add_zero]

theorem mask_nou (f v:Int) (h0:0≤v) (h1:v≤4294967295) (h:nouB f v=true):bits .and .u32 v (msk f)=zerI f (fS f v):=by
 have c:=cls_cases f v
 have ht:=topx_pos f
 unfold nouB at h
 simp at h
 rw [mask_parts f v h0 h1]
 have e:fX f v=0∧fF f v=0:=by omega
 rw [e.1,e.2,Int.zero_mul,Int.add_zero,Int.add_zero]

theorem norm_parts (f z Z F:Int) (hX:fX f z=Z) (hF:fF f z=F) (h0:0<Z) (h1:Z<topx f):nanB f z=false∧infB f z=false∧nouB f z=false∧unE f z=lst f+Z - 1∧unM f z=F+hid f:=by
 have hc:clsI f z=2:=by unfold clsI;rw [hX,if_neg (by omega),if_pos h1]
 refine ⟨by unfold nanB;rw [hc];rfl,by unfold infB;rw [hc];rfl,by unfold nouB;rw [hc];rfl,?_,?_⟩
 ·unfold unE;rw [hX,if_neg (by omega),if_neg (by omega)]
 ·unfold unM;rw [hX,hF,if_neg (by omega),if_neg (by omega)]

set_option maxRecDepth 100000 in
set_option maxHeartbeats 4000000 in
theorem nans3_any (f a c d:Int) (b:Nat) (w:World) (h0:0≤a) (h1:a≤4294967295) (g0:0≤c) (g1:c≤4294967295) (k0:0≤d) (k1:d≤4294967295) (hc:w.cell? ⟨b,0,none⟩=some (.int .u32 a)) (hd:w.cell? ⟨b,1,none⟩=some (.int .u32 c)) (he:w.cell? ⟨b,2,none⟩=some (.int .u32 d)):
  Calls Tryz.prog 58 #[.int .i64 f,.slice (some ⟨b,0,none⟩) 3 3] w fun e w'=>e=.returned (.tuple #[.bool (nanB f a || nanB f c || nanB f d),.bool (sigB f a || sigB f c || sigB f d)])∧∃ m,w'=w.drewN m:=by
 obtain ⟨C,hC⟩:∃ C,clsI f a=C:=⟨_,rfl⟩
 obtain ⟨D,hD⟩:∃ D,clsI f c=D:=⟨_,rfl⟩
 obtain ⟨E,hE⟩:∃ E,clsI f d=E:=⟨_,rfl⟩
 have HC:=Lib.hid hC
 have HD:=Lib.hid hD
 have HE:=Lib.hid hE
 have HW:=cls_three f a
 have HX:=cls_three f c
 have HY:=cls_three f d
 rw [hC] at HW
 rw [hD] at HX
 rw [hE] at HY
 clear hC hD hE
 rcases HW with ⟨rfl,n1,n2⟩ | ⟨rfl,n1,n2⟩ | ⟨c4,c5,n1,n2⟩
 all_goals
  rcases HX with ⟨rfl,n3,n4⟩ | ⟨rfl,n3,n4⟩ | ⟨d4,d5,n3,n4⟩
  all_goals
   rcases HY with ⟨rfl,n5,n6⟩ | ⟨rfl,n5,n6⟩ | ⟨e4,e5,n5,n6⟩
   all_goals
    have N1:=Lib.hid n1
    have N2:=Lib.hid n2
    have N3:=Lib.hid n3
    have N4:=Lib.hid n4
    have N5:=Lib.hid n5
    have N6:=Lib.hid n6
    clear n1 n2 n3 n4 n5 n6
    go_enter Tryz.func58,Tryz.ntmps58
    go_wp2
    refine wp_loop_rounds 4 ?_
    repeat any_goals (rw [rounds_succ];go_wp2_with (go_at_call 54;refine (rclass_any _ _ _ (by omega) (by omega)).mono ?_;rintro e w' ⟨he,m,rfl⟩;(first | rw [HC.out] at he | rw [HD.out] at he | rw [HE.out] at he);subst he))
    go_ret2
    refine ⟨ret_bb (by rw [N1.out,N3.out,N5.out];rfl) (by rw [N2.out,N4.out,N6.out];rfl),?_⟩
    first | exact ⟨_,rfl⟩ | exact ⟨_,World.drewN_drewN _ _ _⟩

def cmpO (f a b:Int):Bool:=!(nanB f a || nanB f b)

def cmpC (f a b:Int):Int:=
 if (nanB f a || nanB f b)=true then 0 else if (nouB f a&&nouB f b)=true then 0 else if keyI f a<keyI f b then -1 else if keyI f b<keyI f a then 1 else 0

def lesB (f a b:Int):Bool:=cmpO f a b&&decide (cmpC f a b<0)

def pickI (f a b:Int) (first:Bool):Int:=
 if (nanB f a&&nanB f b)=true then nanI f else if (nanB f a || (!nanB f b&&!first))=true then bits .and .u32 b (msk f) else bits .and .u32 a (msk f)

def minO (f a b:Int):Int:=pickI f a b (decide (keyI f a≤keyI f b))

def maxO (f a b:Int):Int:=pickI f a b (decide (keyI f b≤keyI f a))

theorem cmp_bd (f a b:Int):-1≤cmpC f a b∧cmpC f a b≤1:=by unfold cmpC;(repeat' split) <;> omega

theorem low_parts (f v:Int):v%sgb f=fX f v*hid f+fF f v:=by
 rcases fmt_cases f with ⟨rfl,hf⟩ | ⟨rfl,hf⟩ | ⟨⟨c0,c1⟩,hf⟩ <;> obtain ⟨e1,e2,e3,e4,e5,e6,e7,e8,e9⟩:=hf
 all_goals
  unfold fX fF;rw [e3,e4,e5];omega

theorem key_parts (f v:Int):keyI f v=if fS f v then -1 - (fX f v*hid f+fF f v) else fX f v*hid f+fF f v:=by
 unfold keyI;rw [low_parts]

theorem low_is (f x:Int) (h0:0≤x) (h1:x≤msk f):bits .and .u32 x (msk f)=x:=by
 rcases fmt_cases f with ⟨rfl,hf⟩ | ⟨rfl,hf⟩ | ⟨⟨c0,c1⟩,hf⟩ <;> obtain ⟨e1,e2,e3,e4,e5,e6,e7,e8,e9⟩:=hf <;> rw [e8] at h1 ⊢
 ·rw [and32 x 16 (p:=65536) h0 (by omega) (by decide) (by decide) (by decide)];omega
 ·rw [and32 x 16 (p:=65536) h0 (by omega) (by decide) (by decide) (by decide)];omega
 ·rw [and32 x 32 (p:=4294967296) h0 (by omega) (by decide) (by decide) (by decide)];omega

theorem key_nou (f v:Int) (h:nouB f v=true):keyI f v=-1∨keyI f v=0:=by
 have c:=cls_cases f v
 have ht:=topx_pos f
 unfold nouB at h
 simp at h
 rw [key_parts,show fX f v=0 by omega,show fF f v=0 by omega]
 split
 ·left;omega
 ·right;omega

theorem les_is (f a b:Int):lesB f a b=true↔nanB f a=false∧nanB f b=false∧¬(nouB f a=true∧nouB f b=true)∧keyI f a<keyI f b:=by
 unfold lesB cmpO cmpC
 cases ha:nanB f a <;> cases hb:nanB f b <;> cases za:nouB f a <;> cases zb:nouB f b <;> simp <;> omega

theorem nan_nan (f:Int):nanB f (nanI f)=true:=by
 rcases fmt_cases f with ⟨rfl,hf⟩ | ⟨rfl,hf⟩ | ⟨⟨c0,c1⟩,hf⟩ <;> obtain ⟨e1,e2,e3,e4,e5,e6,e7,e8,e9⟩:=hf
 all_goals
  unfold nanB clsI nanI infI zerI fX fF
  rw [e3,e4,e7]
  simp only [Bool.false_eq_true,if_false]
  decide

theorem low_high (f x y:Int) (x0:0≤x) (x1:x≤msk f) (y0:0≤y) (y1:y≤msk f):
  lesB f (maxO f x y) (minO f x y)=false∧(minO f x y=x∨minO f x y=y∨minO f x y=nanI f)∧(maxO f x y=x∨maxO f x y=y∨maxO f x y=nanI f):=by
 unfold minO maxO pickI
 rw [low_is f x x0 x1,low_is f y y0 y1]
 have self:∀ v,lesB f v v=false:=fun v=>by
  cases e:lesB f v v
  ·rfl
  ·have:=((les_is f v v).1 e).2.2.2;omega
 cases ha:nanB f x <;> cases hb:nanB f y
 ·by_cases k1:keyI f x≤keyI f y <;> by_cases k2:keyI f y≤keyI f x <;> simp [k1,k2,self]
  ·cases e:lesB f y x
   ·rfl
   ·have:=((les_is f y x).1 e).2.2.2;omega
  ·cases e:lesB f x y
   ·rfl
   ·have:=((les_is f x y).1 e).2.2.2;omega
 ·simp [self]
 ·simp [self]
 ·simp [self]

theorem pick_bd (f x y:Int) (x0:0≤x) (x1:x≤msk f) (y0:0≤y) (y1:y≤msk f):0≤minO f x y∧minO f x y≤4294967295∧0≤maxO f x y∧maxO f x y≤4294967295:=by
 obtain ⟨_,a,b⟩:=low_high f x y x0 x1 y0 y1
 have hm:msk f≤4294967295:=by unfold msk;(repeat' split) <;> decide
 have hn:0≤nanI f∧nanI f≤4294967295:=by
  unfold nanI infI zerI topx hid qui
  (repeat' split) <;> first | omega | simp_all
 refine ⟨?_,?_,?_,?_⟩
 ·rcases a with a | a | a <;> omega
 ·rcases a with a | a | a <;> omega
 ·rcases b with b | b | b <;> omega
 ·rcases b with b | b | b <;> omega

theorem sgb_low (f:Int) (s:Bool):fX f (infI f s)=topx f∧fF f (infI f s)=0∧fS f (infI f s)=s∧0≤infI f s∧infI f s≤msk f:=by
 rcases fmt_cases f with ⟨rfl,hf⟩ | ⟨rfl,hf⟩ | ⟨⟨c0,c1⟩,hf⟩ <;> obtain ⟨e1,e2,e3,e4,e5,e6,e7,e8,e9⟩:=hf
 all_goals
  unfold infI zerI fX fF fS
  rw [e3,e4,e5,e8]
  cases s <;> simp only [Bool.false_eq_true,if_false,if_true] <;> decide

/-! Sums of two numbers: what they come to (no program here). -/
def amtE (e M:Int):Nat:=M.toNat*2^(e+298).toNat

def finE (f mode:Int) (n:Bool) (V:Nat) (m:Bool) (W:Nat):Ending:=
 if V=0∧W=0∧n=m then excE (zerI f n) false else totE f mode n V m W

def addE (f mode a b:Int):Ending:=
 if (nanB f a || nanB f b)=true then excE (nanI f) (sigB f a || sigB f b)
 else if (infB f a&&infB f b&&(fS f a != fS f b))=true then excE (nanI f) true
 else if infB f a=true then excE (infI f (fS f a)) false
 else if infB f b=true then excE (infI f (fS f b)) false
 else finE f mode (fS f a) (amtE (unE f a) (unM f a)) (fS f b) (amtE (unE f b) (unM f b))

def fuE (f mode:Int) (n m:Bool) (P Q X:Int) (B:Bool):Ending:=
 if n=m then PackE f mode n (valN (clampE X) (P+Q) B)
 else if B=true then PackE f mode n (valN (clampE X) (P - Q - 1) true)
 else if Q<P then PackE f mode n (valN (clampE X) (P - Q) false)
 else if P<Q then PackE f mode m (valN (clampE X) (Q - P) false)
 else excE (zerI f (mode==3)) false

theorem pack_zero_is (f mode:Int) (n:Bool):PackE f mode n 0=excE (zerI f n) false:=by
 obtain ⟨z1,z2,z3,z4⟩:=rd_zero f mode n
 rw [←packE_is,z1,z2,z3,z4];rfl

theorem up_zero (V:Nat):upN V=0↔V=0:=by
 have q:∀ k:Nat,0<k→(V*k=0↔V=0):=fun k hk=>by rw [Nat.mul_eq_zero];omega
 exact q _ (np2 9802)

theorem fin_noughts (f mode:Int) (n:Bool):finE f mode n 0 n 0=excE (zerI f n) false:=by unfold finE;rw [if_pos ⟨rfl,rfl,rfl⟩]

theorem fin_like (f mode:Int) (n:Bool) (V W:Nat) (h:V+W≠0):finE f mode n V n W=PackE f mode n (upN (V+W)):=by
 unfold finE totE amT sgT
 simp only [if_true]
 rw [if_neg (show ¬(V=0∧W=0∧True) from fun g=>h (by omega)),if_neg h]

theorem fin_less (f mode:Int) (n m:Bool) (V W:Nat) (h:¬n=m) (c:V<W):finE f mode n V m W=PackE f mode m (upN (W - V)):=by
 unfold finE totE amT sgT
 rw [if_neg (show ¬(V=0∧W=0∧n=m) from fun g=>h g.2.2)]
 simp only [if_neg h,if_pos c]
 rw [if_neg (by omega)]

theorem fin_more (f mode:Int) (n m:Bool) (V W:Nat) (h:¬n=m) (c:W<V):finE f mode n V m W=PackE f mode n (upN (V - W)):=by
 have c':¬V<W:=by omega
 unfold finE totE amT sgT
 rw [if_neg (show ¬(V=0∧W=0∧n=m) from fun g=>h g.2.2)]
 simp only [if_neg h,if_neg c']
 rw [if_neg (by omega)]

theorem fin_even (f mode:Int) (n m:Bool) (V:Nat) (h:¬n=m):finE f mode n V m V=excE (zerI f (mode==3)) false:=by
 unfold finE totE amT sgT
 rw [if_neg (show ¬(V=0∧V=0∧n=m) from fun g=>h g.2.2)]
 simp only [if_neg h,if_neg (Nat.lt_irrefl V),Nat.sub_self,if_true]

theorem fin_swap (f mode:Int) (n:Bool) (V:Nat) (m:Bool) (W:Nat):finE f mode m W n V=finE f mode n V m W:=by
 by_cases h:n=m
 ·subst h
  by_cases c:V+W=0
  ·rw [show V=0 by omega,show W=0 by omega]
  ·rw [fin_like f mode n V W c,fin_like f mode n W V (by omega),Nat.add_comm]
 ·have h':¬m=n:=fun g=>h g.symm
  rcases Nat.lt_trichotomy V W with c | c | c
  ·rw [fin_less f mode n m V W h c,fin_more f mode m n W V h' c]
  ·subst c;rw [fin_even f mode n m V h,fin_even f mode m n V h']
  ·rw [fin_more f mode n m V W h c,fin_less f mode m n W V h' c]

theorem fu_like (f mode:Int) (n:Bool) (P Q X:Int) (B:Bool):fuE f mode n n P Q X B=PackE f mode n (valN (clampE X) (P+Q) B):=by unfold fuE;rw [if_pos rfl]

theorem fu_more (f mode:Int) (n m:Bool) (P Q X:Int) (h:¬n=m):fuE f mode n m P Q X true=PackE f mode n (valN (clampE X) (P - Q - 1) true):=by unfold fuE;rw [if_neg h,if_pos rfl]

theorem fu_down (f mode:Int) (n m:Bool) (P Q X:Int) (h:¬n=m) (c:Q<P):fuE f mode n m P Q X false=PackE f mode n (valN (clampE X) (P - Q) false):=by unfold fuE;rw [if_neg h,if_neg (by decide),if_pos c]

theorem fu_up (f mode:Int) (n m:Bool) (P Q X:Int) (h:¬n=m) (c:P<Q):fuE f mode n m P Q X false=PackE f mode m (valN (clampE X) (Q - P) false):=by unfold fuE;rw [if_neg h,if_neg (by decide),if_neg (by omega),if_pos c]

theorem fu_even (f mode:Int) (n m:Bool) (P X:Int) (h:¬n=m):fuE f mode n m P P X false=excE (zerI f (mode==3)) false:=by unfold fuE;rw [if_neg h,if_neg (by decide),if_neg (by omega),if_neg (by omega)]

theorem sticky_sum (f mode:Int) (n:Bool) (X E t:Nat) (B:Bool) (hX:2^(fn f+3)≤X) (ht:t<2^E) (hB:B=true↔t≠0) (hE:1≤E):
  PackE f mode n (X*2^E+B.toNat)=PackE f mode n (X*2^E+t):=by
 have hX0:X≠0:=by have:=p2 (fn f+3);omega
 have hl:fn f+3≤X.log2:=(Nat.le_log2 hX0).2 hX
 have h2:2≤2^E:=Nat.pow_le_pow_right (n:=2) (by decide) hE
 have hb:B.toNat≤1:=Bool.toNat_le _
 refine sticky f mode n X E B.toNat t hX0 (by omega) ht (by rw [←hB];cases B <;> simp) ?_
 unfold dN
 rw [log_above X E t ht hX0]
 omega

theorem val_is (X S:Int) (B:Bool) (s E:Nat) (hX:clampE X+10100=E) (hS:S=s):valN (clampE X) S B=s*2^E+B.toNat:=toNat_val X S B s E hX hS

theorem fu_near (f mode:Int) (n m:Bool) (p q k:Nat) (X:Int) (hX:clampE X+10100=((k+9802:Nat):Int)):
  fuE f mode n m (p:Int) (q:Int) X false=finE f mode n (p*2^k) m (q*2^k):=by
 have hk:=np2 k
 have up:∀ s:Nat,s*2^(k+9802)+false.toNat=upN (s*2^k):=by
  intro s;unfold upN;rw [Bool.toNat_false,Nat.add_zero,Nat.pow_add,Nat.mul_assoc]
 have z:∀ s:Nat,s*2^k=0↔s=0:=by intro s;rw [Nat.mul_eq_zero];omega
 have lt:p*2^k<q*2^k↔p<q:=Nat.mul_lt_mul_right hk
 by_cases h:n=m
 ·subst h
  rw [fu_like,val_is X _ false (p+q) (k+9802) hX (by omega),up]
  by_cases c:p+q=0
  ·rw [show p=0 by omega,show q=0 by omega,Nat.zero_mul,fin_noughts,←pack_zero_is f mode n]
   rw [(up_zero 0).2 rfl]
  ·rw [fin_like f mode n _ _ (by rw [←Nat.add_mul];exact fun g=>c ((z _).1 g)),Nat.add_mul]
 ·rcases Nat.lt_trichotomy p q with c | c | c
  ·rw [fu_up f mode n m _ _ _ h (by omega),fin_less f mode n m _ _ h (lt.2 c),←Nat.sub_mul,val_is X _ false (q - p) (k+9802) hX (by omega),up]
  ·subst c;rw [fu_even f mode n m _ _ h,fin_even f mode n m _ h]
  ·rw [fu_down f mode n m _ _ _ h (by omega),fin_more f mode n m _ _ h ((Nat.mul_lt_mul_right hk).2 c),←Nat.sub_mul,val_is X _ false (p - q) (k+9802) hX (by omega),up]

theorem up_two (s t d k j:Nat):(s*2^d+t)*2^k*2^j=s*2^(d+(k+j))+t*2^(k+j):=by
 rw [Nat.mul_assoc,←Nat.pow_add,Nat.add_mul,Nat.mul_assoc,←Nat.pow_add]

theorem fu_far (f mode:Int) (n m:Bool) (p q r d k:Nat) (X:Int) (B:Bool) (hX:clampE X+10100=((d+(k+9802):Nat):Int)) (hd:1≤d) (hp:2^fn f*4294967296≤p) (hq:q<16777216) (hr:r<2^d) (hB:B=true↔r≠0):
  fuE f mode n m (p:Int) (q:Int) X B=finE f mode n (p*2^d*2^k) m ((q*2^d+r)*2^k):=by
 have hf:=p2 (fn f)
 have hk:=np2 k
 have hdd:=np2 d
 have hqp:q+1<p:=by omega
 have e3:2^(fn f+3)=2^fn f*8:=by rw [Nat.pow_add]
 have hE:d+(k+9802)=d+k+9802:=by omega
 have h2:2≤2^d:=Nat.pow_le_pow_right (n:=2) (by decide) hd
 have lt:∀ t,t<2^d→t*2^(k+9802)<2^(d+(k+9802)):=by
  intro t ht;rw [Nat.pow_add 2 d];exact Nat.mul_lt_mul_of_pos_right ht (np2 _)
 have up:∀ s t:Nat,upN ((s*2^d+t)*2^k)=s*2^(d+(k+9802))+t*2^(k+9802):=by
  intro s t;exact up_two s t d k 9802
 have tz:∀ t:Nat,t*2^(k+9802)≠0↔t≠0:=fun t=>mul_nz t _ (np2 _)
 have hV:p*2^d*2^k≠0:=by
  have h1:=Nat.mul_pos (Nat.mul_pos (show 0<p by omega) hdd) hk
  omega
 have hlt:q*2^d+r<p*2^d:=by
  have h1:(q+1)*2^d≤p*2^d:=Nat.mul_le_mul_right _ (by omega)
  rw [Nat.add_mul] at h1;omega
 have hWV:(q*2^d+r)*2^k<p*2^d*2^k:=Nat.mul_lt_mul_of_pos_right hlt hk
 by_cases h:n=m
 ·subst h
  rw [fu_like,fin_like f mode n _ _ (by omega),val_is X _ B (p+q) (d+(k+9802)) hX (by omega)]
  rw [show p*2^d*2^k+(q*2^d+r)*2^k=((p+q)*2^d+r)*2^k by rw [←Nat.add_mul,Nat.add_mul p q];congr 1;omega,up]
  exact sticky_sum f mode n (p+q) _ _ B (by omega) (lt r hr) (by rw [tz];exact hB) (by omega)
 ·rw [fin_more f mode n m _ _ h hWV]
  cases B
  ·have hr0:r=0:=Classical.byContradiction fun c=>absurd (hB.2 c) (by decide)
   subst hr0
   rw [fu_down f mode n m _ _ _ h (by omega),val_is X _ false (p - q) (d+(k+9802)) hX (by omega)]
   rw [←Nat.sub_mul,Nat.add_zero (q*2^d),←Nat.sub_mul]
   have:=up (p - q) 0
   rw [Nat.add_zero] at this
   rw [this,Bool.toNat_false,Nat.zero_mul]
  ·have hr0:r≠0:=hB.1 rfl
   rw [fu_more f mode n m _ _ _ h,val_is X _ true (p - q - 1) (d+(k+9802)) hX (by omega)]
   have e:p*2^d - (q*2^d+r)=(p - q - 1)*2^d+(2^d - r):=by
    rw [Nat.sub_mul,Nat.sub_mul,Nat.one_mul]
    have h1:(q+1)*2^d≤p*2^d:=Nat.mul_le_mul_right _ (by omega)
    rw [Nat.add_mul,Nat.one_mul] at h1
    omega
   rw [←Nat.sub_mul,e,up]
   exact sticky_sum f mode n (p - q - 1) _ _ true (by omega) (lt _ (by omega)) (by rw [tz];simp;omega) (by omega)

def upI (a b:Int):Int:=if 32<a - b then 32 else a - b

theorem fu_is (f mode:Int) (n m:Bool) (e1 e2 M1 M2:Int) (he:e2≤e1) (e0:-298≤e2) (e3:e1≤400) (m0:0≤M1) (m1:M1<16777216) (k0:0≤M2) (k1:M2<16777216) (hM:e2<e1→((2^fn f:Nat):Int)≤M1):
  fuE f mode n m (M1*2^(upI e1 e2).toNat) (shV M2 (e1 - upI e1 e2 - e2)) (e1 - upI e1 e2) (shO M2 (e1 - upI e1 e2 - e2))=finE f mode n (amtE e1 M1) m (amtE e2 M2):=by
 obtain ⟨a,rfl⟩:=Int.eq_ofNat_of_zero_le m0
 obtain ⟨b,rfl⟩:=Int.eq_ofNat_of_zero_le k0
 unfold amtE
 rw [Int.toNat_natCast,Int.toNat_natCast]
 by_cases c:32<e1 - e2
 ·have hU:upI e1 e2=32:=if_pos c
  rw [hU]
  obtain ⟨d,hd⟩:∃ d:Nat,e1 - 32 - e2=d:=⟨(e1 - 32 - e2).toNat,by omega⟩
  obtain ⟨k,hk⟩:∃ k:Nat,e2+298=k:=⟨(e2+298).toNat,by omega⟩
  have s1:shV (b:Int) (e1 - 32 - e2)=((b / 2^d:Nat):Int):=by
   unfold shV;rw [if_neg (by omega),hd,Int.toNat_natCast,pow2_cast,←Int.natCast_ediv]
  have s2:shO (b:Int) (e1 - 32 - e2)=decide (b%2^d≠0):=by
   unfold shO;rw [if_neg (by omega),hd,Int.toNat_natCast,pow2_cast,←Int.natCast_emod]
   congr 1
   rw [eq_iff_iff];omega
  rw [s1,s2,show (a:Int)*2^(32:Int).toNat=((a*2^32:Nat):Int) by rw [show (32:Int).toNat=32 from rfl];omega]
  have hb:=Nat.div_add_mod b (2^d)
  have hq:b / 2^d≤b:=Nat.div_le_self _ _
  have hfar:=fu_far f mode n m (a*2^32) (b / 2^d) (b%2^d) d k (e1 - 32) (decide (b%2^d≠0)) (by rw [clamp_in _ (by omega) (by omega)];omega) (by omega) (by have:=hM (by omega);omega) (by omega) (Nat.mod_lt _ (np2 d)) (by simp)
  rw [hfar,Nat.mul_comm (b / 2^d),hb]
  rw [show (e1+298).toNat=32+d+k by omega,show (e2+298).toNat=k by omega,Nat.pow_add,Nat.pow_add,←Nat.mul_assoc,←Nat.mul_assoc]
 ·have hU:upI e1 e2=e1 - e2:=if_neg c
  rw [hU]
  obtain ⟨d,hd⟩:∃ d:Nat,e1 - e2=d:=⟨(e1 - e2).toNat,by omega⟩
  obtain ⟨k,hk⟩:∃ k:Nat,e2+298=k:=⟨(e2+298).toNat,by omega⟩
  have hz:e1 - (e1 - e2) - e2=0:=by omega
  have s1:shV (b:Int) 0=(b:Int):=by simp [shV]
  have s2:shO (b:Int) 0=false:=by simp [shO,Int.emod_one]
  rw [hz,s1,s2,hd,Int.toNat_natCast,pow2_cast,←Int.natCast_mul]
  rw [fu_near f mode n m (a*2^d) b k (e1 - (d:Int)) (by rw [clamp_in _ (by omega) (by omega)];omega)]
  rw [show (e1+298).toNat=d+k by omega,show (e2+298).toNat=k by omega,Nat.pow_add,←Nat.mul_assoc]

theorem up_bd (a b:Int) (h:b≤a):0≤upI a b∧upI a b≤32∧upI a b≤a - b:=by unfold upI;split <;> omega

theorem sh_bd24 (v k:Int) (h0:0≤v) (h1:v<16777216) (hk:0≤k):0≤shV v k∧shV v k<16777216:=by
 unfold shV
 rw [if_neg (by omega)]
 have hp:=pow2_pos k.toNat
 have a:=Int.ediv_nonneg h0 (Int.le_of_lt hp)
 have b:=Int.ediv_le_self (2^k.toNat) h0
 omega

theorem sh_out_room (M1 M2 a b:Int) (h:b≤a) (m0:128≤M1∨a=b) (k0:0≤M2) (k1:M2<16777216) (ho:shO M2 (a - upI a b - b)=true):shV M2 (a - upI a b - b)+1≤M1*2^(upI a b).toNat:=by
 by_cases c:32<a - b
 ·have hU:upI a b=32:=if_pos c
  rw [hU] at*
  have:=sh_bd24 M2 (a - 32 - b) k0 k1 (by omega)
  rw [show (32:Int).toNat=32 from rfl]
  omega
 ·have hU:upI a b=a - b:=if_neg c
  rw [hU,show a - (a - b) - b=0 by omega] at ho
  simp [shO,Int.emod_one] at ho

/-! Numbers' parts in sums: bounds,noughts,other signs (no program here). -/
theorem unE_top (f x:Int):unE f x≤120:=by
 have hX:=fX_bd f x
 rcases fmt_cases f with ⟨rfl,hf⟩ | ⟨rfl,hf⟩ | ⟨⟨c0,c1⟩,hf⟩ <;> obtain ⟨e1,e2,e3,e4,e5,e6,e7,e8,e9⟩:=hf
 all_goals
  unfold unE
  rw [e4] at hX ⊢
  rw [e6]
  (repeat' split) <;> omega

theorem fit_of (V j k:Nat) (h:V<2^j) (hj:j≤64*k):FitN V k:=⟨Nat.lt_of_lt_of_le h (Nat.pow_le_pow_right (by decide) hj)⟩

theorem amt_nine (f x:Int):FitN (amtE (unE f x) (unM f x)) 9:=by
 obtain ⟨m0,m1⟩:=unM_bd f x
 obtain ⟨e0,e1⟩:=unE_bd f x
 have e2:=unE_top f x
 refine fit_of _ (24+(unE f x+298).toNat) 9 ?_ (by omega)
 unfold amtE
 have h:(unM f x).toNat<2^24:=by omega
 have a:=Nat.mul_lt_mul_of_pos_right h (np2 (unE f x+298).toNat)
 rw [←Nat.pow_add] at a
 exact a

theorem spr_amt (e M:Int) (h:0≤e+298):sprN M.toNat ((e+298) / 64).toNat ((e+298)%64).toNat=amtE e M:=by
 unfold sprN amtE
 rw [show 64*((e+298) / 64).toNat+((e+298)%64).toNat=(e+298).toNat by omega]

theorem fin_of (f a:Int) (hn:nanB f a=false) (hi:infB f a=false):finI f a=true:=by
 have c:=cls_cases f a
 unfold nanB at hn
 unfold infB at hi
 simp at hn hi
 rcases three_ways f a with ⟨x,y,z⟩ | ⟨x,y,z⟩ | ⟨x,y,z,t⟩
 ·omega
 ·exact y
 ·exact z

theorem amt_zero (e M:Int) (h:0≤M):amtE e M=0↔M=0:=by
 unfold amtE
 have:=np2 (e+298).toNat
 rw [Nat.mul_eq_zero];omega

theorem nou_is (f a:Int) (h:finI f a=true):nouB f a=true↔amtE (unE f a) (unM f a)=0:=by
 rw [amt_zero _ _ (unM_bd f a).1]
 have c:=cls_cases f a
 have hh:=hid_pos f
 have hF:=fF_bd f a
 have ht:=topx_pos f
 unfold nouB
 rw [beq_iff_eq]
 rcases three_ways f a with ⟨x,y,z⟩ | ⟨x,y,z,t⟩ | ⟨x,y,z,t,u⟩
 ·rw [h] at y;exact absurd y (by decide)
 ·omega
 ·omega

theorem add_like (f mode a b c:Int) (hX:fX f b=fX f c) (hF:fF f b=fF f c) (hS:nanB f b=false→fS f b=fS f c):addE f mode a b=addE f mode a c:=by
 have hc:clsI f b=clsI f c:=by unfold clsI;rw [hX,hF]
 have hn:nanB f b=nanB f c:=by unfold nanB;rw [hc]
 have hs:sigB f b=sigB f c:=by unfold sigB;rw [hc]
 have hi:infB f b=infB f c:=by unfold infB;rw [hc]
 have hE:unE f b=unE f c:=by unfold unE;rw [hX]
 have hM:unM f b=unM f c:=by unfold unM;rw [hX,hF]
 unfold addE
 rw [←hn,←hs,←hi,←hE,←hM]
 by_cases g:(nanB f a || nanB f b)=true
 ·rw [if_pos g,if_pos g]
 ·have g2:nanB f b=false:=by cases h:nanB f b <;> simp_all
  rw [if_neg g,if_neg g,hS g2]

def minI (f v:Int):Int:=if nanB f v then bits .and .u32 v (msk f) else bits .and .u32 (xorI f v) (msk f)

theorem min_bd (f v:Int) (h0:0≤v) (h1:v≤4294967295):0≤minI f v∧minI f v≤4294967295:=by
 obtain ⟨x1,x2,x3,x4,x5⟩:=xor_parts f v h0 h1
 unfold minI;split
 ·exact (and_parts f v h0 h1).2.2.2
 ·exact (and_parts f _ x4 x5).2.2.2

theorem sub_alike (f mode a b:Int) (h0:0≤b) (h1:b≤4294967295):addE f mode a (minI f b)=addE f mode a (xorI f b):=by
 obtain ⟨x1,x2,x3,x4,x5⟩:=xor_parts f b h0 h1
 obtain ⟨y1,y2,y3,y4,y5⟩:=and_parts f b h0 h1
 obtain ⟨z1,z2,z3,z4,z5⟩:=and_parts f _ x4 x5
 unfold minI
 by_cases h:nanB f b=true
 ·rw [if_pos h]
  refine add_like f mode a _ _ (by rw [y1,x1]) (by rw [y2,x2]) (fun g=>?_)
  have:nanB f (bits .and .u32 b (msk f))=nanB f b:=by unfold nanB clsI;rw [y1,y2]
  rw [this,h] at g;exact absurd g (by decide)
 ·rw [if_neg h]
  exact add_like f mode a _ _ z1 z2 (fun _=>z3)

theorem nou_parts (f b:Int) (hX:fX f b=0) (hF:fF f b=0):nanB f b=false∧sigB f b=false∧infB f b=false∧amtE (unE f b) (unM f b)=0:=by
 have hc:clsI f b=0:=by unfold clsI;rw [if_pos hX,if_pos hF]
 have ht:=topx_pos f
 refine ⟨by unfold nanB;rw [hc];rfl,by unfold sigB;rw [hc];rfl,by unfold infB;rw [hc];rfl,?_⟩
 rw [amt_zero _ _ (unM_bd f b).1]
 unfold unM
 rw [if_neg (by omega),if_pos hX];exact hF

theorem up_num (f x:Int):upN (amtE (unE f x) (unM f x))=numN f x:=by
 obtain ⟨e0,e1⟩:=unE_bd f x
 have q:∀ k:Nat,(unM f x).toNat*2^(unE f x+298).toNat*2^k=(unM f x).toNat*2^((unE f x+298).toNat+k):=fun k=>by rw [Nat.mul_assoc,←Nat.pow_add]
 unfold upN amtE numN
 rw [show (unE f x+10100).toNat=(unE f x+298).toNat+9802 by omega]
 exact q 9802

theorem mil_norm (f k:Int) (h0:0≤k) (h:milI f k≠0):finI f (milI f k)=true∧milI f k≤msk f∧0<fX f (milI f k)∧bia f - 2≤fX f (milI f k)∧fX f (milI f k)≤bia f+1:=by
 unfold milI at*
 by_cases c7:k%7=0
 ·exact absurd (if_pos c7) h
 ·rw [if_neg c7] at*
  clear h
  unfold milA finI fX
  rcases fmt_cases f with ⟨rfl,hf⟩ | ⟨rfl,hf⟩ | ⟨⟨c0,c1⟩,hf⟩ <;> obtain ⟨e1,e2,e3,e4,e5,e6,e7,e8,e9⟩:=hf
  all_goals
   rw [e9,e3,e4,e5,e8]
   rcases Int.emod_two_eq k with c2 | c2
   ·rw [if_neg (by omega)];refine ⟨decide_eq_true (by omega),by omega,by omega,by omega,by omega⟩
   ·rw [if_pos c2];refine ⟨decide_eq_true (by omega),by omega,by omega,by omega,by omega⟩

def sgP (f a b:Int):Bool:=fS f a != fS f b

def badB (f a b:Int):Bool:=(nouB f a&&infB f b) || (infB f a&&nouB f b)

def amtP (f a b:Int):Nat:=amtE (unE f a+unE f b) (unM f a*unM f b)

def mulE (f mode a b:Int):Ending:=
 if (nanB f a || nanB f b)=true then excE (nanI f) (sigB f a || sigB f b)
 else if badB f a b=true then excE (nanI f) true
 else if (infB f a || infB f b)=true then excE (infI f (sgP f a b)) false
 else PackE f mode (sgP f a b) (upN (amtP f a b))

def fmaE (f mode a b c:Int):Ending:=
 if (nanB f a || nanB f b || nanB f c || badB f a b)=true then excE (nanI f) (sigB f a || sigB f b || sigB f c || badB f a b)
 else if (infB f a || infB f b)=true then (if (infB f c&&(fS f c != sgP f a b))=true then excE (nanI f) true else excE (infI f (sgP f a b)) false)
 else if infB f c=true then excE (infI f (fS f c)) false
 else finE f mode (sgP f a b) (amtP f a b) (fS f c) (amtE (unE f c) (unM f c))

theorem unM_lt (f x:Int):unM f x<((2^(fn f+1):Nat):Int):=by
 have hF:=fF_bd f x
 have hh:=hid_fn f
 have hp:=np2 (fn f)
 have e:2^(fn f+1)=2*2^fn f:=by rw [Nat.pow_succ];omega
 unfold unM;(repeat' split) <;> omega

theorem unE_fn (f x:Int):unE f x+fn f≤127:=by
 have hX:=fX_bd f x
 rcases fmt_cases f with ⟨rfl,hf⟩ | ⟨rfl,hf⟩ | ⟨⟨c0,c1⟩,hf⟩ <;> obtain ⟨e1,e2,e3,e4,e5,e6,e7,e8,e9⟩:=hf
 all_goals
  unfold unE
  rw [e4] at hX ⊢
  rw [e6,e2]
  (repeat' split) <;> omega

theorem mul_bd (f a b:Int):0≤unM f a*unM f b∧unM f a*unM f b<281474976710656∧(unM f a*unM f b).toNat=(unM f a).toNat*(unM f b).toNat:=by
 obtain ⟨a0,a1⟩:=unM_bd f a
 obtain ⟨b0,b1⟩:=unM_bd f b
 have h0:=Int.mul_nonneg a0 b0
 have h1:unM f a*unM f b≤16777215*16777215:=Int.mul_le_mul (by omega) (by omega) b0 (by omega)
 refine ⟨h0,by omega,?_⟩
 obtain ⟨A,hA⟩:=Int.eq_ofNat_of_zero_le a0
 obtain ⟨B,hB⟩:=Int.eq_ofNat_of_zero_le b0
 rw [hA,hB,←Int.natCast_mul];rfl

theorem prod_fit (f a b:Int):FitN (amtP f a b) 9:=by
 have ha:=unM_lt f a
 have hb:=unM_lt f b
 obtain ⟨a0,a1⟩:=unM_bd f a
 obtain ⟨b0,b1⟩:=unM_bd f b
 have ea:=unE_fn f a
 have eb:=unE_fn f b
 obtain ⟨x0,x1⟩:=unE_bd f a
 obtain ⟨y0,y1⟩:=unE_bd f b
 obtain ⟨_,_,hm⟩:=mul_bd f a b
 refine fit_of _ ((fn f+1)+(fn f+1)+(unE f a+unE f b+298).toNat) 9 ?_ (by omega)
 unfold amtP amtE
 rw [hm,Nat.pow_add,Nat.pow_add]
 refine Nat.mul_lt_mul_of_pos_right ?_ (np2 _)
 exact Nat.mul_lt_mul_of_lt_of_le (by omega) (by omega) (np2 _)

theorem prod_val (f a b:Int):valN (clampE (unE f a+unE f b)) (unM f a*unM f b) false=upN (amtP f a b):=by
 obtain ⟨x0,x1⟩:=unE_bd f a
 obtain ⟨y0,y1⟩:=unE_bd f b
 have q:∀ M k:Nat,M*2^(unE f a+unE f b+298).toNat*2^k=M*2^((unE f a+unE f b+298).toNat+k):=fun M k=>by rw [Nat.mul_assoc,←Nat.pow_add]
 unfold valN upN amtP amtE
 rw [clamp_in _ (by omega) (by omega),show (unE f a+unE f b+10100).toNat=(unE f a+unE f b+298).toNat+9802 by omega,Bool.toNat_false,Nat.add_zero]
 exact (q _ 9802).symm

theorem amtP_turn (f a b:Int):amtP f b a=amtP f a b:=by unfold amtP;rw [Int.add_comm (unE f b),Int.mul_comm (unM f b)]

theorem amtP_zero (f a b:Int):amtP f a b=0↔unM f a=0∨unM f b=0:=by
 unfold amtP
 rw [amt_zero _ _ (mul_bd f a b).1,Int.mul_eq_zero]

def finU (f mode:Int) (n:Bool) (V:Nat) (m:Bool) (W:Nat):Ending:=
 if V=0∧W=0∧n=m then excE (zerI f n) false else if amT n V m W=0 then excE (zerI f (mode==3)) false else PackE f mode (sgT n V m W) (amT n V m W)

theorem fin_up (f mode:Int) (n:Bool) (V:Nat) (m:Bool) (W:Nat):finE f mode n V m W=finU f mode n (upN V) m (upN W):=by
 have lt:∀ A B:Nat,upN A<upN B↔A<B:=by
  have q:∀ k:Nat,0<k→∀ A B:Nat,(A*k<B*k↔A<B):=fun k hk A B=>Nat.mul_lt_mul_right hk
  exact q _ (np2 9802)
 have ad:∀ A B:Nat,upN A+upN B=upN (A+B):=by
  have q:∀ k A B:Nat,A*k+B*k=(A+B)*k:=fun k A B=>(Nat.add_mul A B k).symm
  exact q _
 have sb:∀ A B:Nat,upN A - upN B=upN (A - B):=by
  have q:∀ k A B:Nat,A*k - B*k=(A - B)*k:=fun k A B=>(Nat.sub_mul A B k).symm
  exact q _
 have hs:sgT n (upN V) m (upN W)=sgT n V m W:=by unfold sgT;simp only [lt]
 have ha:amT n (upN V) m (upN W)=upN (amT n V m W):=by
  unfold amT
  by_cases h:n=m
  ·rw [if_pos h,if_pos h,ad]
  ·rw [if_neg h,if_neg h]
   by_cases c:V<W
   ·rw [if_pos c,if_pos ((lt V W).2 c),sb]
   ·rw [if_neg c,if_neg (fun g=>c ((lt V W).1 g)),sb]
 unfold finE totE finU
 rw [hs,ha]
 simp only [up_zero]

theorem finU_like (f mode:Int) (n:Bool) (V W:Nat) (h:V+W≠0):finU f mode n V n W=PackE f mode n (V+W):=by
 unfold finU amT sgT
 simp only [if_true]
 rw [if_neg (show ¬(V=0∧W=0∧True) from fun g=>h (by omega)),if_neg h]

theorem finU_more (f mode:Int) (n m:Bool) (V W:Nat) (h:¬n=m) (c:W<V):finU f mode n V m W=PackE f mode n (V - W):=by
 have c':¬V<W:=by omega
 unfold finU amT sgT
 rw [if_neg (show ¬(V=0∧W=0∧n=m) from fun g=>h g.2.2)]
 simp only [if_neg h,if_neg c']
 rw [if_neg (by omega)]

theorem finU_even (f mode:Int) (n m:Bool) (V:Nat) (h:¬n=m):finU f mode n V m V=excE (zerI f (mode==3)) false:=by
 unfold finU amT sgT
 rw [if_neg (show ¬(V=0∧V=0∧n=m) from fun g=>h g.2.2)]
 simp only [if_neg h,if_neg (Nat.lt_irrefl V),Nat.sub_self,if_true]

theorem tog_is (f mode:Int) (n m:Bool) (P Q d E2:Nat) (e1:Int) (hP:4611686018427387904≤P) (hQ:Q≤9223372036854775807) (h2:Q%2=0) (he:clampE e1+10100=((d+E2:Nat):Int)) (hE:1≤d+E2) (hd:d=0→Q≤P):
  fuE f mode n m (P:Int) ((Q / 2^d:Nat):Int) e1 (decide (Q%2^d≠0))=finU f mode n (P*2^(d+E2)) m (Q*2^E2):=by
 have hb:=Nat.div_add_mod Q (2^d)
 have hrl:=Nat.mod_lt Q (np2 d)
 have hdd:=np2 d
 have hEE:=np2 (d+E2)
 have hE2:=np2 E2
 have hfn:2^(fn f+3)≤2^26:=Nat.pow_le_pow_right (by decide) (by have:=fn_bd f;omega)
 have hq0:d=0→Q / 2^d=Q:=fun h=>by subst h;simp
 have hq1:1≤d→Q / 2^d≤Q / 2:=fun h=>Nat.div_le_div_left (Nat.pow_le_pow_right (n:=2) (by decide) h) (by decide)
 have hq2:2≤d→Q / 2^d≤Q / 4:=fun h=>Nat.div_le_div_left (Nat.pow_le_pow_right (n:=2) (by decide) h) (by decide)
 have hr2:Q%2^d≠0→2≤d:=by
  intro h
  rcases (show d=0∨d=1∨2≤d by omega) with c | c | c
  ·subst c;simp [Nat.mod_one] at h
  ·subst c;exact absurd h2 h
  ·exact c
 have hW:Q*2^E2=Q / 2^d*2^(d+E2)+Q%2^d*2^E2:=by
  rw [Nat.pow_add,←Nat.mul_assoc,←Nat.add_mul,Nat.mul_comm (Q / 2^d),hb]
 have ht:∀ t,t<2^d→t*2^E2<2^(d+E2):=by
  intro t h;rw [Nat.pow_add];exact Nat.mul_lt_mul_of_pos_right h hE2
 have hsplit:2^(d+E2)=2^d*2^E2:=Nat.pow_add 2 d E2
 rw [hW]
 generalize Q / 2^d=q at*
 generalize hr:Q%2^d=r at*
 have hPV:0<P*2^(d+E2):=Nat.mul_pos (by omega) hEE
 by_cases r0:r=0
 ·subst r0
  rw [show decide ((0:Nat)≠0)=false from rfl,Nat.zero_mul,Nat.add_zero]
  have hqP:q≤P:=by
   rcases (show d=0∨1≤d by omega) with c | c
   ·rw [hq0 c];exact hd c
   ·have:=hq1 c;omega
  by_cases h:n=m
  ·subst h
   rw [fu_like,finU_like f mode n _ _ (by omega),val_is e1 _ false (P+q) (d+E2) he (by omega),Bool.toNat_false,Nat.add_zero,Nat.add_mul]
  ·by_cases c:q=P
   ·subst c
    rw [fu_even f mode n m _ _ h,finU_even f mode n m _ h]
   ·rw [fu_down f mode n m _ _ _ h (by omega),finU_more f mode n m _ _ h (Nat.mul_lt_mul_of_pos_right (by omega) hEE),val_is e1 _ false (P - q) (d+E2) he (by omega),Bool.toNat_false,Nat.add_zero,Nat.sub_mul]
 ·rw [show decide (r≠0)=true from decide_eq_true r0]
  have d2:=hr2 r0
  have hq:=hq2 d2
  have h4:q+1≤P:=by omega
  have hlt:q*2^(d+E2)+r*2^E2<P*2^(d+E2):=by
   have h1:(q+1)*2^(d+E2)≤P*2^(d+E2):=Nat.mul_le_mul_right _ h4
   have h3:=ht r hrl
   rw [Nat.add_mul,Nat.one_mul] at h1;omega
  by_cases h:n=m
  ·subst h
   rw [fu_like,finU_like f mode n _ _ (by omega),val_is e1 _ true (P+q) (d+E2) he (by omega)]
   rw [show P*2^(d+E2)+(q*2^(d+E2)+r*2^E2)=(P+q)*2^(d+E2)+r*2^E2 by rw [Nat.add_mul];omega]
   exact sticky_sum f mode n (P+q) _ _ true (by omega) (ht r hrl) (by simp only [true_iff];exact mul_nz r _ hE2 |>.2 r0) hE
  ·rw [fu_more f mode n m _ _ _ h,finU_more f mode n m _ _ h hlt,val_is e1 _ true (P - q - 1) (d+E2) he (by omega)]
   have hx:(2^d - r)*2^E2=2^(d+E2) - r*2^E2:=by rw [Nat.sub_mul,hsplit]
   have h3:=ht r hrl
   have h1:(q+1)*2^(d+E2)≤P*2^(d+E2):=Nat.mul_le_mul_right _ h4
   rw [show P*2^(d+E2) - (q*2^(d+E2)+r*2^E2)=(P - q - 1)*2^(d+E2)+(2^d - r)*2^E2 by
    rw [hx,Nat.sub_mul,Nat.sub_mul,Nat.one_mul]
    rw [Nat.add_mul,Nat.one_mul] at h1
    omega]
   exact sticky_sum f mode n (P - q - 1) _ _ true (by omega) (ht _ (by omega)) (by simp only [true_iff];exact mul_nz _ _ hE2 |>.2 (by omega)) hE

theorem raise_fit (M:Int) (m0:0<M) (m1:M<281474976710656):1≤lenI M∧lenI M≤48∧4611686018427387904≤M*2^(63 - lenI M).toNat∧M*2^(63 - lenI M).toNat≤9223372036854775807∧(M*2^(63 - lenI M).toNat)%2=0:=by
 have hl:=len_log M m0
 have h48:=len_bd M 48 (by omega) (by omega)
 obtain ⟨k,rfl⟩:=Int.eq_ofNat_of_zero_le (Int.le_of_lt m0)
 rw [Int.toNat_natCast] at hl
 have hk:k≠0:=by omega
 have a:=Nat.log2_self_le hk
 have b:=Nat.lt_log2_self (n:=k)
 generalize k.log2=l at*
 rw [hl]
 have hl47:l≤47:=by omega
 have e:(63 - ((l:Int)+1)).toNat=62 - l:=by omega
 rw [e,pow2_cast,←Int.natCast_mul]
 have h1:2^l*2^(62 - l)≤k*2^(62 - l):=Nat.mul_le_mul_right _ a
 have h2:k*2^(62 - l)<2^(l+1)*2^(62 - l):=Nat.mul_lt_mul_of_pos_right b (np2 _)
 rw [←Nat.pow_add,show l+(62 - l)=62 by omega] at h1
 rw [←Nat.pow_add,show l+1+(62 - l)=63 by omega] at h2
 have h3:k*2^(62 - l)%2=0:=by
  rw [show 62 - l=(61 - l)+1 by omega,Nat.pow_succ,←Nat.mul_assoc,Nat.mul_mod_left]
 omega

theorem raise_amt (e M:Int) (m0:0<M) (m1:M<281474976710656) (e0:-298≤e) (e1:e≤400):
  (M*2^(63 - lenI M).toNat).toNat*2^(e - (63 - lenI M)+10100).toNat=upN (amtE e M):=by
 obtain ⟨l0,l1,_⟩:=raise_fit M m0 m1
 generalize lenI M=L at*
 obtain ⟨k,rfl⟩:=Int.eq_ofNat_of_zero_le (Int.le_of_lt m0)
 have q:∀ j:Nat,k*2^(e+298).toNat*2^j=k*2^((e+298).toNat+j):=fun j=>by rw [Nat.mul_assoc,←Nat.pow_add]
 unfold upN amtE
 rw [pow2_cast,←Int.natCast_mul,Int.toNat_natCast,Int.toNat_natCast,Nat.mul_assoc,←Nat.pow_add]
 rw [show (63 - L).toNat+(e - (63 - L)+10100).toNat=(e+298).toNat+9802 by omega]
 exact (q 9802).symm

/-! The ways of the program's Mul and Fma. -/
theorem inf_parts (f:Int) (s:Bool):clsI f (infI f s)=3∧fS f (infI f s)=s∧0≤infI f s∧infI f s≤4294967295:=by
 rcases fmt_cases f with ⟨rfl,hf⟩ | ⟨rfl,hf⟩ | ⟨⟨c0,c1⟩,hf⟩ <;> obtain ⟨e1,e2,e3,e4,e5,e6,e7,e8,e9⟩:=hf
 all_goals
  unfold clsI fX fF fS infI zerI
  rw [e3,e4,e5,e7]
  cases s <;> decide

theorem cls_nou (f a:Int) (h:clsI f a=0):unM f a=0:=by
 have c:=cls_cases f a
 have ht:=topx_pos f
 unfold unM
 rw [if_neg (by omega),if_pos (by omega)];omega

theorem cls_bd (f a:Int):0≤clsI f a∧clsI f a≤5:=by unfold clsI;(repeat' split) <;> omega

theorem bad_is (f a b:Int):badB f a b=((clsI f a==0 || clsI f b==0)&&(clsI f a==3 || clsI f b==3)):=by
 unfold badB nouB infB
 obtain ⟨a0,a1⟩:=cls_bd f a
 obtain ⟨b0,b1⟩:=cls_bd f b
 generalize clsI f a=A at*
 generalize clsI f b=B at*
 rw [Bool.eq_iff_iff]
 simp
 omega

theorem nan_three:∀ x4 x5 y4 y5 z4 z5 l:Bool,((x4 || x5) || (y4 || y5) || (z4 || z5) || l)=((x5 || y5 || z5) || l || (x4 || y4 || z4)):=by decide

theorem nan_two:∀ x4 x5 y4 y5:Bool,((x4 || x5) || (y4 || y5))=((x5 || y5) || (x4 || y4)):=by decide

theorem mul_prog (f mode a b:Int) (G L Q I:Bool) (hG:(clsI f a==5 || clsI f b==5)=G) (hL:((clsI f a==0 || clsI f b==0)&&(clsI f a==3 || clsI f b==3))=L) (hQ:(clsI f a==4 || clsI f b==4)=Q) (hI:(clsI f a==3 || clsI f b==3)=I):
  mulE f mode a b=if (G || L || Q)=true then excE (nanI f) (G || L) else if I=true then excE (infI f (sgP f a b)) false else PackE f mode (sgP f a b) (valN (clampE (unE f a+unE f b)) (unM f a*unM f b) false):=by
 have hn:(nanB f a || nanB f b)=(G || Q):=by rw [←hG,←hQ];exact nan_two _ _ _ _
 have hs:(sigB f a || sigB f b)=G:=hG
 have hi:(infB f a || infB f b)=I:=hI
 unfold mulE
 rw [hn,hs,hi,bad_is,hL,prod_val]
 have hx:L=true→G=false∧Q=false:=by
  rw [←hL,←hG,←hQ]
  intro h
  simp at h ⊢
  omega
 cases G <;> cases L <;> cases Q <;> simp at hx ⊢

theorem fma_prog (f mode a b c:Int) (G L Q I Z:Bool) (hG:(clsI f a==5 || clsI f b==5 || clsI f c==5)=G) (hL:((clsI f a==0 || clsI f b==0)&&(clsI f a==3 || clsI f b==3))=L) (hQ:(clsI f a==4 || clsI f b==4 || clsI f c==4)=Q) (hI:(clsI f a==3 || clsI f b==3)=I) (hZ:(clsI f a==0 || clsI f b==0)=Z):
  fmaE f mode a b c=if (G || L || Q)=true then excE (nanI f) (G || L) else if I=true then addE f mode (infI f (sgP f a b)) c else if (Z || clsI f c==3)=true then addE f mode (zerI f (sgP f a b)) c
   else finE f mode (sgP f a b) (amtP f a b) (fS f c) (amtE (unE f c) (unM f c)):=by
 have hn:(nanB f a || nanB f b || nanB f c || badB f a b)=(G || L || Q):=by rw [←hG,←hQ,bad_is,hL];exact nan_three _ _ _ _ _ _ _
 have hs:(sigB f a || sigB f b || sigB f c)=G:=hG
 have hi:(infB f a || infB f b)=I:=hI
 unfold fmaE
 rw [hn,hs,hi,bad_is,hL]
 by_cases h:(G || L || Q)=true
 ·rw [if_pos h,if_pos h]
 ·rw [if_neg h,if_neg h]
  have hc:nanB f c=false:=by
   have h':=(Bool.not_eq_true _).mp h
   rw [←hG,←hQ] at h'
   unfold nanB
   cases x5:(clsI f c==5) <;> cases x4:(clsI f c==4) <;> simp_all
  have hL':L=false:=by cases L <;> simp_all
  obtain ⟨i1,i2,i3,i4⟩:=inf_parts f (sgP f a b)
  obtain ⟨z1,z2,z3,z4,z5⟩:=zer_parts f (sgP f a b)
  obtain ⟨m1,m2,m3,m4⟩:=nou_parts f _ z1 z2
  have j1:nanB f (infI f (sgP f a b))=false:=by unfold nanB;rw [i1];rfl
  have j2:infB f (infI f (sgP f a b))=true:=by unfold infB;rw [i1];rfl
  by_cases hI':I=true
  ·rw [if_pos hI',if_pos hI']
   have e:(sgP f a b != fS f c)=(fS f c != sgP f a b):=by cases sgP f a b <;> cases fS f c <;> rfl
   unfold addE
   simp only [j1,j2,hc,i2,Bool.or_self,Bool.true_and,Bool.false_eq_true,if_false,if_true,e]
  ·rw [if_neg hI',if_neg hI']
   have ad:addE f mode (zerI f (sgP f a b)) c=if infB f c=true then excE (infI f (fS f c)) false else finE f mode (sgP f a b) 0 (fS f c) (amtE (unE f c) (unM f c)):=by
    unfold addE
    rw [m1,m3,m4,z3,hc,if_neg (by decide),if_neg (by simp),if_neg (by decide)]
   rw [ad]
   by_cases hC:infB f c=true
   ·rw [if_pos hC,if_pos hC]
    have:(clsI f c==3)=true:=hC
    rw [this,Bool.or_true,if_pos rfl]
   ·rw [if_neg hC,if_neg hC]
    have hC':(clsI f c==3)=false:=(Bool.not_eq_true _).mp hC
    rw [hC',Bool.or_false]
    by_cases hZ':Z=true
    ·rw [if_pos hZ']
     have hz:amtP f a b=0:=by
      rw [amtP_zero]
      rw [←hZ] at hZ'
      simp at hZ'
      rcases hZ' with g | g
      ·left;exact cls_nou f a g
      ·right;exact cls_nou f b g
     rw [hz]
    ·rw [if_neg hZ']

theorem fin_third (f mode:Int) (a b c:Int) (h:clsI f c=0) (hp:0<amtP f a b):finE f mode (sgP f a b) (amtP f a b) (fS f c) (amtE (unE f c) (unM f c))=PackE f mode (sgP f a b) (valN (clampE (unE f a+unE f b)) (unM f a*unM f b) false):=by
 rw [(amt_zero _ _ (unM_bd f c).1).2 (cls_nou f c h),prod_val]
 by_cases g:sgP f a b=fS f c
 ·rw [←g,fin_like f mode _ _ _ (by omega),Nat.add_zero]
 ·rw [fin_more f mode _ _ _ _ g hp,Nat.sub_zero]

def quoN (M N k:Nat):Nat:=M*2^k / N

def quoB (M N k:Nat):Bool:=decide (M*2^k%N≠0)

def quoE (f mode:Int) (s:Bool) (e:Int) (M N:Nat):Ending:=PackE f mode s (quoN M N 100*2^(e - 100+10100).toNat+(quoB M N 100).toNat)

theorem quo_cut (M N k d:Nat) (hN:0<N):quoN M N (k+d) / 2^d=quoN M N k∧(quoB M N k=true↔(quoN M N (k+d)%2^d≠0∨quoB M N (k+d)=true)):=by
 have hd:=np2 d
 unfold quoN quoB
 rw [Nat.pow_add,←Nat.mul_assoc]
 generalize M*2^k=A
 have e1:A*2^d / N / 2^d=A / N:=by
  rw [Nat.div_div_eq_div_mul,Nat.mul_div_mul_right _ _ hd]
 refine ⟨e1,?_⟩
 simp only [decide_eq_true_eq]
 have a:=Nat.div_add_mod A N
 have b:=Nat.div_add_mod (A*2^d) N
 have c:=Nat.div_add_mod (A*2^d / N) (2^d)
 rw [e1] at c
 have la:=Nat.mod_lt A hN
 have lb:=Nat.mod_lt (A*2^d) hN
 constructor
 ·intro h
  by_cases g:A*2^d / N%2^d=0
  ·right
   intro h2
   apply h
   rw [g,Nat.add_zero] at c
   rw [h2,Nat.add_zero,←c] at b
   have:N*(A / N)*2^d=A*2^d:=by rw [←b,Nat.mul_assoc,Nat.mul_comm (A / N)]
   have:=Nat.eq_of_mul_eq_mul_right hd this
   omega
  ·exact .inl g
 ·intro h h0
  rw [h0,Nat.add_zero] at a
  have e2:A*2^d=N*(A / N*2^d):=by rw [←Nat.mul_assoc,a]
  rcases h with h | h
  ·apply h
   rw [e2,Nat.mul_div_cancel_left _ hN,Nat.mul_mod_left]
  ·apply h
   rw [e2,Nat.mul_mod_right]

theorem cut_alike (f mode:Int) (s:Bool) (X Y:Nat) (p q:Bool) (d E:Nat) (hX:Y / 2^d=X) (hp:p=true↔(Y%2^d≠0∨q=true)) (hE:1≤E) (hb:2^(fn f+3)≤X):
  PackE f mode s (X*2^(d+E)+p.toNat)=PackE f mode s (Y*2^E+q.toNat):=by
 have hd:=np2 d
 have h2:2≤2^E:=Nat.pow_le_pow_right (n:=2) (by decide) hE
 have hq:q.toNat≤1:=Bool.toNat_le _
 have hm:=Nat.mod_lt Y hd
 have hY:=Nat.div_add_mod Y (2^d)
 rw [hX] at hY
 have e:Y*2^E+q.toNat=X*2^(d+E)+(Y%2^d*2^E+q.toNat):=by
  rw [←hY,Nat.pow_add,Nat.add_mul,←Nat.mul_assoc,Nat.mul_comm (2^d) X]
  have:(2^d*X+Y%2^d)%2^d=Y%2^d:=by rw [hY]
  rw [Nat.mul_comm X (2^d),this];omega
 rw [e]
 refine sticky_sum f mode s X (d+E) _ p hb ?_ ?_ (by omega)
 ·have h1:(Y%2^d+1)*2^E≤2^d*2^E:=Nat.mul_le_mul_right _ hm
  rw [Nat.add_mul] at h1
  rw [Nat.pow_add];omega
 ·rw [hp]
  have z:=mul_nz (Y%2^d) _ (np2 E)
  cases q
  ·simp only [Bool.false_eq_true,or_false,Bool.toNat_false,Nat.add_zero];exact z.symm
  ·simp

theorem quo_is (f mode:Int) (s:Bool) (e:Int) (M N k:Nat) (hN:0<N) (hk:k≤100) (h0:-9000≤e) (h1:e≤9000) (hb:2^(fn f+3)≤quoN M N k):
  PackE f mode s (valN (clampE (e - k)) (quoN M N k:Int) (quoB M N k))=quoE f mode s e M N:=by
 obtain ⟨d,hd⟩:∃ d,k+d=100:=⟨100 - k,by omega⟩
 obtain ⟨a,b⟩:=quo_cut M N k d hN
 rw [hd] at a b
 unfold quoE
 rw [toNat_val (e - k) _ _ (quoN M N k) (d+(e - 100+10100).toNat) (by rw [clamp_in _ (by omega) (by omega)];omega) rfl]
 exact cut_alike f mode s _ _ _ _ d _ a b (by omega) hb

theorem quo_scale (M N i j k:Nat) (hN:0<N) (h:j≤i+k):quoN (M*2^i) (N*2^j) k=quoN M N (i+k - j)∧quoB (M*2^i) (N*2^j) k=quoB M N (i+k - j):=by
 have e:M*2^i*2^k=M*2^(i+k - j)*2^j:=by
  rw [Nat.mul_assoc,←Nat.pow_add,Nat.mul_assoc,←Nat.pow_add];congr 2;omega
 unfold quoN quoB
 rw [e,Nat.mul_div_mul_right _ _ (np2 j),Nat.mul_mod_mul_right]
 refine ⟨rfl,?_⟩
 congr 1
 rw [eq_iff_iff,Nat.mul_ne_zero_iff]
 have:=np2 j
 omega

def divZ (v:Int):Ending:=.returned (.tuple #[.int .u32 v,.agg #[.bool false,.bool true,.bool false,.bool false,.bool false]])

theorem divZ_is (v:Int):.returned (.tuple #[.int .u32 v,.agg #[.bool false,.bool true,.bool false,.bool false,.bool false]])=divZ v:=rfl

def divE (f mode a b:Int):Ending:=
 if (nanB f a || nanB f b)=true then excE (nanI f) (sigB f a || sigB f b)
 else if (nouB f a&&nouB f b || infB f a&&infB f b)=true then excE (nanI f) true
 else if infB f a=true then excE (infI f (sgP f a b)) false
 else if (infB f b || nouB f a)=true then excE (zerI f (sgP f a b)) false
 else if nouB f b=true then divZ (infI f (sgP f a b))
 else quoE f mode (sgP f a b) (unE f a - unE f b) (unM f a).toNat (unM f b).toNat

theorem num_pos (f a:Int) (h:nanB f a=false) (z:nouB f a=false) (i:infB f a=false):0<unM f a:=by
 have n:=nou_is f a (fin_of f a h i)
 rw [amt_zero _ _ (unM_bd f a).1] at n
 have:=(unM_bd f a).1
 have:unM f a≠0:=fun g=>by rw [n.2 g] at z;exact absurd z (by decide)
 omega

theorem rquo_is (f mode:Int) (s:Bool) (x y M K:Int) (i j:Nat) (m0:0<M) (k0:0<K) (hx:-200≤x) (hx1:x≤200) (hy:-200≤y) (hy1:y≤200) (hi:i≤23) (hj:j≤23) (hM:8388608≤M*2^i) (hM2:M*2^i<16777216) (hK:8388608≤K*2^j) (hK2:K*2^j<16777216):
  PackE f mode s (valN (clampE (x - (i:Int) - (y - (j:Int)) - 40)) (M*2^i*1099511627776 / (K*2^j)) (decide (M*2^i*1099511627776%(K*2^j)≠0)))=quoE f mode s (x - y) M.toNat K.toNat:=by
 obtain ⟨A,rfl⟩:=Int.eq_ofNat_of_zero_le (Int.le_of_lt m0)
 obtain ⟨B,rfl⟩:=Int.eq_ofNat_of_zero_le (Int.le_of_lt k0)
 rw [Int.toNat_natCast,Int.toNat_natCast]
 rw [pow2_cast,←Int.natCast_mul] at hM hM2
 rw [pow2_cast,←Int.natCast_mul] at hK hK2
 obtain ⟨q1,q2⟩:=quo_scale A B i j 40 (by omega) (by omega)
 have hb:2^(fn f+3)≤quoN A B (i+40 - j):=by
  rw [←q1]
  unfold quoN
  have h26:2^(fn f+3)≤67108864:=by
   have h:2^(fn f+3)≤2^26:=Nat.pow_le_pow_right (by decide) (by have:=fn_bd f;omega)
   exact h
  generalize A*2^i=P at hM hM2 ⊢
  generalize B*2^j=R at hK hK2 ⊢
  refine Nat.le_trans h26 ((Nat.le_div_iff_mul_le (by omega)).2 ?_)
  rw [show (2:Nat)^40=1099511627776 from rfl]
  omega
 have h:=quo_is f mode s (x - y) A B (i+40 - j) (by omega) (by omega) (by omega) (by omega) hb
 rw [←h,←q1,←q2]
 have e1:(A:Int)*2^i*1099511627776 / ((B:Int)*2^j)=((quoN (A*2^i) (B*2^j) 40:Nat):Int):=by
  unfold quoN
  rw [pow2_cast i,pow2_cast j,←Int.natCast_mul,←Int.natCast_mul,show (1099511627776:Int)=((2^40:Nat):Int) from rfl,←Int.natCast_mul,←Int.natCast_ediv]
 have e2:decide ((A:Int)*2^i*1099511627776%((B:Int)*2^j)≠0)=quoB (A*2^i) (B*2^j) 40:=by
  unfold quoB
  rw [pow2_cast i,pow2_cast j,←Int.natCast_mul,←Int.natCast_mul,show (1099511627776:Int)=((2^40:Nat):Int) from rfl,←Int.natCast_mul,←Int.natCast_emod]
  congr 1
  rw [eq_iff_iff];omega
 rw [e1,e2,show x - (i:Int) - (y - (j:Int)) - 40=x - y - ((i+40 - j:Nat):Int) by omega]
end Go.Proofs.YteifobleigfbaaaGreat
