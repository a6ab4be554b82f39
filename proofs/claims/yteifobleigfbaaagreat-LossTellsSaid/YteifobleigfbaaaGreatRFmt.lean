/- Contracts of the reference's formats: what each call comes to. The contract of the draws' numbers: some bits of the format, with memory made. The contract of the draws' mild numbers. The contract of the draws' numbers, told by a number of its own. -/
import Derived.Test.YteifobleigfbaaaGreatRows
import Derived.Test.YteifobleigfbaaaGreatMath
import Derived.Deep.QuietTactic
import Derived.BigQuiet
import Derived.Test.YteifobleigfbaaaGreatWorld
import Derived.BigRegion
import Derived.Lib.SmallJoins
import Derived.Lib.Hide
import Derived.Handy
namespace Go.Proofs.YteifobleigfbaaaGreat
open Go.RowKit
set_option linter.unusedVariables false
set_option linter.unusedSimpArgs false

set_option maxHeartbeats 1000000 in
theorem rwidths_any (f:Int) (w:World):
  Calls Tryz.prog 48 #[.int .i64 f] w fun e w'=>e=.returned (.tuple #[.int .i64 (fe f),.int .i64 (fn f)])∧w=w':=by
 rcases fmt_cases f with ⟨rfl,hf⟩ | ⟨rfl,hf⟩ | ⟨⟨c0,c1⟩,hf⟩ <;> obtain ⟨e1,e2,e3,e4,e5,e6,e7,e8,e9⟩:=hf
 all_goals
  go_enter Tryz.func48,Tryz.ntmps48
  go_wp2
  go_ret2
  exact ⟨by rw [e1,e2];rfl,rfl⟩

set_option maxHeartbeats 1000000 in
theorem rmask_any (f:Int) (w:World):
  Calls Tryz.prog 61 #[.int .i64 f] w fun e w'=>e=.returned (.int .u32 (msk f))∧w=w':=by
 rcases fmt_cases f with ⟨rfl,hf⟩ | ⟨rfl,hf⟩ | ⟨⟨c0,c1⟩,hf⟩ <;> obtain ⟨e1,e2,e3,e4,e5,e6,e7,e8,e9⟩:=hf
 all_goals
  go_enter Tryz.func61,Tryz.ntmps61
  go_wp2_with (first | (go_at_call 48;refine (rwidths_any _ _).mono ?_;rintro e w' ⟨rfl,rfl⟩))
  go_ret
  exact ⟨by rw [e8];rfl,rfl⟩

set_option maxHeartbeats 1000000 in
theorem rparts_any (f:Int) (v:Int) (w:World) (h0:0≤v) (h1:v≤4294967295):
  Calls Tryz.prog 94 #[.int .i64 f,.int .u32 v] w fun e w'=>e=.returned (.tuple #[.bool (fS f v),.int .i64 (fX f v),.int .u64 (fF f v)])∧∃ m,w'=w.drewN m:=by
 have q1:=fX_bd f v
 have q2:=fF_bd f v
 have kc:=cls_cases f v
 rcases fmt_cases f with ⟨rfl,hf⟩ | ⟨rfl,hf⟩ | ⟨⟨c0,c1⟩,hf⟩ <;> obtain ⟨e1,e2,e3,e4,e5,e6,e7,e8,e9⟩:=hf
 all_goals
  rw [e4] at q1
  rw [e3] at q2
  rw [e4,e7] at kc
  go_enter Tryz.func94,Tryz.ntmps94
  go_wp2_with (first | (go_at_call 48;refine (rwidths_any _ _).mono ?_;rintro e w' ⟨rfl,rfl⟩) | (go_at_call 61;refine (rmask_any _ _).mono ?_;rintro e w' ⟨rfl,rfl⟩))
  try (go_quiet (fail);go_wp2)
  go_ret3
  refine ⟨ret_unp ?_ ?_ ?_,_,rfl⟩
  ·first | exact rparts_s _ v 16 15 h0 h1 (by decide) (by decide) (by decide) rfl e5 | exact rparts_s _ v 32 31 h0 h1 (by decide) (by decide) (by decide) rfl e5
  ·try rw [and32 v 16 (p:=65536) h0 h1 (by decide) (by decide) (by decide)]
   try rw [and32 v 32 (p:=4294967296) h0 h1 (by decide) (by decide) (by decide)]
   unfold fX;rw [e3,e4]
   try rw [and32 _ 5 (p:=32) (by omega) (by omega) (by decide) (by decide) (by decide)]
   try rw [and32 _ 8 (p:=256) (by omega) (by omega) (by decide) (by decide) (by decide)]
   simp only [wrap64];omega
  ·try rw [and32 v 16 (p:=65536) h0 h1 (by decide) (by decide) (by decide)]
   try rw [and32 v 32 (p:=4294967296) h0 h1 (by decide) (by decide) (by decide)]
   unfold fF;rw [e3]
   try rw [and32 _ 10 (p:=1024) (by omega) (by omega) (by decide) (by decide) (by decide)]
   try rw [and32 _ 7 (p:=128) (by omega) (by omega) (by decide) (by decide) (by decide)]
   try rw [and32 _ 23 (p:=8388608) (by omega) (by omega) (by decide) (by decide) (by decide)]
   rw [IntKind.wrap_u64];omega

set_option maxHeartbeats 1000000 in
theorem rclass_any (f:Int) (v:Int) (w:World) (h0:0≤v) (h1:v≤4294967295):
  Calls Tryz.prog 54 #[.int .i64 f,.int .u32 v] w fun e w'=>e=.returned (.int .i64 (clsI f v))∧∃ m,w'=w.drewN m:=by
 have q1:=fX_bd f v
 have q2:=fF_bd f v
 have kc:=cls_cases f v
 rcases fmt_cases f with ⟨rfl,hf⟩ | ⟨rfl,hf⟩ | ⟨⟨c0,c1⟩,hf⟩ <;> obtain ⟨e1,e2,e3,e4,e5,e6,e7,e8,e9⟩:=hf
 all_goals
  rw [e4] at q1
  rw [e3] at q2
  rw [e4,e7] at kc
  go_enter Tryz.func54,Tryz.ntmps54
  go_wp2_with (first | (go_at_call 48;refine (rwidths_any _ _).mono ?_;rintro e w' ⟨rfl,rfl⟩) | (go_at_call 94;refine (rparts_any _ _ _ h0 h1).mono ?_;rintro e w' ⟨rfl,m,rfl⟩))
  all_goals
   go_ret
   exact ⟨ret_int (by unfold clsI;rw [e4,e7];simp only [beq_iff_eq,beq_eq_false_iff_ne,ne_eq,decide_eq_true_eq,decide_eq_false_iff_not] at *;(repeat' split) <;> omega),_,rfl⟩

set_option maxHeartbeats 1000000 in
theorem rfinite_any (f:Int) (v:Int) (w:World) (h0:0≤v) (h1:v≤4294967295):
  Calls Tryz.prog 23 #[.int .i64 f,.int .u32 v] w fun e w'=>e=.returned (.bool (finI f v))∧∃ m,w'=w.drewN m:=by
 have q1:=fX_bd f v
 have q2:=fF_bd f v
 have kc:=cls_cases f v
 rcases fmt_cases f with ⟨rfl,hf⟩ | ⟨rfl,hf⟩ | ⟨⟨c0,c1⟩,hf⟩ <;> obtain ⟨e1,e2,e3,e4,e5,e6,e7,e8,e9⟩:=hf
 all_goals
  rw [e4] at q1
  rw [e3] at q2
  rw [e4,e7] at kc
  go_enter Tryz.func23,Tryz.ntmps23
  go_wp2_with (first | (go_at_call 54;refine (rclass_any _ _ _ h0 h1).mono ?_;rintro e w' ⟨rfl,m,rfl⟩))
  all_goals
   go_ret
   exact ⟨ret_bool (by unfold finI clsI;rw [e4,e7];(repeat' split) <;> simp <;> omega),_,rfl⟩

set_option maxHeartbeats 1000000 in
theorem rbias_any (f:Int) (w:World):
  Calls Tryz.prog 95 #[.int .i64 f] w fun e w'=>e=.returned (.int .i64 (bia f))∧w=w':=by
 rcases fmt_cases f with ⟨rfl,hf⟩ | ⟨rfl,hf⟩ | ⟨⟨c0,c1⟩,hf⟩ <;> obtain ⟨e1,e2,e3,e4,e5,e6,e7,e8,e9⟩:=hf
 all_goals
  go_enter Tryz.func95,Tryz.ntmps95
  go_wp2_with (first | (go_at_call 48;refine (rwidths_any _ _).mono ?_;rintro e w' ⟨rfl,rfl⟩))
  go_ret
  exact ⟨by rw [e9];rfl,rfl⟩

set_option maxHeartbeats 1000000 in
theorem runpack_any (f:Int) (v:Int) (w:World) (h0:0≤v) (h1:v≤4294967295):
  Calls Tryz.prog 53 #[.int .i64 f,.int .u32 v] w fun e w'=>e=.returned (.tuple #[.bool (fS f v),.int .i64 (unE f v),.int .u64 (unM f v)])∧∃ m,w'=w.drewN m:=by
 have q1:=fX_bd f v
 have q2:=fF_bd f v
 have kc:=cls_cases f v
 rcases fmt_cases f with ⟨rfl,hf⟩ | ⟨rfl,hf⟩ | ⟨⟨c0,c1⟩,hf⟩ <;> obtain ⟨e1,e2,e3,e4,e5,e6,e7,e8,e9⟩:=hf
 all_goals
  rw [e4] at q1
  rw [e3] at q2
  rw [e4,e7] at kc
  go_enter Tryz.func53,Tryz.ntmps53
  go_wp2_with (first | (go_at_call 48;refine (rwidths_any _ _).mono ?_;rintro e w' ⟨rfl,rfl⟩) | (go_at_call 94;refine (rparts_any _ _ _ h0 h1).mono ?_;rintro e W1 ⟨rfl,hW1⟩) | (go_at_call 54;refine (rclass_any _ _ _ h0 h1).mono ?_;rintro e W2 ⟨rfl,hW2⟩) | (go_at_call 95;refine (rbias_any _ _).mono ?_;rintro e w' ⟨rfl,rfl⟩))
  go_quiet ((go_at_call 95;exact quiet_same (rbias_any _ _)))
  all_goals (try go_wp2)
  all_goals
   go_ret3
   refine ⟨ret_unp ?_ ?_ ?_,by obtain ⟨a,rfl⟩:=hW1;obtain ⟨b,rfl⟩:=hW2;simp only [World.drewN_drewN];exact ⟨_,rfl⟩⟩
   ·rfl
   ·simp only [beq_iff_eq,beq_eq_false_iff_ne,ne_eq] at *;unfold unE;rw [e4,e6];(repeat' split) <;> omega
   ·try rw [un_or64 _ v 10 (by decide) e3 (by decide)]
    try rw [un_or64 _ v 7 (by decide) e3 (by decide)]
    try rw [un_or64 _ v 23 (by decide) e3 (by decide)]
    simp only [beq_iff_eq,beq_eq_false_iff_ne,ne_eq] at *;unfold unM;rw [e4,e3];(repeat' split) <;> omega

set_option maxHeartbeats 1000000 in
theorem rsign_any (f:Int) (neg:Bool) (w:World):
  Calls Tryz.prog 87 #[.int .i64 f,.bool neg] w fun e w'=>e=.returned (.int .u32 (zerI f neg))∧w=w':=by
 rcases fmt_cases f with ⟨rfl,hf⟩ | ⟨rfl,hf⟩ | ⟨⟨c0,c1⟩,hf⟩ <;> obtain ⟨e1,e2,e3,e4,e5,e6,e7,e8,e9⟩:=hf
 all_goals
  go_enter Tryz.func87,Tryz.ntmps87
  cases neg
  all_goals
   go_wp2_with (first | (go_at_call 48;refine (rwidths_any _ _).mono ?_;rintro e w' ⟨rfl,rfl⟩))
   go_ret
   exact ⟨by simp only [zerI,e5];rfl,rfl⟩

set_option maxHeartbeats 1000000 in
theorem rzero_any (f:Int) (neg:Bool) (w:World):
  Calls Tryz.prog 49 #[.int .i64 f,.bool neg] w fun e w'=>e=.returned (.int .u32 (zerI f neg))∧w=w':=by
 rcases fmt_cases f with ⟨rfl,hf⟩ | ⟨rfl,hf⟩ | ⟨⟨c0,c1⟩,hf⟩ <;> obtain ⟨e1,e2,e3,e4,e5,e6,e7,e8,e9⟩:=hf
 all_goals
  go_enter Tryz.func49,Tryz.ntmps49
  go_wp2_with (first | (go_at_call 87;refine (rsign_any _ _ _).mono ?_;rintro e w' ⟨rfl,rfl⟩))
  go_ret
  exact ⟨rfl,rfl⟩

set_option maxHeartbeats 1000000 in
theorem rinf_any (f:Int) (neg:Bool) (w:World):
  Calls Tryz.prog 91 #[.int .i64 f,.bool neg] w fun e w'=>e=.returned (.int .u32 (infI f neg))∧∃ m,w'=w.drewN m:=by
 rcases fmt_cases f with ⟨rfl,hf⟩ | ⟨rfl,hf⟩ | ⟨⟨c0,c1⟩,hf⟩ <;> obtain ⟨e1,e2,e3,e4,e5,e6,e7,e8,e9⟩:=hf
 all_goals
  go_enter Tryz.func91,Tryz.ntmps91
  cases neg
  all_goals
   go_wp2_with (first | (go_at_call 48;refine (rwidths_any _ _).mono ?_;rintro e w' ⟨rfl,rfl⟩))
   go_quiet ((go_at_call 87;exact quiet_same (rsign_any _ _ _)))
   go_wp2
   go_ret
   exact ⟨ret_int (by simp only [infI,zerI,e3,e4,e5];decide),_,rfl⟩

set_option maxHeartbeats 1000000 in
theorem rgreatest_any (f:Int) (neg:Bool) (w:World):
  Calls Tryz.prog 171 #[.int .i64 f,.bool neg] w fun e w'=>e=.returned (.int .u32 (greI f neg))∧∃ m,w'=w.drewN m:=by
 rcases fmt_cases f with ⟨rfl,hf⟩ | ⟨rfl,hf⟩ | ⟨⟨c0,c1⟩,hf⟩ <;> obtain ⟨e1,e2,e3,e4,e5,e6,e7,e8,e9⟩:=hf
 all_goals
  go_enter Tryz.func171,Tryz.ntmps171
  cases neg
  all_goals
   go_wp2_with (first | (go_at_call 91;refine (rinf_any _ _ _).mono ?_;rintro e w' ⟨rfl,m,rfl⟩))
   go_ret
   exact ⟨ret_int (by simp only [greI,infI,zerI,e3,e4,e5];decide),_,rfl⟩

set_option maxHeartbeats 1000000 in
theorem rnan_any (f:Int) (w:World):
  Calls Tryz.prog 88 #[.int .i64 f] w fun e w'=>e=.returned (.int .u32 (nanI f))∧∃ m,w'=w.drewN m:=by
 rcases fmt_cases f with ⟨rfl,hf⟩ | ⟨rfl,hf⟩ | ⟨⟨c0,c1⟩,hf⟩ <;> obtain ⟨e1,e2,e3,e4,e5,e6,e7,e8,e9⟩:=hf
 all_goals
  go_enter Tryz.func88,Tryz.ntmps88
  go_wp2_with (first | (go_at_call 48;refine (rwidths_any _ _).mono ?_;rintro e w' ⟨rfl,rfl⟩))
  go_quiet ((go_at_call 91;exact quiet_drew (rinf_any _ _ _)))
  go_wp2
  all_goals
   go_ret
   exact ⟨ret_int (by simp only [nanI,infI,zerI,e3,e4,e5,e7];decide),_,rfl⟩

def milA (f k:Int):Int:=bia f*hid f - 2*hid f+k / 8%(4*hid f)

def milI (f k:Int):Int:=if k%7=0 then 0 else if k%2=1 then milA f k+sgb f else milA f k

set_option maxHeartbeats 4000000 in
theorem mild_is (f k:Int) (w:World) (h0:0≤k) (h1:k≤4294967295):
  Calls Tryz.prog 18 #[.int .i64 f,.int .u32 k] w fun e w'=>e=.returned (.int .u32 (milI f k))∧∃ m,w'=w.drewN m:=by
 have h7:k.tmod 7=k%7:=Int.tmod_eq_emod_of_nonneg h0
 by_cases c7:k%7=0
 ·have HM:=Lib.hid (show milI f k=0 from if_pos c7)
  have cb:(k%7==0)=true:=by simpa using c7
  clear h7
  go_enter Tryz.func18,Tryz.ntmps18
  go_wp2
  go_ret
  exact ⟨ret_int HM.out.symm,0,rfl⟩
 ·have cb:(k%7==0)=false:=by simpa using c7
  have HM:=Lib.hid (show milI f k=if k%2=1 then milA f k+sgb f else milA f k from if_neg c7)
  clear h7 c7
  have hand:bits .and .u32 k 1=k%2:=by
   have:=and32 k 1 (m:=1) (p:=2) h0 h1 (by decide) (by decide) (by decide)
   simpa using this
  rcases fmt_cases f with ⟨rfl,hf⟩ | ⟨rfl,hf⟩ | ⟨⟨c0,c1⟩,hf⟩ <;> obtain ⟨e1,e2,e3,e4,e5,e6,e7,e8,e9⟩:=hf
  all_goals
   have HA:=Lib.hid (show milA _ k=_ by unfold milA;rw [e9,e3])
   rcases Int.emod_two_eq k with c2 | c2
   all_goals
    have HB:=Lib.hid c2
    rw [c2] at hand
    clear c2
    go_enter Tryz.func18,Tryz.ntmps18
    go_wp2_with (go_at_call 48;refine (rwidths_any _ _).mono ?_;rintro e w' ⟨rfl,rfl⟩)
    have z1:IntKind.u32.wrap 2048=2048:=by decide
    have z2:IntKind.u32.wrap 4096=4096:=by decide
    have z3:IntKind.u32.wrap 256=256:=by decide
    have z4:IntKind.u32.wrap 512=512:=by decide
    have z5:IntKind.u32.wrap 16777216=16777216:=by decide
    have z6:IntKind.u32.wrap 33554432=33554432:=by decide
    go_quiet (fail)
    clear z1 z2 z3 z4 z5 z6
    go_wp2_with (go_at_call 49;refine (rzero_any _ _ _).mono ?_;rintro e w' ⟨rfl,rfl⟩)
    go_ret
    refine ⟨ret_int ?_,_,rfl⟩
    rw [HM.out,HB.out,HA.out]
    first
     | (rw [if_neg (by decide)];omega)
     | (rw [if_pos rfl,or_zer _ _ true (by omega) (by rw [e5];omega)];rw [show ∀ g,zerI g true=sgb g from fun _=>rfl];omega)

theorem mil_bd (f k:Int) (h0:0≤k):0≤milI f k∧milI f k≤4294967295:=by
 unfold milI milA
 rcases fmt_cases f with ⟨rfl,hf⟩ | ⟨rfl,hf⟩ | ⟨⟨c0,c1⟩,hf⟩ <;> obtain ⟨e1,e2,e3,e4,e5,e6,e7,e8,e9⟩:=hf
 all_goals
  rw [e9,e3,e5]
  (repeat' split) <;> omega

def numL (f k:Int):List Int:=
 if f=0 then [0,1,1023,1024,15360,15361,15359,16384,15360+k / 16%3072,31743,31744,bits .or .u32 31744 1,bits .or .u32 31744 512,15360 - k / 16%9216,k / 16]
 else if f=1 then [0,1,127,128,16256,16257,16255,16384,16256+k / 16%384,32639,32640,bits .or .u32 32640 1,bits .or .u32 32640 64,16256 - k / 16%1152,k / 16]
 else [0,1,8388607,8388608,1065353216,1065353217,1065353215,1073741824,1065353216+k / 16%25165824,2139095039,2139095040,bits .or .u32 2139095040 1,bits .or .u32 2139095040 4194304,1065353216 - k / 16%75497472,k / 16]

theorem numL_len (f k:Int):(numL f k).length=15:=by unfold numL;(repeat' split) <;> rfl

def numX (f k:Int):Int:=(numL f k).getD (k%15).toNat 0

def numI (f k:Int):Int:=if 2147483648≤k then bits .or .u32 (bits .and .u32 (numX f k) (msk f)) (zerI f true) else bits .and .u32 (numX f k) (msk f)

theorem list_new {w W:World} {C:Array Value} {L:List Int} {t:TypeId} (hW:(w.alloc (.cells C t)).drew=W) (hC:C=(L.map fun x=>Value.int .u32 x).toArray) (j:Nat) (hj:j<L.length):
  W.cell? ⟨w.heap.size,j,none⟩=some (.int .u32 (L.getD j 0)):=by
 subst hW hC
 have:=World.cell?_alloc_mark w (L.map fun x=>Value.int .u32 x).toArray t (0,0) j
 rw [show ((w.alloc (.cells (L.map fun x=>Value.int .u32 x).toArray t)).drew).cell? ⟨w.heap.size,j,none⟩=(w.alloc (.cells (L.map fun x=>Value.int .u32 x).toArray t)).cell? ⟨w.heap.size,j,none⟩ from rfl]
 rw [this];simp [hj]

theorem numI_bd (f k:Int) (k0:0≤k) (k1:k≤4294967295):0≤numI f k∧numI f k≤4294967295:=by
 have:∀ (o:BinOp) (a b:Int),0≤bits o .u32 a b∧bits o .u32 a b≤4294967295:=fun o a b=>by
  obtain ⟨x,e,h0,h1⟩:=is_word_bits o a b
  cases e;exact ⟨h0,h1⟩
 unfold numI
 split <;> exact this _ _ _

set_option maxHeartbeats 4000000 in
theorem num_is (f k:Int) (w:World) (h0:0≤k) (h1:k≤4294967295):
  Calls Tryz.prog 25 #[.int .i64 f,.int .u32 k] w fun e w'=>e=.returned (.int .u32 (numI f k))∧Grown w w':=by
 have k0:0≤k%15:=by omega
 have k1:k%15<15:=by omega
 obtain ⟨M,hM⟩:∃ M,msk f=M:=⟨_,rfl⟩
 obtain ⟨Z,hZ⟩:∃ Z,zerI f true=Z:=⟨_,rfl⟩
 have HM:=Lib.hid (show Ending.returned (.int .u32 (msk f))=.returned (.int .u32 M) by rw [hM])
 have HZ:=Lib.hid (show Ending.returned (.int .u32 (zerI f true))=.returned (.int .u32 Z) by rw [hZ])
 have HMk:=Lib.hid (show ∀ w,Calls Tryz.prog 61 #[.int .i64 f] w fun e w'=>e=.returned (.int .u32 M)∧w=w' from fun w=>by rw [←hM];exact rmask_any f w)
 have HI:=Lib.hid (show numI f k=if 2147483648≤k then bits .or .u32 (bits .and .u32 (numX f k) M) Z else bits .and .u32 (numX f k) M by unfold numI;rw [hM,hZ])
 obtain ⟨X,hX⟩:∃ X,numX f k=X:=⟨_,rfl⟩
 have HX:=Lib.hid hX
 have hsh:(k / 2147483648==1)=decide (2147483648≤k):=by rw [Bool.eq_iff_iff,beq_iff_eq,decide_eq_true_eq];omega
 clear hM hZ hX
 rcases fmt_cases f with ⟨rfl,hf⟩ | ⟨rfl,hf⟩ | ⟨⟨c0,c1⟩,hf⟩ <;> obtain ⟨e1,e2,e3,e4,e5,e6,e7,e8,e9⟩:=hf
 all_goals
  by_cases hk:2147483648≤k
  all_goals
   first | rw [decide_eq_true hk] at hsh | rw [decide_eq_false hk] at hsh
   go_enter Tryz.func25,Tryz.ntmps25
   go_wp2_with (go_at_call 48;refine (rwidths_any _ _).mono ?_;rintro e w' ⟨rfl,rfl⟩)
   have z1:IntKind.u32.wrap 3072=3072:=by decide
   have z2:IntKind.u32.wrap 9216=9216:=by decide
   have z3:IntKind.u32.wrap 384=384:=by decide
   have z4:IntKind.u32.wrap 1152=1152:=by decide
   have z5:IntKind.u32.wrap 25165824=25165824:=by decide
   have z6:IntKind.u32.wrap 75497472=75497472:=by decide
   go_region
   generalize hW:(w.alloc _).drew=W
   have hG:Grown w W:=hW▸(Grown.alloc (Grown.refl w) _ _).drew
   have y:W.cell? ⟨w.heap.size,(k%15).toNat,none⟩=some (.int .u32 X):=by
    rw [←HX.out]
    first
     | exact list_new (L:=numL 0 k) hW (by unfold numL;rw [if_pos rfl];rfl) _ (by rw [numL_len];omega)
     | exact list_new (L:=numL 1 k) hW (by unfold numL;rw [if_neg (by decide),if_pos rfl];rfl) _ (by rw [numL_len];omega)
     | exact list_new (L:=numL f k) hW (by unfold numL;rw [if_neg (by omega),if_neg (by omega)];rfl) _ (by rw [numL_len];omega)
   have HG:=Lib.hid hG
   clear hW hG
   go_wp2
   go_quiet ((go_at_call 61;exact quiet_same (HMk.out _)))
   go_wp2_with (go_at_call 49;refine (rzero_any _ _ _).mono ?_;rintro e w' ⟨he,rfl⟩;rw [HZ.out] at he;subst he)
   go_ret
   exact ⟨by rw [HI.out,HX.out];first | (rw [if_pos hk];rfl) | (rw [if_neg (by omega)];rfl),grown_more HG.out _⟩
end Go.Proofs.YteifobleigfbaaaGreat
