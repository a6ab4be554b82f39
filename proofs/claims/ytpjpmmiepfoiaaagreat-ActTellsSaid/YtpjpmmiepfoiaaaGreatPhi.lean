/- The contracts of the landed package philox: Block, Word, Uniform, Below. -/
import Derived.Test.YtpjpmmiepfoiaaaGreatRPhi
import Derived.Test.YtpjpmmiepfoiaaaGreatRows
import Derived.Test.YtpjpmmiepfoiaaaGreatFunMath
import Derived.Test.YtpjpmmiepfoiaaaGreatPhiMath
import Derived.Test.YtpjpmmiepfoiaaaGreatRRdT
import Derived.Test.YtpjpmmiepfoiaaaGreatWorld
import Derived.KernelRfl
import Derived.Test.YtpjpmmiepfoiaaaGreatRd
namespace Go.Proofs.YtpjpmmiepfoiaaaGreat
open Go.RowKit
set_option linter.unusedVariables false
set_option linter.unusedSimpArgs false

set_option maxHeartbeats 400000 in
theorem phalves_any (v:Int) (w:World) (v0:0≤v) (v1:v≤18446744073709551615):
  Calls Tryz.prog 92 #[.int .u64 v] w fun e w'=>e=.returned (.tuple #[.int .u32 (v%4294967296),.int .u32 (v / 4294967296)])∧w=w':=by
 have e1:IntKind.u32.wrap (v / 4294967296)=v / 4294967296:=by rw [IntKind.wrap_u32];omega
 go_enter Tryz.func92,Tryz.ntmps92
 go_wp2
 go_ret2
 exact ⟨rfl,rfl⟩

set_option maxHeartbeats 4000000 in
theorem pmixed_any (s:Ph) (w:World) (h:PhW s):
  Calls Tryz.prog 132 #[.agg #[.int .u32 s.k0,.int .u32 s.k1],.agg #[.int .u32 s.c0,.int .u32 s.c1,.int .u32 s.c2,.int .u32 s.c3]] w fun e w'=>e=.returned (phV (phS s))∧Grown w w':=by
 obtain ⟨k0,k1,c0,c1,c2,c3⟩:=s
 obtain ⟨⟨a0,a1⟩,⟨a2,a3⟩,⟨b0,b1⟩,⟨b2,b3⟩,⟨b4,b5⟩,⟨b6,b7⟩⟩:=h
 dsimp only at a0 a1 a2 a3 b0 b1 b2 b3 b4 b5 b6 b7
 have e1:IntKind.u64.wrap (c0*3528531795)=c0*3528531795:=by rw [IntKind.wrap_u64];omega
 have e2:IntKind.u64.wrap (c2*3449720151)=c2*3449720151:=by rw [IntKind.wrap_u64];omega
 simp only [phS,phV,xo]
 go_enter Tryz.func132,Tryz.ntmps132
 go_wp2_with (go_at_call 92;refine (phalves_any _ _ (by omega) (by omega)).mono ?_;rintro e W1 ⟨he,rfl⟩;subst he)
 (try simp only [Exit.inBlock,Exit.then])
 refine bodyPost_ret (v:=phV (phS ⟨k0,k1,c0,c1,c2,c3⟩)) ?_ rfl ⟨rfl,by repeat (first | with_reducible exact Grown.refl _ | with_reducible refine Grown.alloc ?_ _ _)⟩
 rw [results_one_cell rfl]
 simp only [phV,phS,xo]
 go_simp

structure Key2 (b:Nat) (x y:Int) (W:World):Prop where
 lt:b<W.heap.size
 c0:W.cell? ⟨b,0,none⟩=some (.int .u32 x)
 c1:W.cell? ⟨b,1,none⟩=some (.int .u32 y)
 z0:W.frozen? ⟨b,0,none⟩=false
 z1:W.frozen? ⟨b,1,none⟩=false

theorem Key2.grown {b:Nat} {x y:Int} {W W':World} (h:Key2 b x y W) (g:Grown W W'):Key2 b x y W':=
 ⟨Nat.lt_of_lt_of_le h.lt g.2.2,grown_cell g h.c0 h.lt,grown_cell g h.c1 h.lt,by rw [g.2.1];exact h.z0,by rw [g.2.1];exact h.z1⟩

structure Ctr4 (b:Nat) (x y z u:Int) (W:World):Prop where
 lt:b<W.heap.size
 c0:W.cell? ⟨b,0,none⟩=some (.int .u32 x)
 c1:W.cell? ⟨b,1,none⟩=some (.int .u32 y)
 c2:W.cell? ⟨b,2,none⟩=some (.int .u32 z)
 c3:W.cell? ⟨b,3,none⟩=some (.int .u32 u)
 z0:W.frozen? ⟨b,0,none⟩=false
 z1:W.frozen? ⟨b,1,none⟩=false
 z2:W.frozen? ⟨b,2,none⟩=false
 z3:W.frozen? ⟨b,3,none⟩=false

theorem Ctr4.grown {b:Nat} {x y z u:Int} {W W':World} (h:Ctr4 b x y z u W) (g:Grown W W'):Ctr4 b x y z u W':=
 ⟨Nat.lt_of_lt_of_le h.lt g.2.2,grown_cell g h.c0 h.lt,grown_cell g h.c1 h.lt,grown_cell g h.c2 h.lt,grown_cell g h.c3 h.lt,by rw [g.2.1];exact h.z0,by rw [g.2.1];exact h.z1,by rw [g.2.1];exact h.z2,by rw [g.2.1];exact h.z3⟩

def PbRel (w:World) (s:Ph) (i:Value) (W:World):Prop:=∃ k:Nat,k≤10∧i=.int .i64 k∧Key2 w.heap.size (phN s k).k0 (phN s k).k1 W∧Ctr4 (w.heap.size+1) (phN s k).c0 (phN s k).c1 (phN s k).c2 (phN s k).c3 W∧(∃ x y z u,Ctr4 (w.heap.size+2) x y z u W)∧Grown w W

set_option maxRecDepth 100000 in
set_option maxHeartbeats 4000000 in
theorem pblock_any (s:Ph) (w:World) (h:PhW s):
  Calls Tryz.prog 93 #[.agg #[.int .u32 s.k0,.int .u32 s.k1],.agg #[.int .u32 s.c0,.int .u32 s.c1,.int .u32 s.c2,.int .u32 s.c3]] w fun e w'=>e=.returned (phV (phN s 10))∧Grown w w':=by
 go_enter Tryz.func93,Tryz.ntmps93
 go_wp2_with fail
 go_loopw [5] (fun i wr=>PbRel w s i wr) (fun i _=>(10 - intOf i).toNat)
 case atStart=>
  refine ⟨0,by decide,rfl,⟨?_,?_,?_,?_,?_⟩,⟨?_,?_,?_,?_,?_,?_,?_,?_,?_⟩,⟨0,0,0,0,⟨?_,?_,?_,?_,?_,?_,?_,?_,?_⟩⟩,by repeat (first | with_reducible exact Grown.refl _ | with_reducible refine Grown.alloc ?_ _ _)⟩
  all_goals (try simp only [phN])
  all_goals go_simp
 case round=>
  obtain ⟨K,hK,rfl,hk,hc,⟨x,y,z,u,hz⟩,hg⟩:=hrel
  have hw:=phN_word h K
  have hN:phN s (K+1)=phS (phN s K):=rfl
  by_cases c:(K:Int)<10
  ·generalize phN s K=S at hw hN hk hc
   have HM:=Lib.hid (fun w=>pmixed_any S w hw)
   obtain ⟨k0,k1,c0,c1,c2,c3⟩:=S
   dsimp only [phV,phS] at hk hc HM hN
   have HN:=Lib.hid hN
   have HK:=Lib.hid hk
   have HC:=Lib.hid hc
   have HZ:=Lib.hid hz
   have HG:=Lib.hid hg
   obtain ⟨q0,q1,q2,q3,q4⟩:=hk
   obtain ⟨r0,r1,r2,r3,r4,r5,r6,r7,r8⟩:=hc
   clear hN hz hg hw
   go_wp2_with fail
   refine (HM.out _).mono ?_
   rintro e W1 ⟨he,hW⟩
   subst he
   have HC1:=Lib.hid (HC.out.grown hW)
   have HK1:=Lib.hid (HK.out.grown hW)
   have HZ1:=Lib.hid (HZ.out.grown hW)
   have HG1:=Lib.hid (grown_trans HG.out hW)
   clear q0 q1 q2 q3 q4 r0 r1 r2 r3 r4 r5 r6 r7 r8 hW
   obtain ⟨q0,q1,q2,q3,q4⟩:=HK1.out
   obtain ⟨r0,r1,r2,r3,r4,r5,r6,r7,r8⟩:=HC1.out
   go_wp2
   go_roundw
   case rel=>
    obtain ⟨t0,t1,t2,t3,t4,t5,t6,t7,t8⟩:=HZ1.out
    refine ⟨K+1,by omega,by go_num,?_⟩
    rw [HN.out]
    dsimp only
    refine ⟨⟨?_,?_,?_,?_,?_⟩,⟨?_,?_,?_,?_,?_,?_,?_,?_,?_⟩,⟨x,y,z,u,⟨?_,?_,?_,?_,?_,?_,?_,?_,?_⟩⟩,by repeat (first | with_reducible exact HG1.out | with_reducible refine Grown.setCell ?_ (by simp <;> omega) _)⟩
    all_goals go_simp
    all_goals (try assumption)
    all_goals omega
   case measure=>simp [intOf];omega
  ·have e:K=10:=by omega
   subst e
   obtain ⟨S,hS⟩:∃ S,phN s 10=S:=⟨_,rfl⟩
   rw [hS] at hk hc
   have HS:=Lib.hid hS
   clear hS
   obtain ⟨k0,k1,c0,c1,c2,c3⟩:=S
   dsimp only at hk hc
   have HG:=Lib.hid hg
   clear hg
   obtain ⟨r0,r1,r2,r3,r4,r5,r6,r7,r8⟩:=hc
   obtain ⟨t0,t1,t2,t3,t4,t5,t6,t7,t8⟩:=hz
   go_wp2
   (try simp only [Exit.inBlock,Exit.then])
   refine bodyPost_ret (v:=phV ⟨k0,k1,c0,c1,c2,c3⟩) ?_ rfl ⟨by rw [HS.out],by repeat (first | with_reducible exact HG.out | with_reducible refine Grown.setCell ?_ (by simp <;> omega) _)⟩
   rw [results_one_cell rfl]
   simp only [phV]
   go_simp

set_option maxHeartbeats 4000000 in
theorem pword_any (seed stream n:Int) (w:World) (h0:0≤seed) (h1:seed≤18446744073709551615) (s0:0≤stream) (s1:stream≤4294967295) (n0:0≤n) (n1:n≤18446744073709551615):
  Calls Tryz.prog 53 #[.int .u64 seed,.int .u32 stream,.int .u64 n] w fun e w'=>e=.returned (.int .u32 (phWord seed stream n))∧Grown w w':=by
 have hA:=phA_word seed stream n h0 h1 s0 s1 n0 n1
 have HA:=Lib.hid hA
 have q1:n.tdiv 4=n / 4:=Int.tdiv_eq_ediv_of_nonneg n0
 have q2:n.tmod 4=n%4:=Int.tmod_eq_emod_of_nonneg n0
 have hi:n%4=0∨n%4=1∨n%4=2∨n%4=3:=by omega
 have hd0:0≤n / 4:=by omega
 have hd1:n / 4≤4611686018427387903:=by omega
 obtain ⟨D,hD⟩:∃ D,n / 4=D:=⟨_,rfl⟩
 rw [hD] at q1 hd0 hd1
 have HV:phA seed stream n=⟨seed%4294967296,seed / 4294967296,D%4294967296,D / 4294967296,stream,0⟩:=by unfold phA;rw [hD]
 obtain ⟨S,hS⟩:∃ S,phN (phA seed stream n) 10=S:=⟨_,rfl⟩
 have HW:phWord seed stream n=phAt S (n%4):=by unfold phWord;rw [hS]
 have HB:=Lib.hid (show ∀ w,Calls Tryz.prog 93 #[.agg #[.int .u32 (seed%4294967296),.int .u32 (seed / 4294967296)],.agg #[.int .u32 (D%4294967296),.int .u32 (D / 4294967296),.int .u32 stream,.int .u32 0]] w
   fun e w'=>e=.returned (.agg #[.int .u32 S.c0,.int .u32 S.c1,.int .u32 S.c2,.int .u32 S.c3])∧Grown w w' from fun w=>by
  have hb:=pblock_any (phA seed stream n) w hA
  rw [hS,HV] at hb
  exact hb)
 obtain ⟨k0,k1,c0,c1,c2,c3⟩:=S
 dsimp only at HB
 clear hA HA hD HV hS
 rcases hi with hi | hi | hi | hi
 all_goals
  rw [hi] at HW q2
  have HW2:=Lib.hid HW
  clear HW hi
  go_enter Tryz.func53,Tryz.ntmps53
  go_wp2_with fail
  refine (phalves_any _ _ h0 h1).mono ?_
  rintro e W1 ⟨he,rfl⟩
  subst he
  go_wp2_with fail
  refine (phalves_any _ _ hd0 (by omega)).mono ?_
  rintro e W1 ⟨he,rfl⟩
  subst he
  go_wp2_with fail
  refine (HB.out _).mono ?_
  rintro e W1 ⟨he,hW⟩
  subst he
  have HG:=Lib.hid hW
  clear hW
  go_wp2
  go_ret
  exact ⟨by rw [HW2.out];rfl,by repeat (first | with_reducible exact HG.out | with_reducible refine Grown.alloc ?_ _ _)⟩
end Go.Proofs.YtpjpmmiepfoiaaaGreat
