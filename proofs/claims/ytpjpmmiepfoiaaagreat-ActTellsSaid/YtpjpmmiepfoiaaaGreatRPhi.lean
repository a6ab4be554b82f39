/- The contracts of the reference's Block, Word, Below. -/
import Derived.Test.YtpjpmmiepfoiaaaGreatRows
import Derived.Test.YtpjpmmiepfoiaaaGreatPhiMath
import Derived.Test.YtpjpmmiepfoiaaaGreatWorld
import Derived.Lib.Hide
import Derived.Handy
namespace Go.Proofs.YtpjpmmiepfoiaaaGreat
open Go.RowKit
set_option linter.unusedVariables false
set_option linter.unusedSimpArgs false

theorem results_one_cell {fn:Func} {p:Tmp} {ty:TypeId} (h:fn.results=#[.cell p ty]) (tmps:Array Value) (P:Program) (w:World):
  (results fn tmps).run P w=((asAddr (tmps.getD p undef)).run P w).andThen fun a w₁=>(loadVar ty a).run P w₁:=by
 simp only [results,h]
 simp [Sem.run_bind,Result.andThen]

def Zero4 (b : Nat) (W : World) : Prop :=
  b < W.heap.size ∧ W.cell? ⟨b, 0, none⟩ = some (.int .u32 0) ∧ W.cell? ⟨b, 1, none⟩ = some (.int .u32 0) ∧ W.cell? ⟨b, 2, none⟩ = some (.int .u32 0) ∧ W.cell? ⟨b, 3, none⟩ = some (.int .u32 0)
    ∧ W.frozen? ⟨b, 0, none⟩ = false ∧ W.frozen? ⟨b, 1, none⟩ = false ∧ W.frozen? ⟨b, 2, none⟩ = false ∧ W.frozen? ⟨b, 3, none⟩ = false

theorem Zero4.grown {b:Nat} {W W':World} (h:Zero4 b W) (g:Grown W W'):Zero4 b W':=by
 obtain ⟨h0,h1,h2,h3,h4,z0,z1,z2,z3⟩:=h
 exact ⟨Nat.lt_of_lt_of_le h0 g.2.2,grown_cell g h1 h0,grown_cell g h2 h0,grown_cell g h3 h0,grown_cell g h4 h0,by rw [g.2.1];exact z0,by rw [g.2.1];exact z1,by rw [g.2.1];exact z2,by rw [g.2.1];exact z3⟩

def phW (w:World) (s:Ph):World:=
 ((w.alloc (.cells #[.int .u32 s.k0,.int .u32 s.k1] 77)).alloc (.cells #[.int .u32 s.c0,.int .u32 s.c1,.int .u32 s.c2,.int .u32 s.c3] 75)).alloc (.cells #[.int .u32 0,.int .u32 0,.int .u32 0,.int .u32 0] 75)

def PhRel (w:World) (s:Ph) (i:Value) (W:World):Prop:=∃ k:Nat,k≤10∧i=.int .i64 k∧W=phW w (phN s k)

set_option maxRecDepth 100000 in
set_option maxHeartbeats 4000000 in
theorem rblock_any (s:Ph) (w:World) (h:PhW s):
  Calls Tryz.prog 60 #[.agg #[.int .u32 s.k0,.int .u32 s.k1],.agg #[.int .u32 s.c0,.int .u32 s.c1,.int .u32 s.c2,.int .u32 s.c3]] w fun e w'=>e=.returned (phV (phN s 10))∧Grown w w':=by
 go_enter Tryz.func60,Tryz.ntmps60
 go_wp2
 go_loopw [5] (fun i wr=>PhRel w s i wr) (fun i _=>(10 - intOf i).toNat)
 case atStart=>exact ⟨0,by decide,rfl,rfl⟩
 case round=>
  obtain ⟨K,hK,rfl,rfl⟩:=hrel
  obtain ⟨⟨a0,a1⟩,⟨a2,a3⟩,⟨b0,b1⟩,⟨b2,b3⟩,⟨b4,b5⟩,⟨b6,b7⟩⟩:=phN_word h K
  have hN:phN s (K+1)=phS (phN s K):=rfl
  by_cases c:(K:Int)<10
  ·generalize phN s K=S at a0 a1 a2 a3 b0 b1 b2 b3 b4 b5 b6 b7 hN ⊢
   obtain ⟨k0,k1,c0,c1,c2,c3⟩:=S
   dsimp only at a0 a1 a2 a3 b0 b1 b2 b3 b4 b5 b6 b7
   simp only [phW]
   have HN:=Lib.hid hN
   clear hN
   have e1:IntKind.u64.wrap (c0*3528531795)=c0*3528531795:=by rw [IntKind.wrap_u64];omega
   have e2:IntKind.u64.wrap (c2*3449720151)=c2*3449720151:=by rw [IntKind.wrap_u64];omega
   go_wp2
   go_roundw
   case rel=>
    refine ⟨K+1,by omega,by go_num,?_⟩
    rw [HN.out]
    simp only [phW,phS,xo]
   case measure=>simp [intOf];omega
  ·have e:K=10:=by omega
   subst e
   simp only [phW]
   go_wp2
   (try simp only [Exit.inBlock,Exit.then])
   refine bodyPost_ret (v:=phV (phN s 10)) ?_ rfl ⟨rfl,Grown.alloc (Grown.alloc (Grown.alloc (Grown.refl _) _ _) _ _) _ _⟩
   rw [results_one_cell rfl]
   simp only [phV]
   go_simp

set_option maxHeartbeats 4000000 in
theorem rword_any (seed stream n:Int) (w:World) (h0:0≤seed) (h1:seed≤18446744073709551615) (s0:0≤stream) (s1:stream≤4294967295) (n0:0≤n) (n1:n≤18446744073709551615):
  Calls Tryz.prog 28 #[.int .u64 seed,.int .u32 stream,.int .u64 n] w fun e w'=>e=.returned (.int .u32 (phWord seed stream n))∧Grown w w':=by
 have hA:=phA_word seed stream n h0 h1 s0 s1 n0 n1
 have HA:=Lib.hid hA
 have q1:n.tdiv 4=n / 4:=Int.tdiv_eq_ediv_of_nonneg n0
 have q2:n.tmod 4=n%4:=Int.tmod_eq_emod_of_nonneg n0
 have hi:n%4=0∨n%4=1∨n%4=2∨n%4=3:=by omega
 have hd0:0≤n / 4:=by omega
 have hd1:n / 4≤4611686018427387903:=by omega
 obtain ⟨D,hD⟩:∃ D,n / 4=D:=⟨_,rfl⟩
 have e1:IntKind.u32.wrap (seed / 4294967296)=seed / 4294967296:=by rw [IntKind.wrap_u32];omega
 have e2:IntKind.u32.wrap (D / 4294967296)=D / 4294967296:=by rw [IntKind.wrap_u32];omega
 rw [hD] at q1 hd0 hd1
 have HV:phA seed stream n=⟨seed%4294967296,seed / 4294967296,D%4294967296,D / 4294967296,stream,0⟩:=by unfold phA;rw [hD]
 obtain ⟨S,hS⟩:∃ S,phN (phA seed stream n) 10=S:=⟨_,rfl⟩
 have HW:phWord seed stream n=phAt S (n%4):=by unfold phWord;rw [hS]
 have HB:=Lib.hid (show ∀ w,Calls Tryz.prog 60 #[.agg #[.int .u32 (seed%4294967296),.int .u32 (seed / 4294967296)],.agg #[.int .u32 (D%4294967296),.int .u32 (D / 4294967296),.int .u32 stream,.int .u32 0]] w
   fun e w'=>e=.returned (.agg #[.int .u32 S.c0,.int .u32 S.c1,.int .u32 S.c2,.int .u32 S.c3])∧Grown w w' from fun w=>by
  have hb:=rblock_any (phA seed stream n) w hA
  rw [hS,HV] at hb
  exact hb)
 obtain ⟨k0,k1,c0,c1,c2,c3⟩:=S
 dsimp only at HB
 clear hA HA hD HV hS
 rcases hi with hi | hi | hi | hi
 all_goals
  rw [hi] at HW q2
  have HW2:=Lib.hid HW
  clear HW hi
  go_enter Tryz.func28,Tryz.ntmps28
  go_wp2_with fail
  refine (HB.out _).mono ?_
  rintro e W1 ⟨he,hW⟩
  subst he
  have HG:=Lib.hid hW
  clear hW
  go_wp2
  go_ret
  exact ⟨by rw [HW2.out];rfl,by repeat (first | with_reducible exact HG.out | with_reducible refine Grown.alloc ?_ _ _)⟩
end Go.Proofs.YtpjpmmiepfoiaaaGreat
