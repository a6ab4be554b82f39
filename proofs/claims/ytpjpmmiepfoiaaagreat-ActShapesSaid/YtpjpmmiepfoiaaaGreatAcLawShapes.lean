/- The walk of ActShapes. -/
import Derived.Test.YtpjpmmiepfoiaaaGreatAcKnown
import Derived.Test.YtpjpmmiepfoiaaaGreatAcMath
import Derived.Test.YtpjpmmiepfoiaaaGreatSeatT
import Derived.Test.YtpjpmmiepfoiaaaGreatRWhoB
import Derived.Deep.RegionHeld3
namespace Go.Proofs.YtpjpmmiepfoiaaaGreat
open Go Go.RowKit
set_option linter.unusedVariables false
set_option linter.unusedSimpArgs false

theorem known_rema {f:Int} (h0:0≤f) (h:f<3):knownB f=true:=by
 rcases (show f=0∨f=1∨f=2 by omega) with rfl | rfl | rfl <;> rfl

theorem four_rem (q:Int) (q0:0≤q):∃ K:Int,q%4=K∧q.tmod 4=K∧0≤K∧K≤3∧IntKind.i64.wrap K=K:=
 ⟨q%4,rfl,Int.tmod_eq_emod_of_nonneg q0,by omega,by omega,by rw [IntKind.wrap_i64];omega⟩

set_option maxRecDepth 100000 in
set_option maxHeartbeats 8000000 in
theorem ashapes_go (w:World) (q m n f:Int) (ld:Option Addr) (ln lc:Nat) (lg:Nat→Int) (hl:ln≤30) (Rl:Reads ld ln lg w) (q0:0≤q) (q1:q≤255) (m0:0≤m) (m1:m≤255) (n0:0≤n) (n1:n≤255) (f0:0≤f) (f1:f≤255):
  Calls Tryz.prog 6 #[.int .u8 q,.int .u8 m,.int .u8 n,.int .u8 f,.slice ld ln lc] w fun e w'=>e=.returned (.bool true)∧Grown w w':=by
 have t1:¬(30:Int)<(ln:Int):=by omega
 have HL:=Lib.hid (((Lot.nil w).add (f:=.gr w) (Grown.refl w)).add (f:=.rd ld ln lg) Rl)
 obtain ⟨x,hx⟩:∃ x:Nat,m%5=(x:Int):=⟨(m%5).toNat,by omega⟩
 obtain ⟨y,hy⟩:∃ y:Nat,n%5=(y:Int):=⟨(n%5).toNat,by omega⟩
 have kF:=known_rema (f:=f%3) (by omega) (by omega)
 obtain ⟨F,hF⟩:∃ F,f%3=F:=⟨_,rfl⟩
 rw [hF] at kF
 obtain ⟨K,hK1,hK2,hK3,hK4,hK5⟩:=four_rem q q0
 have kK:actB K=true:=decide_eq_true ⟨hK3,hK4⟩
 have lx:x≤4:=by omega
 have ly:y≤4:=by omega
 obtain ⟨M,hM⟩:∃ M,x*y=M:=⟨_,rfl⟩
 have X1:Hid ((x:Int)*(y:Int)=(M:Int)):=Lib.hid (by rw [←hM,Int.natCast_mul])
 have lM:M≤16:=by have:=Nat.mul_le_mul lx ly;omega
 have HM:=Lib.hid hM.symm
 have HKK:=Lib.hid kK
 have HKF:=Lib.hid kF
 clear hM Rl kK kF
 go_enter Tryz.func6,Tryz.ntmps6
 go_wp2_with fail
 refine (known15_any _).mono ?_
 rintro e W1 ⟨rfl,hW⟩
 replace HL:=Lib.hid (HL.out.grown hW)
 clear hW
 go_wp2_with fail
 refine (seatt_any x y F M ld ln lc lg true _ (by omega) (HL.out.rd 0 rfl) (by omega) (by omega) (by omega) (by omega) X1.out).mono ?_
 rintro e W2 ⟨zd,zc,zg,rfl,hR,hf,hW,hm,hs⟩
 have hR2:rightB x y F M zg=true:=ten_right (by omega) (by omega) HKF.out HM.out (fun i hi=>by
  obtain ⟨k,k0,_,hk⟩:=hm rfl i hi
  rw [hk];exact mil_lea F k k0)
 have HFT:Hid (forT K ⟨x,y,F,M,zg⟩=⟨x,y,F,M,forV K F zg⟩):=Lib.hid (by unfold forT PT.right;dsimp only;rw [hR2,HKK.out];rfl)
 have HFX:Hid (forX K ⟨x,y,F,M,zg⟩=0):=Lib.hid (by unfold forX PT.right;dsimp only;rw [hR2,HKK.out];rfl)
 have HZB:=Lib.hid hR.1
 replace HL:=Lib.hid ((HL.out.grown hW).add (f:=.rd zd M zg) hR)
 clear hR hf hW hm hs hR2
 replace HL:=Lib.hid ((HL.out.grown (Grown.alloc (Grown.refl W2) #[.int .i64 x,.int .i64 y,.int .i64 F,.slice zd M zc] 24)).add (f:=.ten W2.heap.size (.int .i64 x) (.int .i64 y) (.int .i64 F) (.slice zd M zc)) (ten_new W2 _ _ _ _ _))
 go_wp2_with fail
 generalize W2.alloc _=W3 at HL ⊢
 generalize W2.heap.size=oz at HL ⊢
 try
  obtain ⟨p0,p1,p2,p3,p4,_,_,_,_⟩:=HL.out.ten 0 rfl
  go_wp2_with fail
 refine (aforward_any K x y F zd M zc zg _ (by omega) (HL.out.rd 1 rfl)).mono ?_
 rw [HFT.out,HFX.out]
 rintro e W4 ⟨td,tc,rfl,hO,hB,-,hW⟩
 dsimp only at hO hB ⊢
 generalize hG:forV K F zg=G at hO hB
 have HGG:=Lib.hid hG
 replace HL:=Lib.hid ((HL.out.grown hW).add (f:=.rd td M G) (hO.reads hB))
 clear hW hO hB hG
 replace HL:=Lib.hid ((HL.out.grown (Grown.alloc (Grown.refl W4) #[.int .i64 x,.int .i64 y,.int .i64 F,.slice td M tc] 24)).add (f:=.ten W4.heap.size (.int .i64 x) (.int .i64 y) (.int .i64 F) (.slice td M tc)) (ten_new W4 _ _ _ _ _))
 clear p0 p1 p2 p3 p4
 obtain ⟨p0,p1,p2,p3,p4,_,_,_,_⟩:=HL.out.ten 2 rfl
 obtain ⟨q0,q1,q2,q3,q4,_,_,_,_⟩:=HL.out.ten 0 rfl
 go_wp2_with fail
 clear p0 p1 p2 p3 p4 q0 q1 q2 q3 q4
 generalize W4.alloc _=W5 at HL ⊢
 generalize W4.heap.size=ot at HL ⊢
 go_loopw [14] (fun i wr=>∃ k:Nat,k≤M∧i=.int .i64 k∧Hid (Lot [.ten ot (.int .i64 x) (.int .i64 y) (.int .i64 F) (.slice td M tc),.rd td M G,.ten oz (.int .i64 x) (.int .i64 y) (.int .i64 F) (.slice zd M zc),.rd zd M zg,.rd ld ln lg,.gr w] wr)) (fun i _=>M - (intOf i).toNat)
 case atStart=>exact ⟨0,Nat.zero_le _,rfl,HL⟩
 case round=>
  rename World=>wr
  clear HL
  obtain ⟨k,hk,rfl,HL⟩:=hrel
  obtain ⟨p0,p1,p2,p3,p4,_,_,_,_⟩:=HL.out.ten 2 rfl
  obtain ⟨q0,q1,q2,q3,q4,_,_,_,_⟩:=HL.out.ten 0 rfl
  by_cases hlt:k<M
  ·have r1:=HL.out.rd 1 rfl
   have r3:=HL.out.rd 3 rfl
   obtain ⟨b,off,rfl,-,-⟩:∃ b off,td=some ⟨b,off,none⟩∧b<wr.heap.size∧∀ i,i<M→wr.cell? ⟨b,off+i,none⟩=some (.int .u32 (G i)):=by
    rcases r1.2 with h | h
    ·exact absurd h (Nat.ne_of_gt (Nat.lt_of_le_of_lt (Nat.zero_le _) hlt))
    ·exact h
   obtain ⟨b',off',rfl,-,-⟩:∃ b off,zd=some ⟨b,off,none⟩∧b<wr.heap.size∧∀ i,i<M→wr.cell? ⟨b,off+i,none⟩=some (.int .u32 (zg i)):=by
    rcases r3.2 with h | h
    ·exact absurd h (Nat.ne_of_gt (Nat.lt_of_le_of_lt (Nat.zero_le _) hlt))
    ·exact h
   obtain ⟨l1,y1⟩:=read_at r1 hlt
   obtain ⟨l2,y2⟩:=read_at r3 hlt
   obtain ⟨g0,g1⟩:=HZB.out k hlt
   obtain ⟨u0,u1⟩:=wid_bd F zg k
   obtain ⟨v0,v1⟩:=valA_bd K (widV F zg k) u0 u1
   have HU:=Lib.hid (show conV F 2 0 (zg k)=widV F zg k from rfl)
   have HGk:=Lib.hid (show conV 2 F 0 (valA K (widV F zg k))=G k from by rw [←HGG.out];rfl)
   obtain ⟨g,hg⟩:∃ g,zg k=g:=⟨_,rfl⟩
   rw [hg] at y2 g0 g1 HU
   obtain ⟨u,hu⟩:∃ u,widV F zg k=u:=⟨_,rfl⟩
   rw [hu] at HU HGk u0 u1 v0 v1
   obtain ⟨v,hv⟩:∃ v,valA K u=v:=⟨_,rfl⟩
   rw [hv] at HGk v0 v1
   have HV:=Lib.hid hv
   obtain ⟨X,hX⟩:∃ X,G k=X:=⟨_,rfl⟩
   rw [hX] at y1 HGk
   replace HL:=Lib.hid ((HL.out.add (f:=.cell b' (off'+k) (.int .u32 g)) ⟨l2,y2⟩).add (f:=.cell b (off+k) (.int .u32 X)) ⟨l1,y1⟩)
   clear hg hu hv hX r1 r3
   go_wp2_with fail
   go_region_held3 (fun w'=>w'.cell? ⟨ot,3,none⟩=some (.slice (some ⟨b,off,none⟩) M tc)∧w'.cell? ⟨oz,2,none⟩=some (.int .i64 F)∧w'.cell? ⟨oz,3,none⟩=some (.slice (some ⟨b',off',none⟩) M zc)∧w'.cell? ⟨b,off+k,none⟩=some (.int .u32 X)∧w'.cell? ⟨b',off'+k,none⟩=some (.int .u32 g)) (go_keep) (first
    | (go_at_call 27;(with_reducible refine (rwiden_any F g _ g0 g1).mono ?_);rintro e V1 ⟨he,hW⟩;rw [HU.out] at he;subst he;replace HL:=Lib.hid (HL.out.grown (grown_trans gr hW));clear hW p0 p1 p2 p3 p4 q0 q1 q2 q3 q4 y1 y2 l1 l2;obtain ⟨p0,p1,p2,p3,p4,_,_,_,_⟩:=HL.out.ten 4 rfl;obtain ⟨q0,q1,q2,q3,q4,_,_,_,_⟩:=HL.out.ten 2 rfl;have y1:=HL.out.cell 0 rfl;have y2:=HL.out.cell 1 rfl;have l1:=HL.out.lies 0 rfl;have l2:=HL.out.lies 1 rfl)
    | (go_at_call 13;(with_reducible refine (avalue_any K u _ u0 u1).mono ?_);rintro e V2 ⟨he,hW⟩;rw [HV.out] at he;subst he;replace HL:=Lib.hid (HL.out.grown hW);clear hW p0 p1 p2 p3 p4 q0 q1 q2 q3 q4 y1 y2 l1 l2;obtain ⟨p0,p1,p2,p3,p4,_,_,_,_⟩:=HL.out.ten 4 rfl;obtain ⟨q0,q1,q2,q3,q4,_,_,_,_⟩:=HL.out.ten 2 rfl;have y1:=HL.out.cell 0 rfl;have y2:=HL.out.cell 1 rfl;have l1:=HL.out.lies 0 rfl;have l2:=HL.out.lies 1 rfl)
    | (go_at_call 26;(with_reducible refine (rnarrow_any F v _ v0 v1).mono ?_);rintro e V3 ⟨he,hW⟩;rw [HGk.out] at he;subst he;replace HL:=Lib.hid (HL.out.grown hW);clear hW p0 p1 p2 p3 p4 q0 q1 q2 q3 q4 y1 y2 l1 l2;obtain ⟨p0,p1,p2,p3,p4,_,_,_,_⟩:=HL.out.ten 4 rfl;obtain ⟨q0,q1,q2,q3,q4,_,_,_,_⟩:=HL.out.ten 2 rfl;have y1:=HL.out.cell 0 rfl;have y2:=HL.out.cell 1 rfl;have l1:=HL.out.lies 0 rfl;have l2:=HL.out.lies 1 rfl))
   go_wp2
   go_roundw
   case rel=>exact ⟨k+1,by omega,by go_num,Lib.hid (fun f hf=>HL.out.grown gr f (List.mem_cons_of_mem _ (List.mem_cons_of_mem _ hf)))⟩
   case measure=>simp [intOf];omega
  ·obtain rfl:k=M:=by omega
   have HG:=Lib.hid (HL.out.gr 5 rfl)
   go_wp2
   go_ret
   exact ⟨rfl,HG.out⟩

theorem ashapes_end (w:World) (q m n f:Int) (ld:Option Addr) (ln lc:Nat) (h:¬ln≤30):
  Calls Tryz.prog 6 #[.int .u8 q,.int .u8 m,.int .u8 n,.int .u8 f,.slice ld ln lc] w fun e w'=>e=.returned (.bool true)∧Grown w w':=by
 have t1:(30:Int)<(ln:Int):=by omega
 clear h
 go_enter Tryz.func6,Tryz.ntmps6
 go_wp2_with fail
 refine (known15_any _).mono ?_
 rintro e W1 ⟨rfl,hW⟩
 have HG:=Lib.hid hW
 clear hW
 go_wp2
 go_ret
 exact ⟨rfl,HG.out⟩

theorem ashapes_walk (W:World) (q:Int) (wq:(Lit.int .u8 q).wf=true) (m:Int) (wm:(Lit.int .u8 m).wf=true) (n:Int) (wn:(Lit.int .u8 n).wf=true) (f:Int) (wf:(Lit.int .u8 f).wf=true) (l:Value) (Ll:ListIn l W):
  Calls Tryz.prog 6 #[.int .u8 q,.int .u8 m,.int .u8 n,.int .u8 f,l] W fun e w'=>e=.returned (.bool true)∧Grown W w':=by
 obtain ⟨ld,ln,lc,lg,rfl,_,_,_,l4⟩:=Ll
 obtain ⟨q0,q1⟩:=bounds_u8 wq
 obtain ⟨m0,m1⟩:=bounds_u8 wm
 obtain ⟨n0,n1⟩:=bounds_u8 wn
 obtain ⟨f0,f1⟩:=bounds_u8 wf
 by_cases h:ln≤30
 ·exact ashapes_go W q m n f ld ln lc lg h l4 q0 q1 m0 m1 n0 n1 f0 f1
 ·exact ashapes_end W q m n f ld ln lc h
end Go.Proofs.YtpjpmmiepfoiaaaGreat
