/- The contracts of package tensor: New, Turn. -/
import Derived.Test.YtpjpmmiepfoiaaaGreatTsr
import Derived.Test.YtpjpmmiepfoiaaaGreatWorld
import Derived.Test.YtpjpmmiepfoiaaaGreatLimbs
import Derived.Deep.RegionHeld3
import Derived.StillTailTactics
namespace Go.Proofs.YtpjpmmiepfoiaaaGreat
open Go.RowKit
set_option linter.unusedVariables false
set_option linter.unusedSimpArgs false

set_option maxRecDepth 100000 in
set_option maxHeartbeats 1000000 in
theorem tnew_any (R C F:Int) (w:World):
  Calls Tryz.prog 52 #[.int .i64 R,.int .i64 C,.int .i64 F] w fun e w'=>∃ b,e=.returned (.agg #[.int .i64 (newR R C),.int .i64 (newC R C),.int .i64 (newF F),.slice (some ⟨b,0,none⟩) ((newR R C).toNat*(newC R C).toNat) ((newR R C).toNat*(newC R C).toNat)])∧w.heap.size≤b∧Rowed b ((newR R C).toNat*(newC R C).toNat) (fun _=>0) w'∧Grown w w':=by
 obtain ⟨r,hr,lr⟩:=clamp_nat R
 obtain ⟨c,hc,lc⟩:=clamp_nat C
 obtain ⟨x1,x2⟩:=wrap_mul r c (r*c) lr lc rfl
 obtain ⟨p,hp⟩:∃ p,r*c=p:=⟨_,rfl⟩
 have hB:newB R C=decide (262144<p):=by
  unfold newB
  rw [hr,hc,←Int.natCast_mul,hp,decide_eq_decide]
  omega
 have HR:=Lib.hid (show (if R<0 then 0 else if 4096<R then 4096 else R)=(r:Int) from hr)
 have HC:=Lib.hid (show (if C<0 then 0 else if 4096<C then 4096 else C)=(c:Int) from hc)
 rw [hp] at x1 x2
 obtain ⟨K,hK⟩:∃ K,knownB F=K:=⟨_,rfl⟩
 have HK:=Lib.hid hK
 by_cases hb:262144<p
 ·rw [decide_eq_true hb] at hB
  have e1:newR R C=0:=by unfold newR;rw [hB];rfl
  have e2:newC R C=0:=by unfold newC;rw [hB];rfl
  have e3:newF F=if K then F else 2:=by unfold newF;rw [hK]
  rw [e1,e2,e3]
  have hmk:=run_make_row' (P:=Tryz.prog) 22 25 (.int .u32 0) 4 Tryz.underlying22 (by kernel_rfl) rfl .i64 .i64 0 (by omega) (by omega)
  rw [show (((0:Nat)):Int)=0 from rfl] at hmk
  have hbi:(262144:Int)<(p:Int):=by omega
  rw [show (Int.toNat 0*Int.toNat 0)=0 from rfl]
  clear hr hc hp hB hb hK e1 e2 e3
  cases K
  all_goals
   go_enter Tryz.func52,Tryz.ntmps52
   go_wp2_with (first
    | (go_at_call 91;refine (twidth_any _ _).mono ?_;rintro e w' ⟨he,rfl⟩;(first | rw [HR.out] at he | rw [HC.out] at he);subst he)
    | (go_at_call 80;refine (tformat_any _ _).mono ?_;rintro e w' ⟨he,rfl⟩;rw [HK.out] at he;subst he))
   (try simp only [Exit.inBlock,Exit.then])
   refine bodyPost_ret (v:=.agg #[.int .i64 0,.int .i64 0,.int .i64 _,.slice (some ⟨w.heap.size+1,0,none⟩) 0 0]) ?_ rfl ⟨w.heap.size+1,rfl,by omega,?_,gr⟩
   ·rw [results_one rfl]
    go_simp
   ·exact rowed_new2 _ _ _ _ _
 ·rw [decide_eq_false hb] at hB
  have e1:newR R C=r:=by unfold newR;rw [hB];exact hr
  have e2:newC R C=c:=by unfold newC;rw [hB];exact hc
  have e3:newF F=if K then F else 2:=by unfold newF;rw [hK]
  rw [e1,e2,e3]
  have hmk:=run_make_row' (P:=Tryz.prog) 22 25 (.int .u32 0) 4 Tryz.underlying22 (by kernel_rfl) rfl .i64 .i64 p (by omega) (by omega)
  have hbi:¬(262144:Int)<(p:Int):=by omega
  rw [show (Int.toNat (r:Int)*Int.toNat (c:Int))=p by simpa using hp]
  clear hr hc hp hB hb hK e1 e2 e3
  cases K
  all_goals
   go_enter Tryz.func52,Tryz.ntmps52
   go_wp2_with (first
    | (go_at_call 91;refine (twidth_any _ _).mono ?_;rintro e w' ⟨he,rfl⟩;(first | rw [HR.out] at he | rw [HC.out] at he);subst he)
    | (go_at_call 80;refine (tformat_any _ _).mono ?_;rintro e w' ⟨he,rfl⟩;rw [HK.out] at he;subst he))
   (try simp only [Exit.inBlock,Exit.then])
   refine bodyPost_ret (v:=.agg #[.int .i64 r,.int .i64 c,.int .i64 _,.slice (some ⟨w.heap.size+1,0,none⟩) p p]) ?_ rfl ⟨w.heap.size+1,rfl,by omega,?_,gr⟩
   ·rw [results_one rfl]
    go_simp
   ·exact rowed_new2 _ _ _ _ _
end Go.Proofs.YtpjpmmiepfoiaaaGreat
