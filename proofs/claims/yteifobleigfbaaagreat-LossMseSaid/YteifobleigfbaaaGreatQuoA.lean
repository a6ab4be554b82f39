/- Contracts of package quot: a number's parts, a number raised. The contracts of package quot. (Written by gen20.py.) -/
import Derived.Test.YteifobleigfbaaaGreatDict
import Derived.Test.YteifobleigfbaaaGreatRows
import Derived.Test.YteifobleigfbaaaGreatRd
import Derived.Test.YteifobleigfbaaaGreatWorld
import Derived.Test.YteifobleigfbaaaGreatNans
import Derived.KernelRfl
import Derived.StillTailTactics
import Derived.Test.YteifobleigfbaaaGreatAdd
import Derived.Deep.RegionHeld3
namespace Go.Proofs.YteifobleigfbaaaGreat
open Go.RowKit
set_option linter.unusedVariables false
set_option linter.unusedSimpArgs false

set_option maxHeartbeats 400000 in
theorem qunpack_any (f v:Int) (w:World) (h0:0≤v) (h1:v≤4294967295):
  Calls Tryz.prog 129 #[.int .i64 f,.int .u32 v] w fun e w'=>e=.returned (.agg #[.bool (fS f v),.int .i64 (unE f v),.int .u64 (unM f v)])∧Grown w w':=by
 go_enter Tryz.func129,Tryz.ntmps129
 exact dx_31

theorem raise_up (e M:Int) (m0:0<M) (m1:M<16777216):∃ (L R:Int) (i:Nat),lenI M=L∧cutI (IntKind.u64.wrap (e - (64 - L))) 1=R∧1≤L∧L≤24∧(R=0∨R=1)∧(i:Int)=64 - L - R
  ∧ (e - (i:Int))%2=0∧4611686018427387904≤M*2^i∧M*2^i≤18446744073709551615:=by
 have hl:=len_log M m0
 have h24:=len_bd M 24 (by omega) (by omega)
 obtain ⟨k,rfl⟩:=Int.eq_ofNat_of_zero_le (Int.le_of_lt m0)
 rw [Int.toNat_natCast] at hl
 have hk:k≠0:=by omega
 have a:=Nat.log2_self_le hk
 have b:=Nat.lt_log2_self (n:=k)
 generalize k.log2=l at*
 obtain ⟨L,hL⟩:∃ L,lenI (k:Int)=L:=⟨_,rfl⟩
 rw [hL] at hl h24
 obtain ⟨R,hR⟩:∃ R,cutI (IntKind.u64.wrap (e - (64 - L))) 1=R:=⟨_,rfl⟩
 have hR2:R=(e - (64 - L))%2:=by
  rw [←hR,IntKind.wrap_u64]
  unfold cutI
  simp only [show (1:Int).toNat=1 from rfl,Int.pow_one]
  omega
 refine ⟨L,R,(64 - L - R).toNat,hL,hR,by omega,by omega,by omega,by omega,by omega,?_,?_⟩
 ·have e1:(2:Int)^l≤k:=by rw [pow2_cast];exact_mod_cast a
  have hi:62≤l+(64 - L - R).toNat:=by omega
  have h1:(2:Int)^l*2^(64 - L - R).toNat≤k*2^(64 - L - R).toNat:=Int.mul_le_mul_of_nonneg_right e1 (Int.le_of_lt (pow2_pos _))
  rw [←Int.pow_add] at h1
  have h2:(2:Int)^62≤2^(l+(64 - L - R).toNat):=pow2_le hi
  have e62:(2:Int)^62=4611686018427387904:=by decide
  omega
 ·have e1:(k:Int)≤2^(l+1) - 1:=by rw [pow2_cast];omega
  have hi:l+1+(64 - L - R).toNat≤64:=by omega
  have h1:(k:Int)*2^(64 - L - R).toNat≤(2^(l+1) - 1)*2^(64 - L - R).toNat:=Int.mul_le_mul_of_nonneg_right e1 (Int.le_of_lt (pow2_pos _))
  rw [Int.sub_mul,←Int.pow_add] at h1
  have h2:(2:Int)^(l+1+(64 - L - R).toNat)≤2^64:=pow2_le hi
  have e64:(2:Int)^64=18446744073709551616:=by decide
  have:=pow2_pos (64 - L - R).toNat
  omega

set_option maxRecDepth 100000 in
set_option maxHeartbeats 1000000 in
theorem qraise_is (n:Bool) (e M L R T:Int) (i:Nat) (w:World) (e0:-400≤e) (e1:e≤400) (m0:0<M) (m1:M≤18446744073709551615) (hL:Hid (lenI M=L)) (hR:Hid (cutI (IntKind.u64.wrap (e - (64 - L))) 1=R)) (l0:1≤L) (l1:L≤24)
  (hr:R=0∨R=1) (hi:(i:Int)=64 - L - R) (hT:Hid (IntKind.u64.wrap (M*2^i)=T)):
  Calls Tryz.prog 130 #[.agg #[.bool n,.int .i64 e,.int .u64 M]] w fun e' w'=>e'=.returned (.agg #[.bool n,.int .i64 (e - (i:Int)),.int .u64 T])∧Grown w w':=by
 have hw0:=(u64w_bd (e - (64 - L))).1
 have hw1:=(u64w_bd (e - (64 - L))).2
 obtain ⟨Z,hZ⟩:∃ Z,IntKind.u64.wrap (e - (64 - L))=Z:=⟨_,rfl⟩
 rw [hZ] at hw0 hw1
 have HR:=hR
 rw [hZ] at HR
 have hT2:=hT.out
 rcases hr with rfl | rfl
 ·rw [show i=(64 - L).toNat by omega] at hT2
  have hgoal:(i:Int)=64 - L:=by omega
  rw [hgoal]
  go_enter Tryz.func130,Tryz.ntmps130
  go_wp2_with (first
   | (go_at_call 138;refine (len_any _ _ (by omega) (by omega)).mono ?_;rintro e w' ⟨he,rfl⟩;rw [hL.out] at he;subst he)
   | (go_at_call 169;refine (cut_any _ _ _ (by omega) (by omega)).mono ?_;rintro e w' ⟨he,rfl⟩;rw [HR.out] at he;subst he))
  refine wp_region_still_tail 11 (by kernel_rfl) (by kernel_rfl) ?_
  simp only [List.take_succ_cons,List.take_zero,List.drop_succ_cons,List.drop_zero]
  change wpStill _ _ (World.drew _) (fun a'=>wpList _ _ _ _ a' (World.drew _)) _ _
  repeat (first | still_step)
  try refine wpStill_nil ?_
  go_wp2
  (try simp only [Exit.inBlock,Exit.then])
  refine bodyPost_ret (v:=.agg #[.bool n,.int .i64 (e - (64 - L)),.int .u64 T]) ?_ rfl ⟨rfl,?_⟩
  ·rw [results_one rfl]
   go_simp
  ·exact (Grown.alloc (Grown.alloc (Grown.refl w) _ _) _ _).drew
 ·rw [show i=(64 - L).toNat - 1 by omega] at hT2
  have hgoal:(i:Int)=64 - L - 1:=by omega
  rw [hgoal]
  go_enter Tryz.func130,Tryz.ntmps130
  go_wp2_with (first
   | (go_at_call 138;refine (len_any _ _ (by omega) (by omega)).mono ?_;rintro e w' ⟨he,rfl⟩;rw [hL.out] at he;subst he)
   | (go_at_call 169;refine (cut_any _ _ _ (by omega) (by omega)).mono ?_;rintro e w' ⟨he,rfl⟩;rw [HR.out] at he;subst he))
  refine wp_region_still_tail 11 (by kernel_rfl) (by kernel_rfl) ?_
  simp only [List.take_succ_cons,List.take_zero,List.drop_succ_cons,List.drop_zero]
  change wpStill _ _ (World.drew _) (fun a'=>wpList _ _ _ _ a' (World.drew _)) _ _
  repeat (first | still_step)
  try refine wpStill_nil ?_
  go_wp2
  (try simp only [Exit.inBlock,Exit.then])
  refine bodyPost_ret (v:=.agg #[.bool n,.int .i64 (e - (64 - L - 1)),.int .u64 T]) ?_ rfl ⟨rfl,?_⟩
  ·rw [results_one rfl]
   go_simp
  ·exact (Grown.alloc (Grown.alloc (Grown.refl w) _ _) _ _).drew

theorem qraise_any (n : Bool) (e M : Int) (e0 : -400 ≤ e) (e1 : e ≤ 400) (m0 : 0 < M) (m1 : M < 16777216) :
    ∃ i : Nat, 39 ≤ i ∧ i ≤ 63 ∧ (e - (i : Int)) % 2 = 0 ∧ 4611686018427387904 ≤ M * 2 ^ i ∧ M * 2 ^ i ≤ 18446744073709551615 ∧
      ∀ w, Calls Tryz.prog 130 #[.agg #[.bool n, .int .i64 e, .int .u64 M]] w fun e' w' => e' = .returned (.agg #[.bool n, .int .i64 (e - (i : Int)), .int .u64 (M * 2 ^ i)]) ∧ Grown w w' := by
  obtain ⟨L, R, i, hL, hR, l0, l1, hr, hi, h2, h3, h4⟩ := raise_up e M m0 m1
  exact ⟨i, by omega, by omega, h2, h3, h4, fun w => qraise_is n e M L R _ i w e0 e1 m0 (by omega) hL hR l0 l1 hr hi (u64w _ (by omega) h4)⟩

theorem quo_div (f mode:Int) (s:Bool) (x y A B:Int) (i:Nat) (a0:0<A) (b0:0<B) (b1:B<16777216) (hx:-200≤x) (hx1:x≤400) (hy:-200≤y) (hy1:y≤400) (hi:i≤63) (h62:4611686018427387904≤A*2^i):
  PackE f mode s (valN (clampE (x - (i:Int) - y)) (A*2^i / B) (decide (A*2^i%B≠0)))=quoE f mode s (x - y) A.toNat B.toNat:=by
 obtain ⟨M,rfl⟩:=Int.eq_ofNat_of_zero_le (Int.le_of_lt a0)
 obtain ⟨K,rfl⟩:=Int.eq_ofNat_of_zero_le (Int.le_of_lt b0)
 rw [Int.toNat_natCast,Int.toNat_natCast]
 rw [pow2_cast,←Int.natCast_mul] at h62 ⊢
 have hb:2^(fn f+3)≤quoN M K i:=by
  unfold quoN
  have h26:2^(fn f+3)≤67108864:=by
   have h:2^(fn f+3)≤2^26:=Nat.pow_le_pow_right (by decide) (by have:=fn_bd f;omega)
   exact h
  refine Nat.le_trans h26 ((Nat.le_div_iff_mul_le (by omega)).2 ?_)
  generalize M*2^i=P at h62 ⊢
  omega
 have h:=quo_is f mode s (x - y) M K i (by omega) (by omega) (by omega) (by omega) hb
 rw [←h]
 have e1:((M*2^i:Nat):Int) / (K:Int)=((quoN M K i:Nat):Int):=by
  unfold quoN;rw [←Int.natCast_ediv]
 have e2:decide (((M*2^i:Nat):Int)%(K:Int)≠0)=quoB M K i:=by
  unfold quoB;rw [←Int.natCast_emod]
  congr 1
  rw [eq_iff_iff];omega
 rw [e1,e2,show x - (i:Int) - y=x - y - (i:Int) by omega]

theorem parts_two (W:World) (n m:Bool) (x y p q:Int) (t:TypeId):
  PartAt W.heap.size n x p ((W.alloc (.cells #[.bool n,.int .i64 x,.int .u64 p] t)).alloc (.cells #[.bool m,.int .i64 y,.int .u64 q] t))∧
  PartAt (W.heap.size+1) m y q ((W.alloc (.cells #[.bool n,.int .i64 x,.int .u64 p] t)).alloc (.cells #[.bool m,.int .i64 y,.int .u64 q] t)):=by
 refine ⟨(part_new W n x p t).under1 _ _,?_⟩
 have h:=part_new (W.alloc (.cells #[.bool n,.int .i64 x,.int .u64 p] t)) m y q t
 rw [show (W.alloc (.cells #[.bool n,.int .i64 x,.int .u64 p] t)).heap.size=W.heap.size+1 by show (W.heap.push _).size=_;simp] at h
 exact h

theorem part_stored {b:Nat} {n:Bool} {e M:Int} {W:World} (h:PartAt b n e M W) (n':Bool) (e' M':Int):
  PartAt b n' e' M' (((W.setCell ⟨b,0,none⟩ (.bool n')).setCell ⟨b,1,none⟩ (.int .i64 e')).setCell ⟨b,2,none⟩ (.int .u64 M')):=by
 obtain ⟨l,a,c,d,r0,r1,r2⟩:=h
 refine ⟨?_,?_,?_,?_,?_,?_,?_⟩
 all_goals go_simp

theorem part_beside {b:Nat} {n:Bool} {e M:Int} {W:World} (h:PartAt b n e M W) (c:Nat) (hc:c≠b) (n':Bool) (e' M':Int):
  PartAt b n e M (((W.setCell ⟨c,0,none⟩ (.bool n')).setCell ⟨c,1,none⟩ (.int .i64 e')).setCell ⟨c,2,none⟩ (.int .u64 M')):=by
 obtain ⟨l,a,c,d,r0,r1,r2⟩:=h
 refine ⟨?_,?_,?_,?_,?_,?_,?_⟩
 all_goals go_simp

theorem exc_stored {b:Nat} {W:World} (h:ExcAt b W) (c:Nat) (hc:c≠b) (n':Bool) (e' M':Int):
  ExcAt b (((W.setCell ⟨c,0,none⟩ (.bool n')).setCell ⟨c,1,none⟩ (.int .i64 e')).setCell ⟨c,2,none⟩ (.int .u64 M')):=by
 obtain ⟨l,x0,x1,x2,x3,x4,z0,z1,z2,z3,z4⟩:=h
 refine ⟨?_,?_,?_,?_,?_,?_,?_,?_,?_,?_,?_⟩
 all_goals go_simp

theorem div_cls (f mode a b A B:Int) (hA:clsI f a=A) (hB:clsI f b=B):divE f mode a b=
  if (A==4 || A==5 || (B==4 || B==5))=true then excE (nanI f) (A==5 || B==5)
  else if ((A==0&&B==0) || (A==3&&B==3))=true then excE (nanI f) true
  else if (A==3)=true then excE (infI f (sgP f a b)) false
  else if (B==3 || A==0)=true then excE (zerI f (sgP f a b)) false
  else if (B==0)=true then divZ (infI f (sgP f a b))
  else quoE f mode (sgP f a b) (unE f a - unE f b) (unM f a).toNat (unM f b).toNat:=by
 unfold divE nanB sigB nouB infB
 rw [hA,hB]

theorem pos_cls (f a A:Int) (hA:clsI f a=A) (h0:(A==0)=false) (h3:(A==3)=false) (h4:(A==4)=false) (h5:(A==5)=false):0<unM f a:=
 num_pos f a (by unfold nanB;rw [hA,h4,h5];rfl) (by unfold nouB;rw [hA];exact h0) (by unfold infB;rw [hA];exact h3)

theorem cls_five (A:Int):A=5∨(A=4∧(A==5)=false)∨(A=0∧(A==5)=false∧(A==4)=false)∨(A=3∧(A==5)=false∧(A==4)=false)∨((A==0)=false∧(A==3)=false∧(A==4)=false∧(A==5)=false):=by
 simp only [beq_eq_false_iff_ne,ne_eq];omega

set_option maxRecDepth 100000 in
set_option maxHeartbeats 16000000 in
theorem qdiv_any (f mode a b:Int) (w:World) (a0:0≤a) (a1:a≤4294967295) (b0:0≤b) (b1:b≤4294967295):
  Calls Tryz.prog 84 #[.int .i64 f,.int .i64 mode,.int .u32 a,.int .u32 b] w fun e w'=>e=divE f mode a b∧Grown w w':=by
 have HX0:=Lib.hid (exc_new w 75)
 have HG0:=Lib.hid (Grown.alloc (Grown.refl w) #[.bool false,.bool false,.bool false,.bool false,.bool false] 75)
 obtain ⟨e0,e1⟩:=unE_bd f a
 have e2:=unE_top f a
 obtain ⟨d0,d1⟩:=unE_bd f b
 have d2:=unE_top f b
 have hpb:=(unM_bd f a).2
 have hqb:=(unM_bd f b).2
 obtain ⟨A,hA⟩:∃ A,clsI f a=A:=⟨_,rfl⟩
 obtain ⟨B,hB⟩:∃ B,clsI f b=B:=⟨_,rfl⟩
 have hp0:=pos_cls f a A hA
 have hq0:=pos_cls f b B hB
 have hm:=div_cls f mode a b A B hA hB
 have HA:=Lib.hid hA
 have HB:=Lib.hid hB
 obtain ⟨x,hx⟩:∃ x,unE f a=x:=⟨_,rfl⟩
 obtain ⟨y,hy⟩:∃ y,unE f b=y:=⟨_,rfl⟩
 obtain ⟨p,hp⟩:∃ p,unM f a=p:=⟨_,rfl⟩
 obtain ⟨q,hq⟩:∃ q,unM f b=q:=⟨_,rfl⟩
 obtain ⟨n,hn⟩:∃ n,(fS f a)=n:=⟨_,rfl⟩
 obtain ⟨m,hmm⟩:∃ m,(fS f b)=m:=⟨_,rfl⟩
 obtain ⟨s,hs⟩:∃ s,(n != m)=s:=⟨_,rfl⟩
 have hs2:(n==m)=!s:=by rw [←hs];cases n <;> cases m <;> rfl
 have hsg:sgP f a b=s:=by unfold sgP;rw [hn,hmm,hs]
 have HUa:=Lib.hid (show Ending.returned (.agg #[.bool (fS f a),.int .i64 (unE f a),.int .u64 (unM f a)])=.returned (.agg #[.bool n,.int .i64 x,.int .u64 p]) by rw [hn,hx,hp])
 have HUb:=Lib.hid (show Ending.returned (.agg #[.bool (fS f b),.int .i64 (unE f b),.int .u64 (unM f b)])=.returned (.agg #[.bool m,.int .i64 y,.int .u64 q]) by rw [hmm,hy,hq])
 rw [hsg,hx,hy,hp,hq] at hm
 rw [hx] at e0 e1 e2
 rw [hy] at d0 d1 d2
 rw [hp] at hp0 hpb
 rw [hq] at hq0 hqb
 have HM:=Lib.hid hm
 have HP0:=Lib.hid hp0
 have HQ0:=Lib.hid hq0
 clear hm hp0 hq0 hA hB hx hy hp hq hn hmm hsg
 rcases cls_five A with rfl | ⟨rfl,A5⟩ | ⟨rfl,A5,A4⟩ | ⟨rfl,A5,A4⟩ | ⟨A0,A3,A4,A5⟩
 ·have HQ:=Lib.hid (show divE f mode a b=excE (nanI f) true by rw [HM.out];simp [*])
  exact dx_3
 ·rcases cls_five B with rfl | ⟨rfl,B5⟩ | ⟨rfl,B5,B4⟩ | ⟨rfl,B5,B4⟩ | ⟨B0,B3,B4,B5⟩
  ·have HQ:=Lib.hid (show divE f mode a b=excE (nanI f) true by rw [HM.out];simp [*])
   exact dx_3
  ·have HQ:=Lib.hid (show divE f mode a b=excE (nanI f) false by rw [HM.out];simp [*])
   exact dx_3
  ·have HQ:=Lib.hid (show divE f mode a b=excE (nanI f) false by rw [HM.out];simp [*])
   exact dx_3
  ·have HQ:=Lib.hid (show divE f mode a b=excE (nanI f) false by rw [HM.out];simp [*])
   exact dx_3
  ·have HQ:=Lib.hid (show divE f mode a b=excE (nanI f) false by rw [HM.out];simp [*])
   exact dx_3
 ·rcases cls_five B with rfl | ⟨rfl,B5⟩ | ⟨rfl,B5,B4⟩ | ⟨rfl,B5,B4⟩ | ⟨B0,B3,B4,B5⟩
  ·have HQ:=Lib.hid (show divE f mode a b=excE (nanI f) true by rw [HM.out];simp [*])
   exact dx_3
  ·have HQ:=Lib.hid (show divE f mode a b=excE (nanI f) false by rw [HM.out];simp [*])
   exact dx_3
  ·have HQ:=Lib.hid (show divE f mode a b=excE (nanI f) true by rw [HM.out];simp [*])
   exact dx_3
  ·exact dx_9
  ·have B0s:(0==B)=false:=by rw [←B0];exact BEq.comm
   have B3s:(3==B)=false:=by rw [←B3];exact BEq.comm
   exact dx_9
 ·rcases cls_five B with rfl | ⟨rfl,B5⟩ | ⟨rfl,B5,B4⟩ | ⟨rfl,B5,B4⟩ | ⟨B0,B3,B4,B5⟩
  ·have HQ:=Lib.hid (show divE f mode a b=excE (nanI f) true by rw [HM.out];simp [*])
   exact dx_3
  ·have HQ:=Lib.hid (show divE f mode a b=excE (nanI f) false by rw [HM.out];simp [*])
   exact dx_3
  ·exact dx_19
  ·have HQ:=Lib.hid (show divE f mode a b=excE (nanI f) true by rw [HM.out];simp [*])
   exact dx_3
  ·have B0s:(0==B)=false:=by rw [←B0];exact BEq.comm
   have B3s:(3==B)=false:=by rw [←B3];exact BEq.comm
   exact dx_19
 ·rcases cls_five B with rfl | ⟨rfl,B5⟩ | ⟨rfl,B5,B4⟩ | ⟨rfl,B5,B4⟩ | ⟨B0,B3,B4,B5⟩
  ·have HQ:=Lib.hid (show divE f mode a b=excE (nanI f) true by rw [HM.out];simp [*])
   exact dx_3
  ·have HQ:=Lib.hid (show divE f mode a b=excE (nanI f) false by rw [HM.out];simp [*])
   exact dx_3
  ·have HQ:=Lib.hid (show divE f mode a b=divZ (infI f s) by rw [HM.out];simp [*])
   clear HM
   go_enter Tryz.func84,Tryz.ntmps84
   go_wp2_with (go_at_call 100;refine (class_any _ _ _ (by omega) (by omega)).mono ?_;rintro e w' ⟨he,dm,rfl⟩;(first | rw [HA.out] at he | rw [HB.out] at he);subst he)
   refine (qunpack_any f a _ a0 a1).mono ?_
   rintro e W1 ⟨he,hW1⟩
   rw [HUa.out] at he
   subst he
   have HG1:=Lib.hid (show Grown w W1 from grown_trans (by repeat (first | with_reducible exact HG0.out | with_reducible refine Grown.setCell ?_ (by simp <;> omega) _ | with_reducible refine Grown.alloc ?_ _ _ | with_reducible refine grown_more ?_ _ | with_reducible refine Grown.drew ?_)) hW1)
   have HX1:=Lib.hid (show ExcAt w.heap.size W1 from HX0.out.grown (grown_trans (by repeat (first | with_reducible exact Grown.refl _ | with_reducible refine Grown.setCell ?_ (by simp <;> omega) _ | with_reducible refine Grown.alloc ?_ _ _ | with_reducible refine grown_more ?_ _ | with_reducible refine Grown.drew ?_)) hW1))
   clear hW1
   go_wp2_with fail
   refine (qunpack_any f b _ b0 b1).mono ?_
   rintro e W2 ⟨he,hW2⟩
   rw [HUb.out] at he
   subst he
   have HG2:=Lib.hid (show Grown w W2 from grown_trans (by repeat (first | with_reducible exact HG1.out | with_reducible refine Grown.setCell ?_ (by simp <;> omega) _ | with_reducible refine Grown.alloc ?_ _ _ | with_reducible refine grown_more ?_ _ | with_reducible refine Grown.drew ?_)) hW2)
   have HX2:=Lib.hid (show ExcAt w.heap.size W2 from HX1.out.grown (grown_trans (by repeat (first | with_reducible exact Grown.refl _ | with_reducible refine Grown.setCell ?_ (by simp <;> omega) _ | with_reducible refine Grown.alloc ?_ _ _ | with_reducible refine grown_more ?_ _ | with_reducible refine Grown.drew ?_)) hW2))
   clear hW2
   go_wp2_with fail
   have HX4:=Lib.hid (HX2.out.under2 #[.bool n,.int .i64 x,.int .u64 p] #[.bool m,.int .i64 y,.int .u64 q] 124 124)
   have HG4:=Lib.hid (Grown.alloc (Grown.alloc HG2.out #[.bool n,.int .i64 x,.int .u64 p] 124) #[.bool m,.int .i64 y,.int .u64 q] 124)
   obtain ⟨hp4,hq4⟩:=parts_two W2 n m x y p q 124
   have HPX4:=Lib.hid hp4
   have HPY4:=Lib.hid hq4
   clear hp4 hq4
   generalize ((W2.alloc _).alloc _)=W4 at HX4 HG4 HPX4 HPY4 ⊢
   obtain ⟨xb,x0,x1,x2,x3,x4,z0,z1,z2,z3,z4⟩:=HX4.out
   go_wp2_with (go_at_call 104;refine (inf_any _ _ _).mono ?_;rintro e w' ⟨rfl,rfl⟩)
   (try simp only [Exit.inBlock,Exit.then])
   refine bodyPost_ret ?_ rfl ⟨(divZ_is _).trans HQ.out.symm,?_⟩
   ·rw [results_tmp_cell rfl]
    go_simp
   ·repeat (first | with_reducible exact HG4.out | with_reducible refine Grown.setCell ?_ (by simp <;> omega) _ | with_reducible refine Grown.alloc ?_ _ _ | with_reducible refine grown_more ?_ _ | with_reducible refine Grown.drew ?_)
  ·exact dx_9
  ·have p0:=HP0.out (by assumption) (by assumption) (by assumption) (by assumption)
   have q0:=HQ0.out (by assumption) (by assumption) (by assumption) (by assumption)
   clear HP0 HQ0
   have HQ:=Lib.hid (show divE f mode a b=quoE f mode s (x - y) p.toNat q.toNat by rw [HM.out];simp [*])
   clear HM
   obtain ⟨i,i0,i1,i2,i3,i4,hR⟩:=qraise_any n x p (by omega) (by omega) p0 hpb
   have hdiv:=quo_div f mode s x y p q i p0 q0 hqb (by omega) (by omega) (by omega) (by omega) i1 i3
   rw [←HQ.out] at hdiv
   obtain ⟨P,hP⟩:∃ P,p*2^i=P:=⟨_,rfl⟩
   obtain ⟨X,hX⟩:∃ X,x - (i:Int)=X:=⟨_,rfl⟩
   rw [hP] at i3 i4 hdiv
   rw [hX] at hdiv
   have HR:=Lib.hid (show ∀ w,Calls Tryz.prog 130 #[.agg #[.bool n,.int .i64 x,.int .u64 p]] w fun e' w'=>e'=.returned (.agg #[.bool n,.int .i64 X,.int .u64 P])∧Grown w w' by rw [←hP,←hX];exact hR)
   have X0:-300≤X:=by omega
   have X1:X≤300:=by omega
   obtain ⟨D,hD⟩:∃ D,P.tdiv q=D:=⟨_,rfl⟩
   obtain ⟨E,hE⟩:∃ E,P.tmod q=E:=⟨_,rfl⟩
   have hY:¬q=0:=by omega
   have hXY:IntKind.i64.wrap (X - y)=X - y:=by rw [IntKind.wrap_i64];omega
   have hD2:D=P / q:=by rw [←hD];exact Int.tdiv_eq_ediv_of_nonneg (by omega)
   have hE2:E=P%q:=by rw [←hE];exact Int.tmod_eq_emod_of_nonneg (by omega)
   have D0:0≤D:=by rw [hD2];exact Int.ediv_nonneg (by omega) (by omega)
   have D1:D≤18446744073709551615:=by
    have:=Int.ediv_le_self q (show 0≤P by omega)
    omega
   have hDw:IntKind.u64.wrap D=D:=u64w D D0 (by omega)
   have hb:(E != 0)=decide (P%q≠0):=by rw [hE2,Bool.eq_iff_iff];simp
   rw [←hD2,←hb] at hdiv
   have HFin:=Lib.hid hdiv
   clear hdiv hR hP hX hb hD2 hE2
   obtain ⟨K,hK⟩:∃ K,(A==B)=K:=⟨_,rfl⟩
   cases K
   all_goals
    go_enter Tryz.func84,Tryz.ntmps84
    go_wp2_with (go_at_call 100;refine (class_any _ _ _ (by omega) (by omega)).mono ?_;rintro e w' ⟨he,dm,rfl⟩;(first | rw [HA.out] at he | rw [HB.out] at he);subst he)
    refine (qunpack_any f a _ a0 a1).mono ?_
    rintro e W1 ⟨he,hW1⟩
    rw [HUa.out] at he
    subst he
    have HG1:=Lib.hid (show Grown w W1 from grown_trans (by repeat (first | with_reducible exact HG0.out | with_reducible refine Grown.setCell ?_ (by simp <;> omega) _ | with_reducible refine Grown.alloc ?_ _ _ | with_reducible refine grown_more ?_ _ | with_reducible refine Grown.drew ?_)) hW1)
    have HX1:=Lib.hid (show ExcAt w.heap.size W1 from HX0.out.grown (grown_trans (by repeat (first | with_reducible exact Grown.refl _ | with_reducible refine Grown.setCell ?_ (by simp <;> omega) _ | with_reducible refine Grown.alloc ?_ _ _ | with_reducible refine grown_more ?_ _ | with_reducible refine Grown.drew ?_)) hW1))
    clear hW1
    go_wp2_with fail
    refine (qunpack_any f b _ b0 b1).mono ?_
    rintro e W2 ⟨he,hW2⟩
    rw [HUb.out] at he
    subst he
    have HG2:=Lib.hid (show Grown w W2 from grown_trans (by repeat (first | with_reducible exact HG1.out | with_reducible refine Grown.setCell ?_ (by simp <;> omega) _ | with_reducible refine Grown.alloc ?_ _ _ | with_reducible refine grown_more ?_ _ | with_reducible refine Grown.drew ?_)) hW2)
    have HX2:=Lib.hid (show ExcAt w.heap.size W2 from HX1.out.grown (grown_trans (by repeat (first | with_reducible exact Grown.refl _ | with_reducible refine Grown.setCell ?_ (by simp <;> omega) _ | with_reducible refine Grown.alloc ?_ _ _ | with_reducible refine grown_more ?_ _ | with_reducible refine Grown.drew ?_)) hW2))
    clear hW2
    go_wp2_with fail
    have HX4:=Lib.hid (HX2.out.under2 #[.bool n,.int .i64 x,.int .u64 p] #[.bool m,.int .i64 y,.int .u64 q] 124 124)
    have HG4:=Lib.hid (Grown.alloc (Grown.alloc HG2.out #[.bool n,.int .i64 x,.int .u64 p] 124) #[.bool m,.int .i64 y,.int .u64 q] 124)
    obtain ⟨hp4,hq4⟩:=parts_two W2 n m x y p q 124
    have HPX4:=Lib.hid hp4
    have HPY4:=Lib.hid hq4
    clear hp4 hq4
    generalize ((W2.alloc _).alloc _)=W4 at HX4 HG4 HPX4 HPY4 ⊢
    refine (HR.out _).mono ?_
    rintro e W5 ⟨he,hW5⟩
    subst he
    have HG5:=Lib.hid (show Grown w W5 from grown_trans (by repeat (first | with_reducible exact HG4.out | with_reducible refine Grown.setCell ?_ (by simp <;> omega) _ | with_reducible refine Grown.alloc ?_ _ _ | with_reducible refine grown_more ?_ _ | with_reducible refine Grown.drew ?_)) hW5)
    have HX5:=Lib.hid (show ExcAt w.heap.size W5 from HX4.out.grown (grown_trans (by repeat (first | with_reducible exact Grown.refl _ | with_reducible refine Grown.setCell ?_ (by simp <;> omega) _ | with_reducible refine Grown.alloc ?_ _ _ | with_reducible refine grown_more ?_ _ | with_reducible refine Grown.drew ?_)) hW5))
    have HPX5:=Lib.hid (HPX4.out.grown hW5)
    have HPY5:=Lib.hid (HPY4.out.grown hW5)
    clear hW5
    obtain ⟨xb,x0,x1,x2,x3,x4,z0,z1,z2,z3,z4⟩:=HX5.out
    obtain ⟨pl,p0',p1,p2,r0,r1,r2⟩:=HPX5.out
    obtain ⟨ql,q0',q1,q2,t0,t1,t2⟩:=HPY5.out
    go_wp2_with fail
    have HG6:=Lib.hid (show Grown w (((W5.setCell ⟨W2.heap.size,0,none⟩ (.bool n)).setCell ⟨W2.heap.size,1,none⟩ (.int .i64 X)).setCell ⟨W2.heap.size,2,none⟩ (.int .u64 P)) by
     have h2:=HG2.out.2.2
     repeat (first | with_reducible exact HG5.out | with_reducible refine Grown.setCell ?_ (by simp <;> omega) _ | with_reducible refine Grown.alloc ?_ _ _ | with_reducible refine grown_more ?_ _ | with_reducible refine Grown.drew ?_))
    have HX6:=Lib.hid (exc_stored HX5.out W2.heap.size (by have h2:=HX2.out.lies;omega) n X P)
    have HPX6:=Lib.hid (part_stored HPX5.out n X P)
    have HPY6:=Lib.hid (part_beside HPY5.out W2.heap.size (by omega) n X P)
    clear xb x0 x1 x2 x3 x4 z0 z1 z2 z3 z4 pl p0' p1 p2 r0 r1 r2 ql q0' q1 q2 t0 t1 t2
    generalize (((W5.setCell _ _).setCell _ _).setCell _ _)=W6 at HG6 HX6 HPX6 HPY6 ⊢
    obtain ⟨pl,p0',p1,p2,r0,r1,r2⟩:=HPX6.out
    obtain ⟨ql,q0',q1,q2,t0,t1,t2⟩:=HPY6.out
    obtain ⟨xb,x0,x1,x2,x3,x4,z0,z1,z2,z3,z4⟩:=HX6.out
    have hk:w.heap.size<W2.heap.size:=HX2.out.lies
    have hk1:¬w.heap.size=W2.heap.size:=by omega
    have hk2:¬w.heap.size=W2.heap.size+1:=by omega
    have hk3:¬W2.heap.size=w.heap.size:=by omega
    have hk4:¬W2.heap.size+1=w.heap.size:=by omega
    go_region_held3 (fun w'=>w'.cell? ⟨W2.heap.size,1,none⟩=some (.int .i64 X)∧w'.cell? ⟨W2.heap.size,2,none⟩=some (.int .u64 P)∧w'.cell? ⟨W2.heap.size+1,1,none⟩=some (.int .i64 y)∧w'.cell? ⟨W2.heap.size+1,2,none⟩=some (.int .u64 q)) (go_keep) (first | (go_at_call 97;refine (pack_any _ _ _ _ _ _ _ (by omega) (by omega) (by omega) (by omega)).mono ?_;rintro e W7 ⟨he,hW7⟩;rw [exc_agg] at he;subst he;have HG7:=Lib.hid (show Grown w W7 from grown_trans (by repeat (first | with_reducible exact HG6.out | with_reducible refine grown_more ?_ _ | with_reducible refine Grown.drew ?_)) hW7);have HX7:=Lib.hid (show ExcAt w.heap.size W7 from HX6.out.grown (grown_trans (by repeat (first | with_reducible exact Grown.refl _ | with_reducible refine grown_more ?_ _ | with_reducible refine Grown.drew ?_)) hW7));have HPX7:=Lib.hid (show PartAt W2.heap.size n X P W7 from HPX6.out.grown (grown_trans (by repeat (first | with_reducible exact Grown.refl _ | with_reducible refine grown_more ?_ _ | with_reducible refine Grown.drew ?_)) hW7));have HPY7:=Lib.hid (show PartAt (W2.heap.size+1) m y q W7 from HPY6.out.grown (grown_trans (by repeat (first | with_reducible exact Grown.refl _ | with_reducible refine grown_more ?_ _ | with_reducible refine Grown.drew ?_)) hW7));clear hW7 xb x0 x1 x2 x3 x4 z0 z1 z2 z3 z4 pl p0' p1 p2 r0 r1 r2 ql q0' q1 q2 t0 t1 t2;obtain ⟨xb,x0,x1,x2,x3,x4,z0,z1,z2,z3,z4⟩:=HX7.out;obtain ⟨pl,p0',p1,p2,r0,r1,r2⟩:=HPX7.out;obtain ⟨ql,q0',q1,q2,t0,t1,t2⟩:=HPY7.out))
    all_goals
     go_wp2
     (try simp only [Exit.inBlock,Exit.then])
     refine bodyPost_ret ?_ rfl ⟨(packE_is _ _ _ _).trans HFin.out,?_⟩
     ·rw [results_tmp_cell rfl]
      go_simp
     ·repeat (first | with_reducible exact HG7.out | with_reducible refine Grown.setCell ?_ (by simp <;> omega) _ | with_reducible refine Grown.alloc ?_ _ _ | with_reducible refine grown_more ?_ _ | with_reducible refine Grown.drew ?_)
end Go.Proofs.YteifobleigfbaaaGreat
