/- The contracts of package conv: To, Widen, Narrow. -/
import Derived.Test.YteifobleigfbaaaGreatDict
import Derived.Test.YteifobleigfbaaaGreatFunMath
import Derived.Test.YteifobleigfbaaaGreatRd
import Derived.KernelRfl
import Derived.StillTailTactics
import Derived.Handy
namespace Go.Proofs.YteifobleigfbaaaGreat
open Go.RowKit
set_option linter.unusedVariables false
set_option linter.unusedSimpArgs false

theorem brain_two (A B:Nat):((A:Int)*65536+8388608).toNat*2^((-149:Int)+B - 1+10100).toNat=((A:Int)+128).toNat*2^((-133:Int)+B - 1+10100).toNat:=by
 obtain ⟨M,hM⟩:∃ M:Nat,((A:Int)+128).toNat=M:=⟨_,rfl⟩
 obtain ⟨E,hE⟩:∃ E:Nat,((-149:Int)+B - 1+10100).toNat=E:=⟨_,rfl⟩
 have h1:((A:Int)*65536+8388608).toNat=M*65536:=by omega
 have h2:((-133:Int)+B - 1+10100).toNat=E+16:=by omega
 rw [h1,h2,hM,hE,Nat.pow_add,Nat.mul_assoc,Nat.mul_comm 65536]

theorem brain_wide (m a:Int) (h:finI 1 a=true):conV 1 2 m a=a%65536*65536:=by
 have hlt:=fin_lt 1 a h
 have t1:topx 1=255:=by decide
 have t2:topx 2=255:=by decide
 have h1:hid 1=128:=by decide
 have h2:hid 2=8388608:=by decide
 have l1:lst 1=-133:=by decide
 have l2:lst 2=-149:=by decide
 have s1:sgb 1=32768:=by decide
 have s2:sgb 2=2147483648:=by decide
 have hx:fX 2 (a%65536*65536)=fX 1 a:=by unfold fX;rw [t1,t2,h1,h2];omega
 have hf:fF 2 (a%65536*65536)=fF 1 a*65536:=by unfold fF;rw [h1,h2];omega
 have hF:=fF_bd 1 a
 have hX:=fX_bd 1 a
 refine (con_exact 1 2 m a (a%65536*65536) h (by omega) (by rw [show msk 2=4294967295 by decide];omega) ?_ ?_ ?_).1
 ·unfold finI;rw [hx,t2];rw [t1] at hlt;exact decide_eq_true hlt
 ·unfold fS;rw [s1,s2]
  rw [show a%65536*65536 / 2147483648%2=a / 32768%2 by omega]
 ·obtain ⟨A,hA⟩:∃ A:Nat,fF 1 a=A:=⟨(fF 1 a).toNat,by omega⟩
  obtain ⟨B,hB⟩:∃ B:Nat,fX 1 a=B:=⟨(fX 1 a).toNat,by omega⟩
  rw [t1,hB] at hlt
  have key:∀ M E:Nat,M*65536*2^E=M*2^(E+16):=by
   intro M E;rw [Nat.pow_add,Nat.mul_assoc,Nat.mul_comm 65536]
  unfold numN unM unE
  rw [hx,hf,t1,t2,h1,h2,l1,l2,hA,hB]
  have n255:¬(B:Int)=255:=by omega
  simp only [if_neg n255]
  by_cases z:(B:Int)=0
  ·simp only [if_pos z]
   rw [show ((A:Int)*65536).toNat=A*65536 by omega,show ((-149:Int)+10100).toNat=9951 by omega,show ((-133:Int)+10100).toNat=9951+16 by omega]
   exact key A 9951
  ·simp only [if_neg z]
   exact brain_two A B

theorem con_six (f a:Int):
  ((clsI f a==3)=false∧(clsI f a==4)=false∧(clsI f a==5)=false∧nanB f a=false∧infB f a=false)∨(clsI f a=3∧nanB f a=false∧infB f a=true)∨(clsI f a=4∧nanB f a=true∧sigB f a=false)∨(clsI f a=5∧nanB f a=true∧sigB f a=true):=by
 have c:=cls_cases f a
 unfold nanB infB sigB
 rcases c with ⟨c,x,y⟩ | ⟨c,x,y⟩ | ⟨c,x,y⟩ | ⟨c,x,y⟩ | ⟨c,x,y⟩ | ⟨c,x,y⟩ <;> rw [c] <;> simp

set_option maxRecDepth 100000 in
set_option maxHeartbeats 4000000 in
theorem cto_any (f g mode a:Int) (w:World) (a0:0≤a) (a1:a≤4294967295):
  Calls Tryz.prog 99 #[.int .i64 f,.int .i64 g,.int .i64 mode,.int .u32 a] w fun e w'=>e=conE f g mode a∧Grown w w':=by
 have HE:=Lib.hid (exc_new w 75)
 have HG:=Lib.hid (Grown.alloc (Grown.refl w) #[.bool false,.bool false,.bool false,.bool false,.bool false] 75)
 obtain ⟨e0,e1⟩:=unE_bd f a
 obtain ⟨m0,m1⟩:=unM_bd f a
 have hk1:=con_nan f g mode a
 have hk2:=con_inf f g mode a
 have hk3:=con_fin f g mode a
 have h6:=con_six f a
 obtain ⟨K,hK⟩:∃ K,clsI f a=K:=⟨_,rfl⟩
 obtain ⟨NN,hNN⟩:∃ NN,nanB f a=NN:=⟨_,rfl⟩
 obtain ⟨SS,hSS⟩:∃ SS,sigB f a=SS:=⟨_,rfl⟩
 obtain ⟨II,hII⟩:∃ II,infB f a=II:=⟨_,rfl⟩
 obtain ⟨s,hs⟩:∃ s,fS f a=s:=⟨_,rfl⟩
 obtain ⟨x,hx⟩:∃ x,unE f a=x:=⟨_,rfl⟩
 obtain ⟨p,hp⟩:∃ p,unM f a=p:=⟨_,rfl⟩
 have HUa:=Lib.hid (show Ending.returned (.tuple #[.bool (fS f a),.int .i64 (unE f a),.int .u64 (unM f a)])=.returned (.tuple #[.bool s,.int .i64 x,.int .u64 p]) by rw [hs,hx,hp])
 have HC:=Lib.hid (show Ending.returned (.int .i64 (clsI f a))=.returned (.int .i64 K) by rw [hK])
 rw [hNN,hSS] at hk1
 rw [hNN,hII,hs] at hk2
 rw [hNN,hII,hs,hx,hp] at hk3
 rw [hK,hNN,hII,hSS] at h6
 rw [hx] at e0 e1
 rw [hp] at m0 m1
 clear hK hNN hSS hII hs hx hp
 rcases h6 with ⟨c3,c4,c5,rfl,rfl⟩ | ⟨rfl,rfl,rfl⟩ | ⟨rfl,rfl,rfl⟩ | ⟨rfl,rfl,rfl⟩
 ·have HQ:=Lib.hid (hk3 rfl rfl)
  clear hk1 hk2 hk3
  go_enter Tryz.func99,Tryz.ntmps99
  obtain ⟨xb,x0,x1,x2,x3,x4,z0,z1,z2,z3,z4⟩:=HE.out
  go_wp2_with (first
   | (go_at_call 103;refine (nan_any _ _).mono ?_;rintro e w' ⟨rfl,rfl⟩)
   | (go_at_call 104;refine (inf_any _ _ _).mono ?_;rintro e w' ⟨rfl,rfl⟩)
   | (go_at_call 100;refine (class_any _ _ _ a0 a1).mono ?_;rintro e w' ⟨he,dm,rfl⟩;rw [HC.out] at he;subst he)
   | (go_at_call 145;refine (unpack_any _ _ _ a0 a1).mono ?_;rintro e w' ⟨he,dm,rfl⟩;rw [HUa.out] at he;subst he))
  refine (pack_any _ _ _ _ _ _ _ (by omega) (by omega) (by omega) (by omega)).mono ?_
  exact dx_40
 ·have HQ:=Lib.hid (hk2 rfl rfl)
  exact dx_23
 ·have HQ:=Lib.hid (hk1 rfl)
  exact dx_23
 ·have HQ:=Lib.hid (hk1 rfl)
  exact dx_23

set_option maxHeartbeats 1000000 in
theorem cwiden_any (f a:Int) (w:World) (a0:0≤a) (a1:a≤4294967295):
  Calls Tryz.prog 63 #[.int .i64 f,.int .u32 a] w fun e w'=>e=.returned (.int .u32 (conV f 2 0 a))∧Grown w w':=by
 have HG:=Lib.hid (Grown.refl w)
 by_cases c:f=1
 ·subst c
  obtain ⟨B,hB⟩:∃ B,finI 1 a=B:=⟨_,rfl⟩
  have HF:=Lib.hid (show Ending.returned (.bool (finI 1 a))=.returned (.bool B) by rw [hB])
  cases B
  ·go_enter Tryz.func63,Tryz.ntmps63
   go_wp2_with (first
    | (go_at_call 98;refine (finite_any _ _ _ a0 a1).mono ?_;rintro e w' ⟨he,dm,rfl⟩;rw [HF.out] at he;subst he)
    | (go_at_call 99;refine (cto_any _ _ _ _ _ a0 a1).mono ?_;rintro e W1 ⟨he,hW⟩;unfold conE at he;subst he;replace HG:=Lib.hid (show Grown w W1 from grown_trans (by repeat (first | with_reducible exact HG.out | with_reducible refine Grown.setCell ?_ (by simp <;> omega) _ | with_reducible refine Grown.alloc ?_ _ _ | with_reducible refine grown_more ?_ _ | with_reducible refine Grown.drew ?_)) hW);clear hW))
   exact dx_29
  ·have hw:IntKind.u32.wrap (a*65536)=conV 1 2 0 a:=by rw [brain_wide 0 a hB,IntKind.wrap_u32];omega
   go_enter Tryz.func63,Tryz.ntmps63
   go_wp2_with (first
    | (go_at_call 98;refine (finite_any _ _ _ a0 a1).mono ?_;rintro e w' ⟨he,dm,rfl⟩;rw [HF.out] at he;subst he))
   exact dx_29
 ·have c':(f==1)=false:=by simp [c]
  go_enter Tryz.func63,Tryz.ntmps63
  go_wp2_with (first
   | (go_at_call 99;refine (cto_any _ _ _ _ _ a0 a1).mono ?_;rintro e W1 ⟨he,hW⟩;unfold conE at he;subst he;replace HG:=Lib.hid (show Grown w W1 from grown_trans (by repeat (first | with_reducible exact HG.out | with_reducible refine Grown.setCell ?_ (by simp <;> omega) _ | with_reducible refine Grown.alloc ?_ _ _ | with_reducible refine grown_more ?_ _ | with_reducible refine Grown.drew ?_)) hW);clear hW))
  exact dx_29
end Go.Proofs.YteifobleigfbaaaGreat
