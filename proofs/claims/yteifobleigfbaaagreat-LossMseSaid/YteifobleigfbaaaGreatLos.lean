/- The contracts of the landed package loss: one number and another, a tensor's numbers, its rows, labels, the greatest, the first of the greatest. (Written by gen65.py.) -/
import Derived.Test.YteifobleigfbaaaGreatLosM
import Derived.Test.YteifobleigfbaaaGreatTsr
import Derived.Test.YteifobleigfbaaaGreatAdd
import Derived.Test.YteifobleigfbaaaGreatPFma
import Derived.Test.YteifobleigfbaaaGreatQuoA
import Derived.Test.YteifobleigfbaaaGreatWho
import Derived.Test.YteifobleigfbaaaGreatCon
import Derived.Test.YteifobleigfbaaaGreatOrd
import Derived.Test.YteifobleigfbaaaGreatFun
import Derived.Deep.RegionHeld3
import Derived.StillTailTactics
import Derived.KernelRfl
namespace Go.Proofs.YteifobleigfbaaaGreat
open Go Go.RowKit
set_option linter.unusedVariables false
set_option linter.unusedSimpArgs false

set_option maxHeartbeats 1000000 in
theorem ladd_any (a b:Int) (w:World) (a0:0≤a) (a1:a≤4294967295) (b0:0≤b) (b1:b≤4294967295):
  Calls Tryz.prog 29 #[.int .u32 a,.int .u32 b] w fun e w'=>e=.returned (.int .u32 (addV a b))∧0≤addV a b∧addV a b≤4294967295∧Grown w w':=by
 obtain ⟨V,hV⟩:∃ V,addV a b=V:=⟨_,rfl⟩
 obtain ⟨q1,q2,q3,q4,q5,hs,h0,h1⟩:=op_val (add_shapeE 2 0 a b) hV
 rw [hV]
 have HS:=Lib.hid hs
 clear hs hV
 go_enter Tryz.func29,Tryz.ntmps29
 go_wp2_with fail
 refine (sadd_any 2 0 a b _ a0 a1 b0 b1).mono ?_
 rintro e W1 ⟨he,hW1⟩
 rw [HS.out] at he
 subst he
 have HG:=Lib.hid hW1
 clear hW1
 go_wp2
 go_ret
 exact ⟨rfl,h0,h1,gr⟩

set_option maxHeartbeats 1000000 in
theorem lsub_any (a b:Int) (w:World) (a0:0≤a) (a1:a≤4294967295) (b0:0≤b) (b1:b≤4294967295):
  Calls Tryz.prog 43 #[.int .u32 a,.int .u32 b] w fun e w'=>e=.returned (.int .u32 (subV a b))∧0≤subV a b∧subV a b≤4294967295∧Grown w w':=by
 obtain ⟨V,hV⟩:∃ V,subV a b=V:=⟨_,rfl⟩
 obtain ⟨q1,q2,q3,q4,q5,hs,h0,h1⟩:=op_val (sub_shapeE 2 0 a b) hV
 rw [hV]
 have HS:=Lib.hid hs
 clear hs hV
 go_enter Tryz.func43,Tryz.ntmps43
 go_wp2_with fail
 refine (ssub_any 2 0 a b _ a0 a1 b0 b1).mono ?_
 rintro e W1 ⟨he,hW1⟩
 rw [HS.out] at he
 subst he
 have HG:=Lib.hid hW1
 clear hW1
 go_wp2
 go_ret
 exact ⟨rfl,h0,h1,gr⟩

set_option maxHeartbeats 1000000 in
theorem lfma_any (a b c:Int) (w:World) (a0:0≤a) (a1:a≤4294967295) (b0:0≤b) (b1:b≤4294967295) (c0:0≤c) (c1:c≤4294967295):
  Calls Tryz.prog 44 #[.int .u32 a,.int .u32 b,.int .u32 c] w fun e w'=>e=.returned (.int .u32 (fmaV a b c))∧0≤fmaV a b c∧fmaV a b c≤4294967295∧Grown w w':=by
 obtain ⟨V,hV⟩:∃ V,fmaV a b c=V:=⟨_,rfl⟩
 obtain ⟨q1,q2,q3,q4,q5,hs,h0,h1⟩:=op_val (fma_shape 2 0 a b c) hV
 rw [hV]
 have HS:=Lib.hid hs
 clear hs hV
 go_enter Tryz.func44,Tryz.ntmps44
 go_wp2_with fail
 refine (pfma_any 2 0 a b c _ a0 a1 b0 b1 c0 c1).mono ?_
 rintro e W1 ⟨he,hW1⟩
 rw [HS.out] at he
 subst he
 have HG:=Lib.hid hW1
 clear hW1
 go_wp2
 go_ret
 exact ⟨rfl,h0,h1,gr⟩

set_option maxHeartbeats 1000000 in
theorem ldiv_any (a b:Int) (w:World) (a0:0≤a) (a1:a≤4294967295) (b0:0≤b) (b1:b≤4294967295):
  Calls Tryz.prog 45 #[.int .u32 a,.int .u32 b] w fun e w'=>e=.returned (.int .u32 (divV a b))∧0≤divV a b∧divV a b≤4294967295∧Grown w w':=by
 obtain ⟨V,hV⟩:∃ V,divV a b=V:=⟨_,rfl⟩
 obtain ⟨q1,q2,q3,q4,q5,hs,h0,h1⟩:=op_val (div_shape 2 0 a b) hV
 rw [hV]
 have HS:=Lib.hid hs
 clear hs hV
 go_enter Tryz.func45,Tryz.ntmps45
 go_wp2_with fail
 refine (qdiv_any 2 0 a b _ a0 a1 b0 b1).mono ?_
 rintro e W1 ⟨he,hW1⟩
 rw [HS.out] at he
 subst he
 have HG:=Lib.hid hW1
 clear hW1
 go_wp2
 go_ret
 exact ⟨rfl,h0,h1,gr⟩

set_option maxHeartbeats 1000000 in
theorem lint_any (v:Int) (w:World) (v0:-9223372036854775808≤v) (v1:v≤9223372036854775807):
  Calls Tryz.prog 27 #[.int .i64 v] w fun e w'=>e=.returned (.int .u32 (frmV v))∧0≤frmV v∧frmV v≤4294967295∧Grown w w':=by
 obtain ⟨V,hV⟩:∃ V,frmV v=V:=⟨_,rfl⟩
 obtain ⟨q1,q2,q3,q4,q5,hs,h0,h1⟩:=op_val (from_shapeE 2 0 v) hV
 rw [hV]
 have HS:=Lib.hid hs
 clear hs hV
 go_enter Tryz.func27,Tryz.ntmps27
 go_wp2_with fail
 refine (wfromint_any 2 0 v _ v0 v1).mono ?_
 rintro e W1 ⟨he,hW1⟩
 rw [HS.out] at he
 subst he
 have HG:=Lib.hid hW1
 clear hW1
 go_wp2
 go_ret
 exact ⟨rfl,h0,h1,gr⟩

set_option maxRecDepth 100000 in
theorem lwide_nil (R C F:Int) (ad:Option Addr) (c:Nat) (w:World):
  Calls Tryz.prog 28 #[.agg #[.int .i64 R,.int .i64 C,.int .i64 F,.slice ad 0 c]] w fun e w'=>e=.returned (.slice none 0 0)∧Grown w w':=by
 go_enter Tryz.func28,Tryz.ntmps28
 go_wp2_with (at_builtin;refine wpList_append_none rfl _ _ 22 rfl 29 _ rfl rfl rfl rfl ad c rfl ?_)
 refine wp_loop_rounds 1 ?_
 rw [rounds_succ]
 go_wp2
 go_ret
 exact ⟨rfl,gr⟩

set_option maxRecDepth 100000 in
set_option maxHeartbeats 1000000 in
theorem lwide_some (R C F:Int) (ad:Option Addr) (n c:Nat) (g:Nat→Int) (w:World) (hn:n≤16777216) (hn0:0<n) (hr:Reads ad n g w):
  Calls Tryz.prog 28 #[.agg #[.int .i64 R,.int .i64 C,.int .i64 F,.slice ad n c]] w fun e w'=>∃ ad' c',e=.returned (.slice ad' n c')∧OwnS ad' n c' (fun i=>widV F g i) w w'∧Lay ad' n c'∧Grown w w':=by
 have H1:=Lib.hid hr
 have HT:=Lib.hid (ten_new w (.int .i64 R) (.int .i64 C) (.int .i64 F) (.slice ad n c) 24)
 have HB:=Lib.hid hr.1
 have HQ:=Lib.hid (wid_bd F g)
 have HW:Hid (∀ i,widV F g i=conV F 2 0 (g i)):=Lib.hid fun i=>rfl
 generalize hq:widV F g=q at*
 have HG:=Lib.hid (show Grown w (w.alloc (.cells #[.int .i64 R,.int .i64 C,.int .i64 F,.slice ad n c] 24)) from gr)
 clear hr hq
 go_enter Tryz.func28,Tryz.ntmps28
 go_wp2_with (at_builtin;refine wpList_append_copy rfl _ _ 22 rfl 29 _ _ 4 rfl rfl rfl rfl rfl rfl ad n c g rfl (H1.out.grown HG.out) (by show n≤9223372036854775807;omega) (by omega) ?_;intro ad' c' W5 own5 hgr5)
 have hW5:=hgr5 _ (Grown.refl _)
 replace HT:=Lib.hid (HT.out.grown hW5)
 replace HG:=Lib.hid (grown_trans HG.out hW5)
 have hz:w.heap.size<(w.alloc (.cells #[.int .i64 R,.int .i64 C,.int .i64 F,.slice ad n c] 24)).heap.size:=by simp
 rcases own5 with ⟨rfl,rfl,rfl⟩ | ⟨B,rfl,hB,hRo,hc'⟩
 ·exact absurd hn0 (Nat.lt_irrefl 0)
 ·have HE:Hid (WiS w B n (.int .i64 R) (.int .i64 C) (.int .i64 F) (.slice ad n c) (fun t=>if t<0 then q t else g t) W5):=Lib.hid ⟨HG.out,HT.out,hRo.congr (fun t ht=>if_neg (Nat.not_lt_zero t)),by omega⟩
  clear HT HG hW5 hgr5 hRo hB hz
  go_loopw [4,5,11] (fun _ _ i wr=>∃ k:Nat,k≤n∧i=.int .i64 k∧Hid (WiS w B n (.int .i64 R) (.int .i64 C) (.int .i64 F) (.slice ad n c) (fun t=>if t<k then q t else g t) wr)) (fun _ _ i _=>n - (intOf i).toNat)
  case atStart=>exact ⟨0,Nat.zero_le _,rfl,HE⟩
  case round=>
   rename World=>wr
   clear HE
   obtain ⟨k,hk,rfl,HE⟩:=hrel
   by_cases hlt:k<n
   ·have y:=(HE.out.r.cell k hlt).trans (by rw [if_neg (Nat.lt_irrefl k)])
    obtain ⟨x0,x1⟩:=HB.out k hlt
    obtain ⟨p0,p1,p2,p3,p4,-,-,-,-⟩:=HE.out.t1
    obtain ⟨x,hx⟩:∃ x,g k=x:=⟨_,rfl⟩
    have HU:=Lib.hid (show conV F 2 0 x=q k by rw [HW.out,hx])
    rw [hx] at y x0 x1
    clear hx
    go_wp2_with fail
    refine (cwiden_any F x _ x0 x1).mono ?_
    rintro e W6 ⟨he,hW6⟩
    rw [HU.out] at he
    subst he
    replace HE:=Lib.hid (HE.out.grown hW6)
    have y:=(HE.out.r.cell k hlt).trans (by rw [if_neg (Nat.lt_irrefl k)])
    have z:=HE.out.r.free k
    clear hW6 p0 p1 p2 p3 p4
    go_wp2
    go_roundw
    case rel=>exact ⟨k+1,by omega,by go_num,Lib.hid (HE.out.set (by show (if k<k+1 then q k else g k)=_;rw [if_pos (Nat.lt_succ_self k)]) (fun t ht=>by
     show (if t<k+1 then q t else g t)=if t<k then q t else g t
     by_cases c:t<k
     ·rw [if_pos c,if_pos (by omega)]
     ·rw [if_neg c,if_neg (by omega)]))⟩
    case measure=>simp [intOf];omega
   ·obtain rfl:k=n:=by omega
    have ho:=HE.out.o
    go_wp2
    go_ret
    exact ⟨_,_,rfl,.inr ⟨B,rfl,by omega,HE.out.r.congr (fun t ht=>(if_pos ht).symm),hc'⟩,⟨fun h=>absurd h (by omega),fun _=>⟨hc',B,rfl⟩⟩,HE.out.g⟩

theorem lwide_any (R C F:Int) (ad:Option Addr) (n c:Nat) (g:Nat→Int) (w:World) (hn:n≤16777216) (hr:Reads ad n g w):
  Calls Tryz.prog 28 #[.agg #[.int .i64 R,.int .i64 C,.int .i64 F,.slice ad n c]] w fun e w'=>∃ ad' c',e=.returned (.slice ad' n c')∧OwnS ad' n c' (fun i=>widV F g i) w w'∧Lay ad' n c'∧Grown w w':=by
 rcases Nat.eq_zero_or_pos n with rfl | h
 ·exact (lwide_nil R C F ad c w).mono fun e w' q=>⟨none,0,q.1,.inl ⟨rfl,rfl,rfl⟩,⟨fun _=>⟨rfl,rfl⟩,fun h=>absurd h (Nat.lt_irrefl 0)⟩,q.2⟩
 ·exact lwide_some R C F ad n c g w hn h hr

theorem lshare_any (j label:Int) (w:World):
  Calls Tryz.prog 67 #[.int .i64 j,.int .i64 label] w fun e w'=>e=.returned (.int .u32 (if j=label then 1065353216 else 0))∧w=w':=by
 by_cases c:j=label
 ·have h1:(j==label)=true:=by simp [c]
  rw [if_pos c]
  clear c
  go_enter Tryz.func67,Tryz.ntmps67
  go_wp2
  go_ret
  exact ⟨rfl,rfl⟩
 ·have h1:(j==label)=false:=by simp [c]
  rw [if_neg c]
  clear c
  go_enter Tryz.func67,Tryz.ntmps67
  go_wp2
  go_ret
  exact ⟨rfl,rfl⟩

theorem lmean_any (R C F:Int) (ad:Option Addr) (n c:Nat) (so m:Int) (w:World) (s0:0≤so) (s1:so≤4294967295) (m0:0≤m) (m1:m≤4294967295):
  Calls Tryz.prog 32 #[.agg #[.int .i64 R,.int .i64 C,.int .i64 F,.slice ad n c],.int .u32 so,.int .u32 m] w fun e w'=>e=.returned (.int .u32 (if R=0 then 0 else divV so m))∧Grown w w':=by
 by_cases c0:R=0
 ·subst c0
  rw [if_pos rfl]
  go_enter Tryz.func32,Tryz.ntmps32
  go_wp2
  go_ret
  exact ⟨rfl,gr⟩
 ·have h1:(R==0)=false:=by simp [c0]
  rw [if_neg c0]
  clear c0
  go_enter Tryz.func32,Tryz.ntmps32
  go_wp2_with (go_at_call 45;refine (ldiv_any so m _ s0 s1 m0 m1).mono ?_;rintro e W1 ⟨rfl,-,-,hW1⟩;have HG:=Lib.hid (show Grown w W1 from grown_trans gr hW1);clear hW1)
  go_ret
  exact ⟨rfl,gr⟩

theorem lshaped_any (R C F:Int) (ad bd:Option Addr) (n c bn bc:Nat) (w:World):
  Calls Tryz.prog 33 #[.agg #[.int .i64 R,.int .i64 C,.int .i64 F,.slice ad n c],.slice bd bn bc] w fun e w'=>e=.returned (.agg #[.int .i64 R,.int .i64 C,.int .i64 2,.slice bd bn bc])∧Grown w w':=by
 go_enter Tryz.func33,Tryz.ntmps33
 go_wp2
 (try simp only [Exit.inBlock,Exit.then])
 refine bodyPost_ret (v:=.agg #[.int .i64 R,.int .i64 C,.int .i64 2,.slice bd bn bc]) ?_ rfl ⟨rfl,gr⟩
 rw [results_one rfl]
 go_simp

theorem wrap_next (r c p:Nat) (hr:r<4096) (hc:c≤4096) (h:(r+1)*c=p):IntKind.i64.wrap ((r:Int)+1)=((r+1:Nat):Int)∧IntKind.i64.wrap (((r+1:Nat):Int)*(c:Int))=(p:Int):=by
 refine ⟨?_,(wrap_mul (r+1) c p (by omega) hc h).1⟩
 rw [IntKind.wrap_i64];omega

theorem lrow_any (R F:Int) (C r:Nat) (ad:Option Addr) (n c b N cap:Nat) (w:World) (hr:r<4096) (hC:C≤4096) (hC0:0<C) (h:r*C+C≤N) (hc:N≤cap):
  Calls Tryz.prog 31 #[.agg #[.int .i64 R,.int .i64 C,.int .i64 F,.slice ad n c],.slice (some ⟨b,0,none⟩) N cap,.int .i64 r] w fun e w'=>∃ k,e=.returned (.slice (some ⟨b,r*C,none⟩) C k)∧C≤k∧Grown w w':=by
 obtain ⟨P,hP⟩:∃ P,r*C=P:=⟨_,rfl⟩
 obtain ⟨Q,hQ⟩:∃ Q,(r+1)*C=Q:=⟨_,rfl⟩
 obtain ⟨e1,l1⟩:=wrap_mul r C P (by omega) hC hP
 obtain ⟨e2,e3⟩:=wrap_next r C Q hr hC hQ
 have e4:Q=P+C:=by rw [←hQ,←hP,Nat.add_mul,Nat.one_mul]
 rw [hP] at h ⊢
 obtain ⟨S,hS⟩:∃ S:Nat,r+1=S:=⟨_,rfl⟩
 rw [hS] at e2 e3
 clear hP hQ hS
 subst e4
 have q1:P≤P+C:=Nat.le_add_right _ _
 have q2:P+C≤cap:=by omega
 have q3:P≤cap:=by omega
 have q4:P+C - P=C:=by omega
 have q5:¬cap=P:=by omega
 have q6:¬P=cap:=by omega
 obtain ⟨k,hk⟩:∃ k,cap - P=k:=⟨_,rfl⟩
 have q7:C≤k:=by omega
 go_enter Tryz.func31,Tryz.ntmps31
 go_wp2
 go_ret
 refine ⟨k,?_,q7,gr⟩
 show Ending.returned (.slice (some ⟨b,P,none⟩) (P+C - P) k)=_
 rw [Nat.add_sub_cancel_left]

theorem llab_shape (R C F:Int) (ad yd:Option Addr) (n c yn yc:Nat) (g:Nat→Int) (w:World) (hn:n≤9223372036854775807) (hr:Reads ad n g w) (h:labB ⟨R,C,F,n,g⟩ yn=false):
  Calls Tryz.prog 26 #[.agg #[.int .i64 R,.int .i64 C,.int .i64 F,.slice ad n c],.slice yd yn yc] w fun e w'=>e=.returned (.int .i64 21)∧Grown w w':=by
 have H1:=Lib.hid hr
 obtain ⟨T,hT⟩:∃ T,rightB R C F n g=T:=⟨_,rfl⟩
 have K1:=Lib.hid (show Ending.returned (.bool (rightB R C F n g))=.returned (.bool T) by rw [hT])
 have h':(T&&(R==(yn:Int)&&!(decide (0<R)&&C==0)))=false:=by rw [←hT];exact h
 have HT:=Lib.hid (ten_new w (.int .i64 R) (.int .i64 C) (.int .i64 F) (.slice ad n c) 24)
 have HG:=Lib.hid (show Grown w (w.alloc (.cells #[.int .i64 R,.int .i64 C,.int .i64 F,.slice ad n c] 24)) from gr)
 clear h hT hr
 cases T
 ·clear h'
  go_enter Tryz.func26,Tryz.ntmps26
  go_wp2_with fail
  generalize (w.alloc _)=W0 at HT HG ⊢
  refine (tright_any _ _ _ _ _ _ g _ hn (H1.out.grown HG.out)).mono ?_
  rintro e W1 ⟨he,hW1⟩
  rw [K1.out] at he
  subst he
  replace HG:=Lib.hid (grown_trans HG.out hW1)
  clear hW1
  go_wp2
  go_ret
  exact ⟨rfl,gr⟩
 ·obtain ⟨E1,hE1⟩:∃ E,(R==(yn:Int))=E:=⟨_,rfl⟩
  have hE1':(R != (yn:Int))=!E1:=by rw [bne,hE1]
  obtain ⟨E2,hE2⟩:∃ E,decide (0<R)=E:=⟨_,rfl⟩
  obtain ⟨E3,hE3⟩:∃ E,(C==0)=E:=⟨_,rfl⟩
  rw [hE1,hE2,hE3] at h'
  clear hE1
  cases E1
  ·clear h'
   go_enter Tryz.func26,Tryz.ntmps26
   go_wp2_with fail
   generalize (w.alloc _)=W0 at HT HG ⊢
   refine (tright_any _ _ _ _ _ _ g _ hn (H1.out.grown HG.out)).mono ?_
   rintro e W1 ⟨he,hW1⟩
   rw [K1.out] at he
   subst he
   replace HG:=Lib.hid (grown_trans HG.out hW1)
   replace HT:=Lib.hid (HT.out.grown hW1)
   clear hW1
   obtain ⟨p0,p1,p2,p3,p4,-,-,-,-⟩:=HT.out
   go_wp2
   go_ret
   exact ⟨rfl,gr⟩
  ·cases E2 <;> cases E3 <;> first | exact absurd h' (by decide) | skip
   clear h'
   go_enter Tryz.func26,Tryz.ntmps26
   go_wp2_with fail
   generalize (w.alloc _)=W0 at HT HG ⊢
   refine (tright_any _ _ _ _ _ _ g _ hn (H1.out.grown HG.out)).mono ?_
   rintro e W1 ⟨he,hW1⟩
   rw [K1.out] at he
   subst he
   replace HG:=Lib.hid (grown_trans HG.out hW1)
   replace HT:=Lib.hid (HT.out.grown hW1)
   clear hW1
   obtain ⟨p0,p1,p2,p3,p4,-,-,-,-⟩:=HT.out
   go_wp2
   go_ret
   exact ⟨rfl,gr⟩

theorem llab_nil (C F:Int) (ad yd:Option Addr) (n c yc:Nat) (g y:Nat→Int) (w:World) (hn:n≤9223372036854775807) (hr:Reads ad n g w) (h:rightB 0 C F n g=true):
  Calls Tryz.prog 26 #[.agg #[.int .i64 0,.int .i64 C,.int .i64 F,.slice ad n c],.slice yd 0 yc] w fun e w'=>e=.returned (.int .i64 0)∧Grown w w':=by
 have H1:=Lib.hid hr
 have K1:=Lib.hid (show Ending.returned (.bool (rightB 0 C F n g))=.returned (.bool true) by rw [h])
 have HT:=Lib.hid (ten_new w (.int .i64 0) (.int .i64 C) (.int .i64 F) (.slice ad n c) 24)
 have HG:=Lib.hid (show Grown w (w.alloc (.cells #[.int .i64 0,.int .i64 C,.int .i64 F,.slice ad n c] 24)) from gr)
 clear h hr
 go_enter Tryz.func26,Tryz.ntmps26
 go_wp2_with fail
 generalize (w.alloc _)=W0 at HT HG ⊢
 refine (tright_any _ _ _ _ _ _ g _ hn (H1.out.grown HG.out)).mono ?_
 rintro e W1 ⟨he,hW1⟩
 rw [K1.out] at he
 subst he
 replace HG:=Lib.hid (grown_trans HG.out hW1)
 replace HT:=Lib.hid (HT.out.grown hW1)
 clear hW1 K1 H1
 obtain ⟨p0,p1,p2,p3,p4,-,-,-,-⟩:=HT.out
 go_wp2
 refine wp_loop_rounds 1 ?_
 rw [rounds_succ]
 go_wp2
 go_ret
 exact ⟨rfl,gr⟩

set_option maxHeartbeats 1000000 in
theorem llab_some (C F:Int) (ad:Option Addr) (n c yn yc b off:Nat) (g y:Nat→Int) (w:World) (hn:n≤9223372036854775807) (hyn:yn≤9223372036854775807) (hy0:0<yn) (hr:Reads ad n g w) (hyb:∀ i,i<yn→-9223372036854775808≤y i∧y i≤9223372036854775807) (hb:b<w.heap.size) (hy:∀ i,i<yn→w.cell? ⟨b,off+i,none⟩=some (.int .i64 (y i))) (h:rightB yn C F n g=true) (hC:C≠0):
  Calls Tryz.prog 26 #[.agg #[.int .i64 yn,.int .i64 C,.int .i64 F,.slice ad n c],.slice (some ⟨b,off,none⟩) yn yc] w fun e w'=>e=.returned (.int .i64 (if labI C yn y then 0 else 22))∧Grown w w':=by
 have H1:=Lib.hid hr
 have H2:=Lib.hid hy
 have K1:=Lib.hid (show Ending.returned (.bool (rightB yn C F n g))=.returned (.bool true) by rw [h])
 have hE1:((yn:Int) != (yn:Int))=false:=by simp
 have hE2:(C==0)=false:=by simp [hC]
 have hE3:decide ((0:Int)<(yn:Int))=true:=by simpa using hy0
 obtain ⟨L,hL⟩:∃ L:Int,(if labI C yn y then (0:Int) else 22)=L:=⟨_,rfl⟩
 have HL:=Lib.hid hL
 rw [hL]
 have HT:=Lib.hid (ten_new w (.int .i64 yn) (.int .i64 C) (.int .i64 F) (.slice ad n c) 24)
 have HG:=Lib.hid (show Grown w (w.alloc (.cells #[.int .i64 yn,.int .i64 C,.int .i64 F,.slice ad n c] 24)) from gr)
 have HY:=Lib.hid hyb
 clear h hr hy hL hyb hC
 go_enter Tryz.func26,Tryz.ntmps26
 go_wp2_with fail
 generalize (w.alloc _)=W0 at HT HG ⊢
 refine (tright_any _ _ _ _ _ _ g _ hn (H1.out.grown HG.out)).mono ?_
 rintro e W1 ⟨he,hW1⟩
 rw [K1.out] at he
 subst he
 replace HG:=Lib.hid (grown_trans HG.out hW1)
 replace HT:=Lib.hid (HT.out.grown hW1)
 clear hW1 K1 H1
 obtain ⟨p0,p1,p2,p3,p4,-,-,-,-⟩:=HT.out
 have hlW:=HG.out.2.2
 go_wp2
 go_loopw [6,29] (fun _ i wr=>∃ k:Nat,k≤yn∧i=.int .i64 k∧wr=W1∧Hid (∀ j,j<k→0≤y j∧y j<C)) (fun _ i _=>yn - (intOf i).toNat)
 case atStart=>exact ⟨0,Nat.zero_le _,rfl,rfl,Lib.hid fun j hj=>absurd hj (Nat.not_lt_zero j)⟩
 case round=>
  obtain ⟨k,hk,rfl,rfl,HJ⟩:=hrel
  by_cases hlt:k<yn
  ·have y0:=grown_cell HG.out (H2.out k hlt) hb
   obtain ⟨x0,x1⟩:=HY.out k hlt
   obtain ⟨x,hx⟩:∃ x,y k=x:=⟨_,rfl⟩
   rw [hx] at y0 x0 x1
   have HX:=Lib.hid hx
   clear hx
   by_cases c0:x<0
   ·go_wp2
    go_ret
    exact ⟨by rw [←HL.out,lab_not hlt HX.out (by omega)];rfl,gr⟩
   ·by_cases c1:C≤x
    ·go_wp2
     go_ret
     exact ⟨by rw [←HL.out,lab_not hlt HX.out (by omega)];rfl,gr⟩
    ·go_wp2
     go_roundw
     case rel=>exact ⟨k+1,by omega,by go_num,trivial,Lib.hid (lab_next HJ.out HX.out (by omega) (by omega))⟩
     case measure=>simp [intOf];omega
  ·obtain rfl:k=yn:=by omega
   go_wp2
   go_ret
   exact ⟨by rw [←HL.out,lab_all HJ.out];rfl,gr⟩

theorem llab_any (R C F:Int) (ad yd:Option Addr) (n c yn yc:Nat) (g y:Nat→Int) (w:World) (hn:n≤9223372036854775807) (hyn:yn≤9223372036854775807) (hr:Reads ad n g w) (hy:ReadsI yd yn y w):
  Calls Tryz.prog 26 #[.agg #[.int .i64 R,.int .i64 C,.int .i64 F,.slice ad n c],.slice yd yn yc] w fun e w'=>e=.returned (.int .i64 (labX ⟨R,C,F,n,g⟩ yn y))∧Grown w w':=by
 unfold labX
 cases h:labB ⟨R,C,F,n,g⟩ yn
 ·exact llab_shape R C F ad yd n c yn yc g w hn hr h
 ·obtain ⟨hT,hR,hC⟩:=lab_yes h
  simp only at hR hC
  rcases Nat.eq_zero_or_pos yn with h0 | h0
  ·subst h0 hR
   exact llab_nil C F ad yd n c yc g y w hn hr hT
  ·obtain ⟨b,off,rfl,hl,hc⟩:=readi_at hy h0
   subst hR
   exact llab_some C F ad n c yn yc b off g y w hn hyn h0 hr hy.1 hl hc hT (hC.resolve_left (by omega))

theorem lgreat_one (b off c:Nat) (x:Int) (w:World) (hc:1≤c) (hl:b<w.heap.size) (y0:w.cell? ⟨b,off,none⟩=some (.int .u32 x)):
  Calls Tryz.prog 65 #[.slice (some ⟨b,off,none⟩) 1 c] w fun e w'=>e=.returned (.int .u32 x)∧Grown w w':=by
 go_enter Tryz.func65,Tryz.ntmps65
 go_wp2
 all_goals
  refine wp_loop_rounds 1 ?_
  rw [rounds_succ]
  go_wp2
  go_ret
  exact ⟨rfl,gr⟩

set_option maxHeartbeats 1000000 in
theorem lgreat_more (b off n c:Nat) (u:Nat→Int) (w:World) (hn0:0<n) (hn:n≤4096) (hc:n+1≤c) (hr:Reads (some ⟨b,off,none⟩) (n+1) u w):
  Calls Tryz.prog 65 #[.slice (some ⟨b,off,none⟩) (n+1) c] w fun e w'=>e=.returned (.int .u32 (maxW u n))∧Grown w w':=by
 obtain ⟨hb,hl,hce⟩:=reads_row hr (Nat.succ_pos _)
 have HB:=Lib.hid hb
 have HC:=Lib.hid hce
 have y0:=hce 0 (Nat.succ_pos _)
 obtain ⟨m,hm⟩:∃ m,c=m+1:=⟨c - 1,by omega⟩
 subst hm
 obtain ⟨x,hx⟩:∃ x,u 0=x:=⟨_,rfl⟩
 rw [hx,Nat.add_zero] at y0
 have HX:=Lib.hid hx
 have HM:=Lib.hid (fun k (hk:k≤n)=>maxW_bd u k fun j hj=>hb j (by omega))
 have q1:¬n+1=0:=by omega
 have q2:n+1 - 1=n:=by omega
 have q3:1≤n+1:=by omega
 have q4:m+1 - 1=m:=by omega
 have q5:¬m=0:=by omega
 have q6:¬0=m:=by omega
 have q7:¬1=m+1:=by omega
 have q8:¬m+1=1:=by omega
 clear hr hb hce hx
 go_enter Tryz.func65,Tryz.ntmps65
 go_wp2
 go_loopw [3,5,12] (fun s _ i wr=>∃ k:Nat,k≤n∧i=.int .i64 k∧s=.int .u32 (maxW u k)∧Hid (Grown w wr)) (fun _ _ i _=>n - (intOf i).toNat)
 case atStart=>exact ⟨0,Nat.zero_le _,rfl,by rw [←HX.out];rfl,Lib.hid (Grown.refl _)⟩
 case round=>
  rename World=>wr
  obtain ⟨k,hk,rfl,rfl,HG⟩:=hrel
  obtain ⟨s0,s1⟩:=HM.out k hk
  by_cases hlt:k<n
  ·have y1:=grown_cell HG.out (HC.out (k+1) (by omega)) hl
   rw [show off+(k+1)=off+1+k by omega] at y1
   obtain ⟨x0,x1⟩:=HB.out (k+1) (by omega)
   have HN:=Lib.hid (show maxW u (k+1)=maxO 2 (maxW u k) (u (k+1)) from rfl)
   obtain ⟨s,hs⟩:∃ s,maxW u k=s:=⟨_,rfl⟩
   obtain ⟨z,hz⟩:∃ z,u (k+1)=z:=⟨_,rfl⟩
   rw [hs,hz] at HN
   rw [hs] at s0 s1 ⊢
   rw [hz] at x0 x1 y1
   clear hs hz
   go_wp2_with (go_at_call 106;refine (omax_any 2 s z _ s0 s1 x0 x1).mono ?_;rintro e W1 ⟨rfl,hW1⟩;replace HG:=Lib.hid (show Grown w W1 from grown_trans HG.out hW1);clear hW1)
   go_roundw
   case rel=>exact ⟨k+1,by omega,by go_num,by rw [HN.out],HG⟩
   case measure=>simp [intOf];omega
  ·obtain rfl:k=n:=by omega
   go_wp2
   go_ret
   exact ⟨rfl,HG.out⟩

theorem lgreat_any (b off n c:Nat) (u:Nat→Int) (w:World) (hn:n≤4096) (hc:n+1≤c) (hr:Reads (some ⟨b,off,none⟩) (n+1) u w):
  Calls Tryz.prog 65 #[.slice (some ⟨b,off,none⟩) (n+1) c] w fun e w'=>e=.returned (.int .u32 (maxW u n))∧Grown w w':=by
 rcases Nat.eq_zero_or_pos n with rfl | h
 ·obtain ⟨-,hl,hce⟩:=reads_row hr (Nat.succ_pos _)
  exact lgreat_one b off c (u 0) w hc hl (hce 0 (Nat.succ_pos _))
 ·exact lgreat_more b off n c u w h hn hc hr

set_option maxHeartbeats 1000000 in
theorem lfirst_any (b off n c label:Nat) (u:Nat→Int) (w:World) (hn:n≤4096) (hl:label<n) (hr:Reads (some ⟨b,off,none⟩) n u w):
  Calls Tryz.prog 39 #[.slice (some ⟨b,off,none⟩) n c,.int .i64 label] w fun e w'=>e=.returned (.bool (firB u n label))∧Grown w w':=by
 obtain ⟨hb,hbl,hce⟩:=reads_row hr (by omega)
 have HB:=Lib.hid hb
 have HC:=Lib.hid hce
 obtain ⟨o0,o1⟩:=hb label hl
 obtain ⟨A,hA⟩:∃ A,firB u n label=A:=⟨_,rfl⟩
 rw [hA]
 have HA:=Lib.hid hA
 have hu:∀ j:Int,j.toNat=j.toNat:=fun _=>rfl
 clear hr hb hce hA hu
 go_enter Tryz.func39,Tryz.ntmps39
 go_wp2
 go_loopw [5,6,7,8,11,25] (fun _ _ _ _ i _ wr=>∃ k:Nat,k≤n∧i=.int .i64 k∧Hid (Grown w wr)∧Hid (∀ j,j<k→firS u label j=true)) (fun _ _ _ _ i _ _=>n - (intOf i).toNat)
 case atStart=>exact ⟨0,Nat.zero_le _,rfl,Lib.hid (Grown.refl _),Lib.hid fun j hj=>absurd hj (Nat.not_lt_zero j)⟩
 case round=>
  obtain ⟨k,hk,rfl,HG,HJ⟩:=hrel
  by_cases hlt:k<n
  ·have y0:=grown_cell HG.out (HC.out k hlt) hbl
   have y1:=grown_cell HG.out (HC.out label hl) hbl
   obtain ⟨x0,x1⟩:=HB.out k hlt
   have HS:=Lib.hid (show firS u label k=!((decide (k<label)&&!decide (0<cmpC 2 (u label) (u k))) || (decide (label<k)&&decide (cmpC 2 (u label) (u k)<0))) by
    unfold firS;rw [Int.toNat_natCast,fir_side,les_cmp (u label),decide_eq_decide.2 (show ((k:Int)<(label:Int))↔k<label by omega),decide_eq_decide.2 (show ((label:Int)<(k:Int))↔label<k by omega)])
   have HK:=Lib.hid (cmp_bd 2 (u label) (u k))
   obtain ⟨z,hz⟩:∃ z,u label=z:=⟨_,rfl⟩
   obtain ⟨x,hx⟩:∃ x,u k=x:=⟨_,rfl⟩
   rw [hz] at y1 HS HK o0 o1
   rw [hx] at y0 x0 x1 HS HK
   obtain ⟨C,hC⟩:∃ C,cmpC 2 z x=C:=⟨_,rfl⟩
   rw [hC] at HS HK
   have HCC:=Lib.hid hC
   obtain ⟨O,hO⟩:∃ O,cmpO 2 z x=O:=⟨_,rfl⟩
   have HO:=Lib.hid hO
   clear hz hx hC hO
   go_wp2_with fail
   refine (ocompare_any 2 z x _ o0 o1 x0 x1).mono ?_
   rintro e W1 ⟨rfl,hW1⟩
   rw [HCC.out,HO.out]
   replace HG:=Lib.hid (grown_trans HG.out hW1)
   clear hW1
   by_cases c1:(k:Int)<label
   ·by_cases c2:C≤0
    ·go_wp2
     go_ret
     exact ⟨by rw [←HA.out,fir_not hlt (HS.out.trans (by simp;omega))];rfl,gr⟩
    ·have c3:¬(label:Int)<k:=by omega
     go_wp2
     go_roundw
     case rel=>exact ⟨k+1,by omega,by go_num,HG,Lib.hid (fir_next HJ.out (HS.out.trans (by simp;omega)))⟩
     case measure=>simp [intOf];omega
   ·by_cases c2:(label:Int)<k
    ·by_cases c3:C<0
     ·go_wp2
      go_ret
      exact ⟨by rw [←HA.out,fir_not hlt (HS.out.trans (by simp;omega))];rfl,gr⟩
     ·go_wp2
      go_roundw
      case rel=>exact ⟨k+1,by omega,by go_num,HG,Lib.hid (fir_next HJ.out (HS.out.trans (by simp;omega)))⟩
      case measure=>simp [intOf];omega
    ·go_wp2
     go_roundw
     case rel=>exact ⟨k+1,by omega,by go_num,HG,Lib.hid (fir_next HJ.out (HS.out.trans (by simp;omega)))⟩
     case measure=>simp [intOf];omega
  ·obtain rfl:k=n:=by omega
   go_wp2
   go_ret
   exact ⟨by rw [←HA.out,fir_all HJ.out];rfl,gr⟩
end Go.Proofs.YteifobleigfbaaaGreat
