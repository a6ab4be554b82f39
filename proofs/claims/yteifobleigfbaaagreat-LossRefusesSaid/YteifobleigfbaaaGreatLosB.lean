/- The contracts of the landed package loss: a row's loss, Softmax, Mse, Right. (Written by gen66.py.) -/
import Derived.Test.YteifobleigfbaaaGreatLos
import Derived.Deep.RegionHeld3
import Derived.KernelRfl
namespace Go.Proofs.YteifobleigfbaaaGreat
open Go Go.RowKit
set_option linter.unusedVariables false
set_option linter.unusedSimpArgs false

structure UnS (w:World) (b M:Nat) (h:Nat→Int) (W:World):Prop where
 f:Far b w W
 r:Rowed b M h W

theorem UnS.grown {w:World} {b M:Nat} {h:Nat→Int} {W W':World} (s:UnS w b M h W) (g:Grown W W'):UnS w b M h W':=⟨s.f.grown g,s.r.grown g⟩

theorem UnS.set {w:World} {b M:Nat} {h h':Nat→Int} {W:World} (s:UnS w b M h W) {j:Nat} {v:Int} (e1:h' j=v) (e2:∀ t,t≠j→h' t=h t):UnS w b M h' (W.setCell ⟨b,j,none⟩ (.int .u32 v)):=⟨s.f.set j _,s.r.set e1 e2⟩

set_option maxHeartbeats 4000000 in
theorem lunlikely_any (b M L k c label:Nat) (h u:Nat→Int) (m:Int) (w:World) (hr:Rowed b M h w) (hl:L+k≤M) (hk:0<k) (hk2:k≤4096) (hc:k≤c) (hlab:label<k) (hu:∀ j,j<k→h (L+j)=u j) (hub:∀ j,j<k→0≤u j∧u j≤4294967295) (m0:0≤m) (m1:m≤4294967295):
  Calls Tryz.prog 30 #[.slice (some ⟨b,L,none⟩) k c,.int .i64 label,.int .u32 m] w fun e w'=>e=.returned (.int .u32 (rowL u k label))∧0≤rowL u k label∧rowL u k label≤4294967295∧UnS w b M (upd h L k (rowO u k label m)) w':=by
 obtain ⟨n,hn⟩:∃ n,k=n+1:=⟨k - 1,by omega⟩
 have hR:Reads (some ⟨b,L,none⟩) k u w:=⟨hub,.inr ⟨b,L,rfl,hr.lies,fun i hi=>by rw [hr.cell (L+i) (by omega),hu i hi]⟩⟩
 have HB:=Lib.hid hub
 obtain ⟨G,hG⟩:∃ G,rowM u k=G:=⟨_,rfl⟩
 obtain ⟨S,hS⟩:∃ S,rowS u k=S:=⟨_,rfl⟩
 have HS:=Lib.hid (show sumW (sfE u G) k=S by rw [←hS,←hG];rfl)
 have hGb:0≤G∧G≤4294967295:=by rw [←hG];exact maxW_bd u (k - 1) fun j hj=>hub j (by omega)
 have hSb:0≤S∧S≤4294967295:=by rw [←HS.out];exact sumW_bd _ _
 have HL:=Lib.hid (show rowL u k label=subV (logI S) (subV (u label) G) by unfold rowL;rw [hS,hG,Int.toNat_natCast])
 have HO:=Lib.hid (show ∀ j,rowO u k label m j=divV (subV (divV (sfE u G j) S) (if (j:Int)=(label:Int) then 1065353216 else 0)) m from fun j=>by unfold rowO;rw [hS,hG])
 have HGr:=Lib.hid (show Calls Tryz.prog 65 #[.slice (some ⟨b,L,none⟩) k c] w fun e w'=>e=.returned (.int .u32 G)∧Grown w w' by
  rw [←hG];unfold rowM;subst hn;exact lgreat_any b L n c u w (by omega) hc hR)
 obtain ⟨O,hO⟩:∃ O:Nat→Int,rowO u k label m=O:=⟨_,rfl⟩
 obtain ⟨R,hRl⟩:∃ R,rowL u k label=R:=⟨_,rfl⟩
 rw [hRl] at HL ⊢
 rw [hO] at HO ⊢
 have HU:Hid (UnS w b M (upd h L 0 (sfE u G)) w):=Lib.hid ⟨Far.refl _ _,hr.congr fun t _=>upd_none _ _ _ _⟩
 have HH:=Lib.hid hu
 obtain ⟨l0,l1⟩:=hub label hlab
 have yl:=(hr.cell (L+label) (by omega)).trans (by rw [hu label hlab])
 obtain ⟨x,hx⟩:∃ x,u label=x:=⟨_,rfl⟩
 rw [hx] at l0 l1 yl HL
 obtain ⟨B,hB⟩:∃ B,subV x G=B:=⟨_,rfl⟩
 rw [hB] at HL
 have HBe:=Lib.hid hB
 obtain ⟨G0,G1⟩:=hGb
 obtain ⟨S0,S1⟩:=hSb
 have hbl:=hr.lies
 clear hr hu hub hR hG hS hx hB hO hRl hn
 go_enter Tryz.func30,Tryz.ntmps30
 go_wp2_with fail
 refine HGr.out.mono ?_
 rintro e W1 ⟨rfl,hW1⟩
 replace HU:=Lib.hid (HU.out.grown hW1)
 replace yl:=grown_cell hW1 yl hbl
 clear hW1 HGr
 go_wp2_with fail
 refine (lsub_any x G _ l0 l1 G0 G1).mono ?_
 rintro e W2 ⟨rfl,b0,b1,hW2⟩
 rw [HBe.out] at b0 b1 ⊢
 replace HU:=Lib.hid (HU.out.grown hW2)
 clear hW2 yl
 go_wp2
 go_loopw [9,10,11,24] (fun s _ _ i wr=>∃ K:Nat,K≤k∧i=.int .i64 K∧s=.int .u32 (sumW (sfE u G) K)∧Hid (UnS w b M (upd h L K (sfE u G)) wr)) (fun _ _ _ i _=>k - (intOf i).toNat)
 case atStart=>exact ⟨0,Nat.zero_le _,rfl,rfl,HU⟩
 case round=>
  rename World=>wr
  clear HU
  obtain ⟨K,hK,rfl,rfl,HU⟩:=hrel
  obtain ⟨s0,s1⟩:=sumW_bd (sfE u G) K
  by_cases hlt:K<k
  ·have y:=(HU.out.r.cell (L+K) (by omega)).trans (by rw [upd_past _ _ _ _ _ (Nat.le_refl _),HH.out K hlt])
   obtain ⟨x0,x1⟩:=HB.out K hlt
   have HN:=Lib.hid (show sumW (sfE u G) (K+1)=addV (sumW (sfE u G) K) (sfE u G K) from rfl)
   obtain ⟨s,hs⟩:∃ s,sumW (sfE u G) K=s:=⟨_,rfl⟩
   obtain ⟨E,hE⟩:∃ E,sfE u G K=E:=⟨_,rfl⟩
   have HE:=Lib.hid hE
   rw [hs,hE] at HN
   rw [hs] at s0 s1 ⊢
   have HE2:=Lib.hid (show expI (subV (u K) G)=E from hE)
   obtain ⟨z,hz⟩:∃ z,u K=z:=⟨_,rfl⟩
   rw [hz] at y x0 x1 HE2
   obtain ⟨D,hD⟩:∃ D,subV z G=D:=⟨_,rfl⟩
   rw [hD] at HE2
   have HD:=Lib.hid hD
   clear hs hE hz hD
   go_wp2_with fail
   refine (lsub_any z G _ x0 x1 G0 G1).mono ?_
   rintro e W3 ⟨rfl,d0,d1,hW3⟩
   rw [HD.out] at d0 d1 ⊢
   replace HU:=Lib.hid (HU.out.grown hW3)
   clear hW3
   go_wp2_with fail
   refine (fexp_any D _ d0 d1).mono ?_
   rintro e W4 ⟨rfl,e0,e1,hW4⟩
   rw [HE2.out] at e0 e1 ⊢
   replace HU:=Lib.hid (HU.out.grown hW4)
   have z1:=(HU.out.r.cell (L+K) (by omega))
   have z2:=HU.out.r.free (L+K)
   clear hW4 y
   have HU2:=Lib.hid (HU.out.set (j:=L+K) (v:=E) (h':=upd h L (K+1) (sfE u G)) (by rw [upd_here _ _ _ _ _ (Nat.lt_succ_self K),HE.out]) (fun t ht=>upd_next _ _ _ _ t ht))
   go_wp2_with fail
   generalize (W4.setCell _ _)=W5 at HU2 ⊢
   have z3:=(HU2.out.r.cell (L+K) (by omega)).trans (by rw [upd_here _ _ _ _ _ (Nat.lt_succ_self K),HE.out])
   clear HU
   go_wp2_with (go_at_call 29;refine (ladd_any s E _ s0 s1 e0 e1).mono ?_;rintro e W6 ⟨rfl,-,-,hW6⟩;replace HU2:=Lib.hid (HU2.out.grown hW6);clear hW6)
   go_roundw
   case rel=>exact ⟨K+1,by omega,by go_num,by rw [HN.out],HU2⟩
   case measure=>simp [intOf];omega
  ·obtain rfl:K=k:=by omega
   rw [HS.out]
   replace HU:=Lib.hid (show UnS w b M (upd (upd h L K (sfE u G)) L 0 O) wr from ⟨HU.out.f,HU.out.r.congr fun t _=>upd_none _ _ _ _⟩)
   go_wp2
   go_loopw [12,13,45] (fun _ _ i wr=>∃ J:Nat,J≤K∧i=.int .i64 J∧Hid (UnS w b M (upd (upd h L K (sfE u G)) L J O) wr)) (fun _ _ i _=>K - (intOf i).toNat)
   case atStart=>exact ⟨0,Nat.zero_le _,rfl,HU⟩
   case round=>
    rename World=>wv
    clear HU
    obtain ⟨J,hJ,rfl,HU⟩:=hrel
    by_cases hlt:(J:Int)<K
    ·have hlt':J<K:=by omega
     have y:=(HU.out.r.cell (L+J) (by omega)).trans (by rw [upd_past _ _ _ _ _ (Nat.le_refl _),upd_here _ _ _ _ _ hlt'])
     obtain ⟨x0,x1⟩:=sfe_bd u G J
     have HOJ:=HO.out J
     obtain ⟨E,hE⟩:∃ E,sfE u G J=E:=⟨_,rfl⟩
     rw [hE] at HOJ x0 x1 y
     obtain ⟨A,hA⟩:∃ A,divV E S=A:=⟨_,rfl⟩
     obtain ⟨T,hT⟩:∃ T:Int,(if (J:Int)=(label:Int) then (1065353216:Int) else 0)=T:=⟨_,rfl⟩
     have hTb:0≤T∧T≤4294967295:=by rw [←hT];split <;> decide
     obtain ⟨t0,t1⟩:=hTb
     obtain ⟨Q,hQ⟩:∃ Q,subV A T=Q:=⟨_,rfl⟩
     obtain ⟨V,hV⟩:∃ V,divV Q m=V:=⟨_,rfl⟩
     rw [hA,hT,hQ,hV] at HOJ
     have HOJ:=Lib.hid HOJ
     have HA:=Lib.hid hA
     have HT:=Lib.hid hT
     have HQ:=Lib.hid hQ
     have HV:=Lib.hid hV
     clear hE hA hT hQ hV
     go_wp2_with fail
     refine (ldiv_any E S _ x0 x1 S0 S1).mono ?_
     rintro e W3 ⟨rfl,a0,a1,hW3⟩
     rw [HA.out] at a0 a1 ⊢
     replace HU:=Lib.hid (HU.out.grown hW3)
     clear hW3
     go_wp2_with fail
     refine (lshare_any J label _).mono ?_
     rintro e W3' ⟨rfl,rfl⟩
     rw [HT.out]
     go_wp2_with fail
     refine (lsub_any A T _ a0 a1 t0 t1).mono ?_
     rintro e W4 ⟨rfl,q0,q1,hW4⟩
     rw [HQ.out] at q0 q1 ⊢
     replace HU:=Lib.hid (HU.out.grown hW4)
     clear hW4
     go_wp2_with fail
     refine (ldiv_any Q m _ q0 q1 m0 m1).mono ?_
     rintro e W5 ⟨rfl,-,-,hW5⟩
     rw [HV.out]
     replace HU:=Lib.hid (HU.out.grown hW5)
     have z1:=(HU.out.r.cell (L+J) (by omega))
     have z2:=HU.out.r.free (L+J)
     clear hW5 y
     have HU2:=Lib.hid (HU.out.set (j:=L+J) (v:=V) (h':=upd (upd h L K (sfE u G)) L (J+1) O) (by rw [upd_here _ _ _ _ _ (Nat.lt_succ_self J),HOJ.out]) (fun t ht=>upd_next _ _ _ _ t ht))
     go_wp2
     go_roundw
     case rel=>exact ⟨J+1,by omega,by go_num,HU2⟩
     case measure=>simp [intOf];omega
    ·obtain rfl:J=K:=by omega
     obtain ⟨g0,g1⟩:=log_word S
     obtain ⟨Lg,hLg⟩:∃ Lg,logI S=Lg:=⟨_,rfl⟩
     rw [hLg] at g0 g1 HL
     have HLg:=Lib.hid hLg
     have HRb:=Lib.hid (sub_word Lg B)
     clear hLg
     go_wp2_with fail
     refine (flog_any S _ S0 S1).mono ?_
     rintro e W3 ⟨rfl,-,-,hW3⟩
     rw [HLg.out]
     replace HU:=Lib.hid (HU.out.grown hW3)
     clear hW3
     go_wp2_with fail
     refine (lsub_any Lg B _ g0 g1 b0 b1).mono ?_
     rintro e W4 ⟨rfl,-,-,hW4⟩
     replace HU:=Lib.hid (HU.out.grown hW4)
     clear hW4
     go_wp2
     go_ret
     exact ⟨by rw [HL.out];rfl,by rw [HL.out];exact HRb.out.1,by rw [HL.out];exact HRb.out.2,⟨HU.out.f,HU.out.r.congr fun t _=>(upd_twice _ _ _ _ _ _).symm⟩⟩

set_option maxHeartbeats 1000000 in
theorem lsoft_bad (R C F:Int) (ad yd:Option Addr) (n c yn yc:Nat) (g y:Nat→Int) (w:World) (hn:n≤9223372036854775807) (hyn:yn≤9223372036854775807) (hr:Reads ad n g w) (hy:ReadsI yd yn y w) (h:¬labX ⟨R,C,F,n,g⟩ yn y=0):
  Calls Tryz.prog 11 #[.agg #[.int .i64 R,.int .i64 C,.int .i64 F,.slice ad n c],.slice yd yn yc] w (LosE 0 PT.bad (labX ⟨R,C,F,n,g⟩ yn y) w):=by
 obtain ⟨X,hX⟩:∃ X,labX ⟨R,C,F,n,g⟩ yn y=X:=⟨_,rfl⟩
 rw [hX] at h ⊢
 have HX:=Lib.hid (show Ending.returned (.int .i64 (labX ⟨R,C,F,n,g⟩ yn y))=.returned (.int .i64 X) by rw [hX])
 have h1:(X==0)=false:=by simp [h]
 have h2:(X != 0)=true:=by simp [h]
 have H1:=Lib.hid hr
 have H2:=Lib.hid hy
 have HT:=Lib.hid ((ten_new w (.int .i64 R) (.int .i64 C) (.int .i64 F) (.slice ad n c) 24).grown (Grown.alloc (Grown.refl _) #[.int .i64 0,.int .i64 0,.int .i64 0,.slice none 0 0] 24))
 have HT2:=Lib.hid (ten_new2 w #[.int .i64 R,.int .i64 C,.int .i64 F,.slice ad n c] 24 (.int .i64 0) (.int .i64 0) (.int .i64 0) (.slice none 0 0) 24)
 have HG:=Lib.hid (show Grown w ((w.alloc (.cells #[.int .i64 R,.int .i64 C,.int .i64 F,.slice ad n c] 24)).alloc (.cells #[.int .i64 0,.int .i64 0,.int .i64 0,.slice none 0 0] 24)) from gr)
 clear h hX hr hy
 go_enter Tryz.func11,Tryz.ntmps11
 go_wp2_with fail
 generalize (w.alloc _).alloc _=W0 at HT HT2 HG ⊢
 refine (llab_any _ _ _ _ _ _ _ _ _ g y _ hn hyn (H1.out.grown HG.out) (H2.out.grown HG.out)).mono ?_
 rintro e W1 ⟨he,hW1⟩
 rw [HX.out] at he
 subst he
 replace HT2:=Lib.hid (HT2.out.grown hW1)
 replace HG:=Lib.hid (grown_trans HG.out hW1)
 clear hW1
 obtain ⟨r0,r1,r2,r3,r4,r5,r6,r7,r8⟩:=HT2.out
 go_wp2
 (try simp only [Exit.inBlock,Exit.then])
 refine bodyPost_ret (v:=.tuple #[.int .u32 0,.agg #[.int .i64 0,.int .i64 0,.int .i64 0,.slice none 0 0],.int .i64 X]) ?_ rfl ⟨none,0,rfl,Reads.nil _ _ _,Nat.zero_le _,fresh_none _,gr⟩
 rw [results_three rfl]
 go_simp

set_option maxHeartbeats 4000000 in
theorem lsoft_some (F:Int) (R C:Nat) (ad:Option Addr) (n c yc by' yo:Nat) (g ys:Nat→Int) (w:World) (hR:R≤4096) (hR0:0<R) (hC:C≤4096) (hC0:0<C) (hn:n=R*C) (hr:Reads ad n g w) (hX:labX ⟨R,C,F,n,g⟩ R ys=0)
  (hlab:∀ i,i<R→0≤ys i∧ys i<C) (hbl:by'<w.heap.size) (hy:∀ i,i<R→w.cell? ⟨by',yo+i,none⟩=some (.int .i64 (ys i))):
  Calls Tryz.prog 11 #[.agg #[.int .i64 R,.int .i64 C,.int .i64 F,.slice ad n c],.slice (some ⟨by',yo,none⟩) R yc] w (LosE (divV (sfT ⟨R,C,F,n,g⟩ ys R) (frmV R)) ⟨R,C,2,n,fun i=>sfO ⟨R,C,F,n,g⟩ ys (i / C) (i%C)⟩ 0 w):=by
 have hm:n≤16777216:=by rw [hn];exact (wrap_mul R C _ hR hC rfl).2
 have hn0:0<n:=by rw [hn];exact Nat.mul_pos hR0 hC0
 have HN:=Lib.hid hn
 have HX:=Lib.hid (show Ending.returned (.int .i64 (labX ⟨R,C,F,n,g⟩ R ys))=.returned (.int .i64 0) by rw [hX])
 obtain ⟨G,hG⟩:∃ G:Nat→Int,G=fun i=>sfO ⟨R,C,F,n,g⟩ ys (i / C) (i%C):=⟨_,rfl⟩
 rw [←hG]
 have HGr:=Lib.hid (show ∀ r j,j<C→G (r*C+j)=rowO (rowU ⟨R,C,F,n,g⟩ r) C (ys r) (frmV R) j from fun r j hj=>by rw [hG];exact sfO_row R C F n g ys C r j rfl hj)
 have HGb:=Lib.hid (show ∀ t,0≤G t∧G t≤4294967295 from fun t=>by rw [hG];exact div_word _ _)
 have HTn:=Lib.hid (show ∀ r,sfT ⟨R,C,F,n,g⟩ ys (r+1)=addV (sfT ⟨R,C,F,n,g⟩ ys r) (rowL (rowU ⟨R,C,F,n,g⟩ r) C (ys r)) from fun r=>rfl)
 have HT0:=Lib.hid (show sfT ⟨R,C,F,n,g⟩ ys 0=0 from rfl)
 have HTb:=Lib.hid (show ∀ r,0≤sfT ⟨R,C,F,n,g⟩ ys r∧sfT ⟨R,C,F,n,g⟩ ys r≤4294967295 from fun r=>by
  cases r with
  | zero=>exact ⟨Int.le_refl _,by show (0:Int)≤4294967295;decide⟩
  | succ r=>exact addV_bd _ _)
 have HUr:=Lib.hid (show ∀ r j,rowU ⟨R,C,F,n,g⟩ r j=widV F g (r*C+j) from fun r j=>rfl)
 obtain ⟨m,hm2⟩:∃ m,frmV R=m:=⟨_,rfl⟩
 rw [hm2] at HGr ⊢
 have HM:=Lib.hid hm2
 generalize sfT ⟨R,C,F,n,g⟩ ys=ST at*
 generalize rowU ⟨R,C,F,n,g⟩=U at*
 have H1:=Lib.hid hr
 have H2:=Lib.hid (show ReadsI (some ⟨by',yo,none⟩) R ys w from ⟨fun i hi=>by have:=hlab i hi;omega,.inr ⟨by',yo,rfl,hbl,hy⟩⟩)
 have HY:=Lib.hid hy
 have HL:=Lib.hid hlab
 have HT:=Lib.hid ((ten_new w (.int .i64 R) (.int .i64 C) (.int .i64 F) (.slice ad n c) 24).grown (Grown.alloc (Grown.refl _) #[.int .i64 0,.int .i64 0,.int .i64 0,.slice none 0 0] 24))
 have HT2:=Lib.hid (ten_new2 w #[.int .i64 R,.int .i64 C,.int .i64 F,.slice ad n c] 24 (.int .i64 0) (.int .i64 0) (.int .i64 0) (.slice none 0 0) 24)
 have HG:=Lib.hid (show Grown w ((w.alloc (.cells #[.int .i64 R,.int .i64 C,.int .i64 F,.slice ad n c] 24)).alloc (.cells #[.int .i64 0,.int .i64 0,.int .i64 0,.slice none 0 0] 24)) from gr)
 clear hX hr hy hlab hn hG hm2
 go_enter Tryz.func11,Tryz.ntmps11
 go_wp2_with fail
 generalize (w.alloc _).alloc _=W0 at HT HT2 HG ⊢
 refine (llab_any _ _ _ _ _ _ _ _ _ g ys _ (by omega) (by omega) (H1.out.grown HG.out) (H2.out.grown HG.out)).mono ?_
 rintro e W1 ⟨he,hW1⟩
 rw [HX.out] at he
 subst he
 replace HT:=Lib.hid (HT.out.grown hW1)
 replace HT2:=Lib.hid (HT2.out.grown hW1)
 replace HG:=Lib.hid (grown_trans HG.out hW1)
 clear hW1
 obtain ⟨p0,p1,p2,p3,p4,-,-,-,-⟩:=HT.out
 go_wp2_with fail
 go_region_held3 (fun w'=>w'.cell? ⟨w.heap.size,0,none⟩=some (.int .i64 R)∧w'.cell? ⟨w.heap.size,1,none⟩=some (.int .i64 C)∧w'.cell? ⟨w.heap.size,2,none⟩=some (.int .i64 F)∧w'.cell? ⟨w.heap.size,3,none⟩=some (.slice ad n c)) (go_keep) (first
  | (go_at_call 27;(with_reducible refine (lint_any R _ (by omega) (by omega)).mono ?_);rintro e W2 ⟨rfl,m0,m1,hW⟩;rw [HM.out] at m0 m1 ⊢;replace HT:=Lib.hid (HT.out.grown (grown_trans gr hW));replace HT2:=Lib.hid (HT2.out.grown (grown_trans gr hW));have HT2o:=Lib.hid HT2.out.lies;replace HG:=Lib.hid (show Grown w W2 from grown_trans gr hW);clear hW p0 p1 p2 p3 p4;obtain ⟨p0,p1,p2,p3,p4,-,-,-,-⟩:=HT.out)
  | (go_at_call 28;(with_reducible refine (lwide_any R C F ad n c g _ hm (H1.out.grown gr)).mono ?_);rintro e W3 ⟨xd,xc,rfl,own,-,hW⟩;replace HT:=Lib.hid (HT.out.grown (grown_trans gr hW));replace HT2:=Lib.hid (HT2.out.grown (grown_trans gr hW));replace HG:=Lib.hid (show Grown w W3 from grown_trans gr hW);clear hW p0 p1 p2 p3 p4;obtain ⟨p0,p1,p2,p3,p4,-,-,-,-⟩:=HT.out))
 rcases own with ⟨h,-,-⟩ | ⟨b,rfl,hb,hro,hxc⟩
 ·exact absurd h (by omega)
 have HS:Hid (SoS w b n (.int .i64 R) (.int .i64 C) (.int .i64 F) (.slice ad n c) (rowsH G (fun t=>widV F g t) C 0) W3):=Lib.hid ⟨HG.out,HT.out,HT2.out,hro.congr fun t _=>if_neg (by omega),Nat.lt_of_lt_of_le HT2o.out hb⟩
 have HXC:=Lib.hid hxc
 clear hro hb p0 p1 p2 p3 p4 HT HT2 HG hxc HT2o
 go_wp2_with fail
 go_loopw [9,11,12,27] (fun s _ _ i wr=>∃ I:Nat,I≤R∧i=.int .i64 I∧s=.int .u32 (ST I)∧Hid (SoS w b n (.int .i64 R) (.int .i64 C) (.int .i64 F) (.slice ad n c) (rowsH G (fun t=>widV F g t) C I) wr)) (fun _ _ _ i _=>R - (intOf i).toNat)
 case atStart=>exact ⟨0,Nat.zero_le _,rfl,by rw [HT0.out],HS⟩
 case round=>
  rename World=>wr
  clear HS
  obtain ⟨I,hI,rfl,rfl,HS⟩:=hrel
  obtain ⟨s0,s1⟩:=HTb.out I
  by_cases hlt:I<R
  ·have HG:=Lib.hid HS.out.g
   have y:=grown_cell HG.out (HY.out I hlt) hbl
   obtain ⟨l0,l1⟩:=HL.out I hlt
   obtain ⟨lab,hlb⟩:∃ lab:Nat,ys I=(lab:Int):=⟨(ys I).toNat,by omega⟩
   have HGI:=Lib.hid (show ∀ j,j<C→G (I*C+j)=rowO (U I) C lab m j from fun j hj=>by rw [HGr.out I j hj,hlb])
   have HSI:=Lib.hid (show ST (I+1)=addV (ST I) (rowL (U I) C lab) by rw [HTn.out I,hlb])
   rw [hlb] at y l0 l1
   have hl2:lab<C:=by omega
   have hin:=row_in (C:=C) hlt
   rw [←HN.out] at hin
   have HUI:=Lib.hid (show ∀ j,j<C→rowsH G (fun t=>widV F g t) C I (I*C+j)=U I j from fun j hj=>by rw [HUr.out];exact if_neg (by omega))
   have HUb:=Lib.hid (show ∀ j,j<C→0≤U I j∧U I j≤4294967295 from fun j hj=>by rw [HUr.out];exact wid_bd F g _)
   obtain ⟨s,hs⟩:∃ s,ST I=s:=⟨_,rfl⟩
   rw [hs] at s0 s1 HSI ⊢
   obtain ⟨RL,hRL⟩:∃ RL,rowL (U I) C lab=RL:=⟨_,rfl⟩
   rw [hRL] at HSI
   have HRL:=Lib.hid hRL
   obtain ⟨p0,p1,p2,p3,p4,-,-,-,-⟩:=HS.out.t1
   clear hlb hs hRL
   go_wp2_with fail
   refine (lrow_any R F C I ad n c b n xc _ (by omega) hC hC0 hin HXC.out).mono ?_
   rintro e W4 ⟨k,rfl,hk,hW4⟩
   replace HS:=Lib.hid (HS.out.grown hW4)
   clear hW4 y p0 p1 p2 p3 p4
   go_wp2_with fail
   refine (lunlikely_any b n (I*C) C k lab _ (U I) m _ HS.out.r hin hC0 hC hk hl2 HUI.out HUb.out m0 m1).mono ?_
   rintro e W5 ⟨rfl,u0,u1,hun⟩
   rw [HRL.out] at u0 u1 ⊢
   have HS2:=Lib.hid ((HS.out.away hun.f hun.r).like fun t _=>rows_next HGI.out t)
   clear hun HS HG
   go_wp2_with (go_at_call 29;refine (ladd_any s RL _ s0 s1 u0 u1).mono ?_;rintro e W6 ⟨rfl,-,-,hW6⟩;replace HS2:=Lib.hid (HS2.out.grown hW6);clear hW6)
   go_roundw
   case rel=>exact ⟨I+1,by omega,by go_num,by rw [HSI.out],HS2⟩
   case measure=>simp [intOf];omega
  ·obtain rfl:I=R:=by omega
   have HG:=Lib.hid HS.out.g
   obtain ⟨p0,p1,p2,p3,p4,-,-,-,-⟩:=HS.out.t1
   obtain ⟨r0,r1,r2,r3,r4,r5,r6,r7,r8⟩:=HS.out.t2
   obtain ⟨s,hs⟩:∃ s,ST I=s:=⟨_,rfl⟩
   rw [hs] at s0 s1 ⊢
   have HST:=Lib.hid hs
   clear hs
   have HV:=Lib.hid (show (if (I:Int)=0 then (0:Int) else divV s m)=divV s m from if_neg (by omega))
   go_wp2_with fail
   go_region_held3 (fun w'=>w'.cell? ⟨w.heap.size,0,none⟩=some (.int .i64 I)∧w'.cell? ⟨w.heap.size,1,none⟩=some (.int .i64 C)∧w'.cell? ⟨w.heap.size,2,none⟩=some (.int .i64 F)∧w'.cell? ⟨w.heap.size,3,none⟩=some (.slice ad n c)) (go_keep) (first
    | (go_at_call 32;(with_reducible refine (lmean_any I C F ad n c s m _ s0 s1 m0 m1).mono ?_);rintro e W4 ⟨rfl,hW⟩;rw [HV.out];replace HS:=Lib.hid (HS.out.grown (grown_trans gr hW));replace HG:=Lib.hid (show Grown w W4 from grown_trans gr hW);clear hW p0 p1 p2 p3 p4 r0 r1 r2 r3 r4 r5 r6 r7 r8;obtain ⟨p0,p1,p2,p3,p4,-,-,-,-⟩:=HS.out.t1;obtain ⟨r0,r1,r2,r3,r4,r5,r6,r7,r8⟩:=HS.out.t2)
    | (go_at_call 33;(with_reducible refine (lshaped_any I C F ad (some ⟨b,0,none⟩) n c n xc _).mono ?_);rintro e W5 ⟨rfl,hW⟩;replace HS:=Lib.hid (HS.out.grown (grown_trans gr hW));replace HG:=Lib.hid (show Grown w W5 from grown_trans gr hW);clear hW p0 p1 p2 p3 p4 r0 r1 r2 r3 r4 r5 r6 r7 r8;obtain ⟨p0,p1,p2,p3,p4,-,-,-,-⟩:=HS.out.t1;obtain ⟨r0,r1,r2,r3,r4,r5,r6,r7,r8⟩:=HS.out.t2))
   have ho:=HS.out.o
   have hne:b≠w.heap.size+1:=by omega
   have HR:=Lib.hid (HS.out.r.congr (h':=G) fun t ht=>(if_pos (show t<I*C by rw [←HN.out];exact ht)).symm)
   go_wp2
   (try simp only [Exit.inBlock,Exit.then])
   refine bodyPost_ret (v:=.tuple #[.int .u32 (divV s m),.agg #[.int .i64 I,.int .i64 C,.int .i64 2,.slice (some ⟨b,0,none⟩) n xc],.int .i64 0]) ?_ rfl ⟨_,_,by rw [HST.out],?_,hm,fun x hx=>by cases hx;show w.heap.size≤b;omega,gr⟩
   ·rw [results_three rfl]
    go_simp
   ·have q:=(((HR.out.other (a:=⟨w.heap.size+1,0,none⟩) hne (.int .i64 I)).other (a:=⟨w.heap.size+1,1,none⟩) hne (.int .i64 C)).other (a:=⟨w.heap.size+1,2,none⟩) hne (.int .i64 2)).other (a:=⟨w.heap.size+1,3,none⟩) hne (.slice (some ⟨b,0,none⟩) n xc)
    exact ⟨fun t _=>HGb.out t,.inr ⟨b,0,rfl,q.lies,fun t ht=>by rw [Nat.zero_add];exact q.cell t ht⟩⟩

set_option maxHeartbeats 2000000 in
theorem lsoft_none (C F:Int) (ad yd:Option Addr) (c yc:Nat) (g y G:Nat→Int) (w:World) (hr:rightB 0 C F 0 g=true):
  Calls Tryz.prog 11 #[.agg #[.int .i64 0,.int .i64 C,.int .i64 F,.slice ad 0 c],.slice yd 0 yc] w (LosE 0 ⟨0,C,2,0,G⟩ 0 w):=by
 have H1:Hid (∀ W,Reads ad 0 g W):=Lib.hid fun W=>Reads.nil ad g W
 have H2:Hid (∀ W,ReadsI yd 0 y W):=Lib.hid fun W=>⟨fun i hi=>absurd hi (Nat.not_lt_zero i),.inl rfl⟩
 have HX:=Lib.hid (show Ending.returned (.int .i64 (labX ⟨0,C,F,0,g⟩ 0 y))=.returned (.int .i64 0) by
  unfold labX labB PT.right
  rw [show rightB 0 C F 0 g=true from hr,show labI C 0 y=true from lab_all fun j hj=>absurd hj (Nat.not_lt_zero j)]
  rfl)
 have HT:=Lib.hid ((ten_new w (.int .i64 0) (.int .i64 C) (.int .i64 F) (.slice ad 0 c) 24).grown (Grown.alloc (Grown.refl _) #[.int .i64 0,.int .i64 0,.int .i64 0,.slice none 0 0] 24))
 have HT2:=Lib.hid (ten_new2 w #[.int .i64 0,.int .i64 C,.int .i64 F,.slice ad 0 c] 24 (.int .i64 0) (.int .i64 0) (.int .i64 0) (.slice none 0 0) 24)
 have HG:=Lib.hid (show Grown w ((w.alloc (.cells #[.int .i64 0,.int .i64 C,.int .i64 F,.slice ad 0 c] 24)).alloc (.cells #[.int .i64 0,.int .i64 0,.int .i64 0,.slice none 0 0] 24)) from gr)
 clear hr
 go_enter Tryz.func11,Tryz.ntmps11
 go_wp2_with fail
 generalize (w.alloc _).alloc _=W0 at HT HT2 HG ⊢
 refine (llab_any _ _ _ _ _ _ _ _ _ g y _ (by omega) (by omega) (H1.out _) (H2.out _)).mono ?_
 rintro e W1 ⟨he,hW1⟩
 rw [HX.out] at he
 subst he
 replace HT:=Lib.hid (HT.out.grown hW1)
 replace HT2:=Lib.hid (HT2.out.grown hW1)
 replace HG:=Lib.hid (grown_trans HG.out hW1)
 clear hW1
 obtain ⟨p0,p1,p2,p3,p4,-,-,-,-⟩:=HT.out
 go_wp2_with fail
 go_region_held3 (fun w'=>w'.cell? ⟨w.heap.size,0,none⟩=some (.int .i64 0)∧w'.cell? ⟨w.heap.size,1,none⟩=some (.int .i64 C)∧w'.cell? ⟨w.heap.size,2,none⟩=some (.int .i64 F)∧w'.cell? ⟨w.heap.size,3,none⟩=some (.slice ad 0 c)) (go_keep) (first
  | (go_at_call 27;(with_reducible refine (lint_any 0 _ (by omega) (by omega)).mono ?_);rintro e W2 ⟨rfl,m0,m1,hW⟩;replace HT:=Lib.hid (HT.out.grown (grown_trans gr hW));replace HT2:=Lib.hid (HT2.out.grown (grown_trans gr hW));replace HG:=Lib.hid (show Grown w W2 from grown_trans gr hW);clear hW p0 p1 p2 p3 p4;obtain ⟨p0,p1,p2,p3,p4,-,-,-,-⟩:=HT.out)
  | (go_at_call 28;(with_reducible refine (lwide_nil 0 C F ad c _).mono ?_);rintro e W3 ⟨rfl,hW⟩;replace HT:=Lib.hid (HT.out.grown (grown_trans gr hW));replace HT2:=Lib.hid (HT2.out.grown (grown_trans gr hW));replace HG:=Lib.hid (show Grown w W3 from grown_trans gr hW);clear hW p0 p1 p2 p3 p4;obtain ⟨p0,p1,p2,p3,p4,-,-,-,-⟩:=HT.out))
 obtain ⟨m,hm⟩:∃ m,frmV 0=m:=⟨_,rfl⟩
 rw [hm] at m0 m1 ⊢
 clear hm
 go_wp2_with fail
 refine wp_loop_rounds 1 ?_
 rw [rounds_succ]
 obtain ⟨r0,r1,r2,r3,r4,r5,r6,r7,r8⟩:=HT2.out
 go_wp2_with fail
 go_region_held3 (fun w'=>w'.cell? ⟨w.heap.size,0,none⟩=some (.int .i64 0)∧w'.cell? ⟨w.heap.size,1,none⟩=some (.int .i64 C)∧w'.cell? ⟨w.heap.size,2,none⟩=some (.int .i64 F)∧w'.cell? ⟨w.heap.size,3,none⟩=some (.slice ad 0 c)) (go_keep) (first
  | (go_at_call 32;(with_reducible refine (lmean_any 0 C F ad 0 c 0 m _ (by decide) (by decide) m0 m1).mono ?_);rintro e W4 ⟨rfl,hW⟩;rw [if_pos rfl];replace HT:=Lib.hid (HT.out.grown (grown_trans gr hW));replace HT2:=Lib.hid (HT2.out.grown (grown_trans gr hW));replace HG:=Lib.hid (show Grown w W4 from grown_trans gr hW);clear hW p0 p1 p2 p3 p4 r0 r1 r2 r3 r4 r5 r6 r7 r8;obtain ⟨p0,p1,p2,p3,p4,-,-,-,-⟩:=HT.out;obtain ⟨r0,r1,r2,r3,r4,r5,r6,r7,r8⟩:=HT2.out)
  | (go_at_call 33;(with_reducible refine (lshaped_any 0 C F ad none 0 c 0 0 _).mono ?_);rintro e W5 ⟨rfl,hW⟩;replace HT:=Lib.hid (HT.out.grown (grown_trans gr hW));replace HT2:=Lib.hid (HT2.out.grown (grown_trans gr hW));replace HG:=Lib.hid (show Grown w W5 from grown_trans gr hW);clear hW p0 p1 p2 p3 p4 r0 r1 r2 r3 r4 r5 r6 r7 r8;obtain ⟨p0,p1,p2,p3,p4,-,-,-,-⟩:=HT.out;obtain ⟨r0,r1,r2,r3,r4,r5,r6,r7,r8⟩:=HT2.out))
 go_wp2
 (try simp only [Exit.inBlock,Exit.then])
 refine bodyPost_ret (v:=.tuple #[.int .u32 0,.agg #[.int .i64 0,.int .i64 C,.int .i64 2,.slice none 0 0],.int .i64 0]) ?_ rfl ⟨none,0,rfl,Reads.nil _ _ _,Nat.zero_le _,fresh_none _,gr⟩
 rw [results_three rfl]
 go_simp
end Go.Proofs.YteifobleigfbaaaGreat
