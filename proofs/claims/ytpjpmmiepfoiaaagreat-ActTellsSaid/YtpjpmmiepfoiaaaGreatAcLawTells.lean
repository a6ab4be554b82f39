/- The walk of ActTells. (Written by gen62.py.) -/
import Derived.Test.YtpjpmmiepfoiaaaGreatAcKnown
import Derived.Test.YtpjpmmiepfoiaaaGreatAcLawMasks
import Derived.Test.YtpjpmmiepfoiaaaGreatSeatT
import Derived.Test.YtpjpmmiepfoiaaaGreatRActF
import Derived.Test.YtpjpmmiepfoiaaaGreatRActB
namespace Go.Proofs.YtpjpmmiepfoiaaaGreat
open Go Go.RowKit
set_option linter.unusedVariables false
set_option linter.unusedSimpArgs false

theorem run_append_row {P:Program} (w:World) (t ty e:TypeId) (i:TypeInfo) (z:Value) (bytes:Nat) (ht:P.underlying t=some (.slice e)) (hi:P.info? e=some i) (hz:i.zero=some z) (hsize:i.size=1) (hby:i.bytes=bytes) (hzs:z.cells.size=1)
  (base:Nat) (ad:Option Addr) (n c:Nat) (g:Nat→Int) (hr:Reads ad n g w) (h63:n≤maxLen) (hbytes:n*bytes≤140737488355328) (hbase:base≤w.heap.size):
  ∃ v' w',(Builtin.append_ #[t,t] ty #[.slice none 0 0,.slice ad n c]).run P w=.ok v' w'∧w'.ownsRow base e 1 v' n (wordsL n g)∧w.heap.size≤w'.heap.size∧(∀ w0,Grown w0 w→Grown w0 w'):=by
 by_cases h0:n=0
 ·subst h0
  exact ⟨.slice none 0 0,w,run_append_nothing w t ty e i ht hi hsize ad c,World.ownsRow_nil _ _ _ _,Nat.le_refl _,fun _ h=>h⟩
 ·obtain ⟨b,off,rfl,hl,hc⟩:∃ b off,ad=some ⟨b,off,none⟩∧b<w.heap.size∧∀ i,i<n→w.cell? ⟨b,off+i,none⟩=some (.int .u32 (g i)):=by
   rcases hr.2 with h | h
   ·exact absurd h h0
   ·exact h
  have hlen:(wordsL n g).length=n*1:=by simp [wordsL]
  have hnews:∀ j v,(wordsL n g)[j]?=some v→w.cell? ((⟨b,off,none⟩:Addr).add j)=some v:=by
   intro j v hj
   unfold wordsL at hj
   rw [List.getElem?_map] at hj
   by_cases hjn:j<n
   ·rw [List.getElem?_range hjn] at hj
    simp at hj
    subst hj
    rw [Addr.add_lit]
    exact hc j hjn
   ·rw [List.getElem?_eq_none (by simp;omega)] at hj
    simp at hj
  have hone:∀ u ∈ wordsL n g,u.oneCell'=true:=by
   intro u hu
   unfold wordsL at hu
   obtain ⟨j,_,rfl⟩:=List.mem_map.1 hu
   rfl
  obtain ⟨g',c',w',hrun,own,grow,at',lt⟩:=run_append_lies (P:=P) w t ty base e i z 1 bytes ht hi hz hsize hby hzs (by decide) (.slice none 0 0) 0 [] (World.ownsRow_nil _ _ _ _) ⟨b,off,none⟩ n c (wordsL n g) hlen hnews hone (by omega) (by simp only [maxLen] at h63 ⊢;omega) (by rw [Nat.zero_add];exact hbytes) hbase _ rfl
  have h2:=run_append_nil (P:=P) w t ty e i z ht hi hz ⟨b,off,none⟩ n c (wordsL n g) (by rw [hsize];exact hlen) hnews (by omega) (by simp only [maxLen] at h63;omega) (by rw [hby];omega)
  have hg:∀ w0,Grown w0 w→Grown w0 w':=by
   have hrun':=hrun
   rw [h2] at hrun'
   injection hrun' with _ e2
   subst e2
   exact fun w0 h=>Grown.alloc (Grown.drew h) _ _
  rw [Nat.zero_add] at hrun own
  rw [List.nil_append] at own
  exact ⟨_,w',hrun,own,(hg w (Grown.refl w)).2.2,hg⟩

theorem wpList_append_row {P:Program} {ops:Array Oper} {rest:List Oper} {o:Oper} {a:Act} {w:World} {Q:Exit→Act→World→Prop} (hgd:o.guard=none) (s x:Operand) (t:TypeId)
  (ho:o.op=.call { callee:=.builtin .append,args:=#[s,x],argTypes:=#[t,t] })
  (e:TypeId) (i:TypeInfo) (z:Value) (bytes:Nat) (ht:P.underlying t=some (.slice e)) (hi:P.info? e=some i) (hz:i.zero=some z) (hsize:i.size=1) (hby:i.bytes=bytes) (hzs:z.cells.size=1)
  (hs:a.eval s=.slice none 0 0) (base:Nat) (ad:Option Addr) (n c:Nat) (g:Nat→Int) (hx:a.eval x=.slice ad n c) (hr:Reads ad n g w) (h63:n≤maxLen) (hbytes:n*bytes≤140737488355328) (hbase:base≤w.heap.size)
  (h:∀ v' w',w'.ownsRow base e 1 v' n (wordsL n g)→w.heap.size≤w'.heap.size→(∀ w0,Grown w0 w→Grown w0 w')→wpList P ops Q rest (a.put o.dst v') w'):wpList P ops Q (o::rest) a w:=by
 refine wpList_plain hgd fun _ hK=>?_
 obtain ⟨v',w',hrun,h2,h3,h4⟩:=run_append_row (P:=P) w t o.type e i z bytes ht hi hz hsize hby hzs base ad n c g hr h63 hbytes hbase
 unfold Oper.wp execOp
 simp only [ho,resolve,invoke,builtin,Sem.run_bind,Sem.run_pure,Result.andThen_ok,List.map_toArray,List.map_cons,List.map_nil,hs,hx,hrun]
 exact hK _ _ (h v' w' h2 h3 h4)

def snocG (n:Nat) (g:Nat→Int) (x:Int) (i:Nat):Int:=if i<n then g i else x

theorem words_snoc (n:Nat) (g:Nat→Int) (x:Int):wordsL n g++[.int .u32 x]=wordsL (n+1) (snocG n g x):=by
 rw [wordsL_next]
 congr 1
 ·unfold wordsL
  refine List.map_congr_left fun i hi=>?_
  have:=List.mem_range.1 hi
  unfold snocG
  rw [if_pos this]
 ·unfold snocG
  rw [if_neg (Nat.lt_irrefl n)]

theorem snoc_bd (n:Nat) (g:Nat→Int) (x:Int) (h:∀ i,i<n→0≤g i∧g i≤4294967295) (x0:0≤x) (x1:x≤4294967295) (i:Nat):0≤snocG n g x i∧snocG n g x i≤4294967295:=by
 unfold snocG
 split
 ·exact h i (by assumption)
 ·exact ⟨x0,x1⟩

theorem ints_two {W:World} {a b:Int} {t:TypeId}:IntsAt W.heap.size 2 (W.alloc (.cells #[.int .i64 a,.int .i64 b] t)):=by
 refine ⟨by simp,fun j hj=>?_⟩
 rw [World.cell?_alloc_at (hn:=rfl)]
 rcases (show j=0∨j=1 by omega) with rfl | rfl <;> exact ⟨_,rfl⟩

theorem three_rem (f:Int) (f0:0≤f):∃ F:Int,f%3=F∧f.tmod 3=F∧IntKind.i64.wrap F=F:=
 ⟨f%3,rfl,Int.tmod_eq_emod_of_nonneg f0,by rw [IntKind.wrap_i64];omega⟩

theorem five_rem (m:Int) (m0:0≤m):∃ x:Nat,m%5=(x:Int)∧m.tmod 5=(x:Int)∧x≤4:=
 ⟨(m%5).toNat,by omega,by rw [Int.tmod_eq_emod_of_nonneg m0];omega,by omega⟩

theorem four_remt (q:Int) (q0:0≤q):∃ K:Int,q%4=K∧q.tmod 4=K∧0≤K∧K≤3∧IntKind.i64.wrap K=K:=
 ⟨q%4,rfl,Int.tmod_eq_emod_of_nonneg q0,by omega,by omega,by rw [IntKind.wrap_i64];omega⟩

set_option maxRecDepth 100000 in
set_option maxHeartbeats 16000000 in
theorem atells_go (w:World) (aR aC aF bR bC bF kind k m n f x:Int) (ad bd ld:Option Addr) (an ca bn cb ln lc:Nat) (ga gb lg:Nat→Int) (mild:Bool)
  (ha:lightB aR aC an=true) (hb:lightB bR bC bn=true) (hl:ln≤30) (Ra:Reads ad an ga w) (Rb:Reads bd bn gb w) (Rl:Reads ld ln lg w) (Sa:Sound ad an ca) (Sb:Sound bd bn cb)
  (k0:0≤k) (k1:k≤255) (m0:0≤m) (m1:m≤255) (n0:0≤n) (n1:n≤255) (f0:0≤f) (f1:f≤255) (x0:0≤x) (x1:x≤4294967295):
  Calls Tryz.prog 3 #[.agg #[.int .i64 aR,.int .i64 aC,.int .i64 aF,.slice ad an ca],.agg #[.int .i64 bR,.int .i64 bC,.int .i64 bF,.slice bd bn cb],.int .i64 kind,.int .u8 k,.int .u8 m,.int .u8 n,.int .u8 f,.slice ld ln lc,.int .u32 x,.bool mild] w fun e w'=>e=.returned (.bool true)∧Grown w w':=by
 have HA:=Lib.hid ha
 have HB:=Lib.hid hb
 have t1:¬(30:Int)<(ln:Int):=by omega
 have HL:=Lib.hid ((((((((Lot.nil w).add (f:=.rd ld ln lg) Rl).add (f:=.rd bd bn gb) Rb).add (f:=.rd ad an ga) Ra).add (f:=.gr w) (Grown.refl w)).grown (Grown.alloc (Grown.alloc (Grown.refl w) #[.int .i64 aR,.int .i64 aC,.int .i64 aF,.slice ad an ca] 24) #[.int .i64 bR,.int .i64 bC,.int .i64 bF,.slice bd bn cb] 24)).add (f:=.ten w.heap.size (.int .i64 aR) (.int .i64 aC) (.int .i64 aF) (.slice ad an ca)) ((ten_new w _ _ _ _ _).grown (Grown.alloc (Grown.refl _) _ _)))
  |>.add (f:=.ten (w.heap.size+1) (.int .i64 bR) (.int .i64 bC) (.int .i64 bF) (.slice bd bn cb)) (ten_new2 w _ _ _ _ _ _ _))
 obtain ⟨X,hX,hX2,lX⟩:=five_rem m m0
 obtain ⟨Y,hY,hY2,lY⟩:=five_rem n n0
 obtain ⟨F,hF,hF2,hF3⟩:=three_rem f f0
 obtain ⟨H,hH⟩:∃ H,f / 3=H:=⟨_,rfl⟩
 have hH2:f.tdiv 3=H:=by rw [Int.tdiv_eq_ediv_of_nonneg f0];exact hH
 obtain ⟨G,hG,hG2,hG3⟩:=three_rem H (by omega)
 obtain ⟨K,hK1,hK2,hK3,hK4,hK5⟩:=four_remt k k0
 obtain ⟨M,hM⟩:∃ M,X*Y=M:=⟨_,rfl⟩
 have X1:Hid ((X:Int)*(Y:Int)=(M:Int)):=Lib.hid (by rw [←hM,Int.natCast_mul])
 have lM:M≤16:=by have:=Nat.mul_le_mul lX lY;omega
 have B0:Hid (an≤60∧bn≤60):=Lib.hid (by unfold lightB at ha hb;simp only [Bool.and_eq_true,decide_eq_true_eq] at ha hb;omega)
 have HLB:=Lib.hid Rl.1
 have HSa:=Lib.hid Sa
 have HSb:=Lib.hid Sb
 clear hM ha hb Ra Rb Rl Sa Sb
 go_enter Tryz.func3,Tryz.ntmps3
 go_wp2_with fail
 generalize (w.alloc _).alloc _=W0 at HL ⊢
 refine (known15_any _).mono ?_
 rintro e W1 ⟨rfl,hW1⟩
 replace HL:=Lib.hid (HL.out.grown hW1)
 clear hW1
 obtain ⟨p0,p1,p2,p3,p4,_,_,_,_⟩:=HL.out.ten 1 rfl
 obtain ⟨q0,q1,q2,q3,q4,_,_,_,_⟩:=HL.out.ten 0 rfl
 go_wp2_with fail
 refine (hlight_any _ _ _ _ _ _ _).mono ?_
 rw [HA.out]
 rintro e W2 ⟨rfl,hW2⟩
 replace HL:=Lib.hid (HL.out.grown hW2)
 clear hW2 p0 p1 p2 p3 p4 q0 q1 q2 q3 q4
 obtain ⟨q0,q1,q2,q3,q4,_,_,_,_⟩:=HL.out.ten 0 rfl
 go_wp2_with fail
 refine (hlight_any _ _ _ _ _ _ _).mono ?_
 rw [HB.out]
 rintro e W3 ⟨rfl,hW3⟩
 replace HL:=Lib.hid (HL.out.grown hW3)
 clear hW3 q0 q1 q2 q3 q4
 generalize w.heap.size=ab at HL ⊢
 go_wp2_with fail
 refine (seatt_any X Y F M ld ln lc lg mild _ (by omega) (HL.out.rd 5 rfl) (by omega) (by omega) (by omega) (by omega) X1.out).mono ?_
 rintro e W4 ⟨zd,zc,zg,rfl,hR1,-,hW4,-,hs1⟩
 have HSz:=Lib.hid hs1
 replace HL:=Lib.hid ((HL.out.grown hW4).add (f:=.rd zd M zg) hR1)
 clear hR1 hs1 hW4
 replace HL:=Lib.hid ((HL.out.grown (Grown.alloc (Grown.refl W4) #[.int .i64 X,.int .i64 Y,.int .i64 F,.slice zd M zc] 24)).add (f:=.ten W4.heap.size (.int .i64 X) (.int .i64 Y) (.int .i64 F) (.slice zd M zc)) (ten_new W4 _ _ _ _ _))
 go_wp2_with (first
  | (at_builtin;refine wpList_append_row rfl _ _ 22 rfl 25 _ _ 4 rfl rfl rfl rfl rfl rfl rfl (W4.heap.size+1) ld ln lc lg rfl (HL.out.rd 7 rfl) (by show ln≤9223372036854775807;omega) (by omega) (by simp) ?_;intro v6 W6 own6 hs6 hgr6;have HG6:=Lib.hid (hgr6 _ (Grown.refl _));clear hgr6)
  | (at_builtin;refine wpList_append_one rfl _ _ 22 rfl 25 _ _ 4 rfl rfl rfl rfl rfl rfl (W4.heap.size+1) _ ln (wordsL ln lg) rfl (own6.alloc _) W6.heap.size (.int .u32 9) rfl (by go_simp) rfl (by show ln+1≤9223372036854775807;omega) (by show (ln+1)*4≤140737488355328;omega) (by have:=HG6.out.2.2;simp at this ⊢;omega) ?_;intro gg cc W8 own8 hb8 hs8 hblk hcell hfr hgr;have HG8:=Lib.hid (hgr _ (Grown.alloc HG6.out _ _) (by simp));rw [words_snoc] at own8;have HO8:=Lib.hid own8;clear own8 hb8 hs8 hblk hcell hfr hgr own6 hs6 HG6))
 obtain ⟨ed,ec,he,hO,-⟩:=owns_told (w:=W4) HO8.out (Nat.le_succ _)
 have HR9:=Lib.hid (hO.reads (fun t _=>snoc_bd ln lg 9 HLB.out (by decide) (by decide) t))
 injection he with he1 he2 he3
 subst he1
 replace HL:=Lib.hid (HL.out.grown HG8.out)
 clear HO8 HG8 hO he2
 generalize W4.heap.size=zb at HL ⊢
 refine (seatt_any X Y G M _ (ln+1) _ (snocG ln lg 9) mild _ (by omega) HR9.out (by omega) (by omega) (by omega) (by omega) X1.out).mono ?_
 rintro e W9 ⟨dd,dc,dg,rfl,hR1,-,hW4,-,hs1⟩
 have HSd:=Lib.hid hs1
 replace HL:=Lib.hid ((HL.out.grown hW4).add (f:=.rd dd M dg) hR1)
 clear hR1 hs1 hW4 HR9
 replace HL:=Lib.hid ((HL.out.grown (Grown.alloc (Grown.refl W9) #[.int .i64 X,.int .i64 Y,.int .i64 G,.slice dd M dc] 24)).add (f:=.ten W9.heap.size (.int .i64 X) (.int .i64 Y) (.int .i64 G) (.slice dd M dc)) (ten_new W9 _ _ _ _ _))
 go_wp2_with fail
 replace HL:=Lib.hid ((HL.out.grown (Grown.alloc (Grown.refl _) #[.int .i64 kind,.int .i64 K] 3)).add (f:=.ints (W9.heap.size+1) 2) (by have:=ints_two (W:=W9.alloc (.cells #[.int .i64 X,.int .i64 Y,.int .i64 G,.slice dd M dc] 24)) (a:=kind) (b:=K) (t:=3);simp only [World.size_alloc] at this;exact this))
 generalize (W9.alloc _).alloc _=W10 at HL ⊢
 generalize W9.heap.size+1=NB at HL ⊢
 generalize W9.heap.size=db at HL ⊢
 go_loopw [86] (fun i wr=>∃ I:Nat,I≤2∧i=.int .i64 I∧Hid (Lot [.ints NB 2,.ten db (.int .i64 X) (.int .i64 Y) (.int .i64 G) (.slice dd M dc),.rd dd M dg,.ten zb (.int .i64 X) (.int .i64 Y) (.int .i64 F) (.slice zd M zc),.rd zd M zg,.ten (ab+1) (.int .i64 bR) (.int .i64 bC) (.int .i64 bF) (.slice bd bn cb),.ten ab (.int .i64 aR) (.int .i64 aC) (.int .i64 aF) (.slice ad an ca),.gr w,.rd ad an ga,.rd bd bn gb,.rd ld ln lg] wr)) (fun i _=>(2 - intOf i).toNat)
 case atStart=>exact ⟨0,by omega,rfl,HL⟩
 case round=>
  rename World=>wr1
  clear HL
  obtain ⟨I,hI,rfl,HL⟩:=hrel
  by_cases hI2:(I:Int)<2
  ·obtain ⟨nn,z0⟩:=(HL.out.ints 0 rfl).2 I (by omega)
   have zl:=(HL.out.ints 0 rfl).1
   go_wp2_with fail
   clear z0 zl
   refine (num_is 2 x _ x0 x1).mono ?_
   obtain ⟨u0,u1⟩:=numI_bd 2 x x0 x1
   generalize numI 2 x=nx at u0 u1 ⊢
   rintro e V1 ⟨rfl,hW⟩
   replace HL:=Lib.hid (HL.out.grown hW)
   clear hW
   go_wp2_with fail
   refine (mild_is 2 x _ x0 x1).mono ?_
   obtain ⟨u2,u3⟩:=mil_bd 2 x x0
   generalize milI 2 x=mx at u2 u3 ⊢
   rintro e V2 ⟨rfl,dm,hd⟩
   replace HL:=Lib.hid (HL.out.grown (grown_dn hd))
   clear hd
   replace HL:=Lib.hid ((HL.out.grown (Grown.alloc (Grown.refl V2) #[.int .u32 x,.int .u32 nx,.int .u32 mx] 25)).add (f:=.holds V2.heap.size 3) (holds_three ⟨x0,x1⟩ ⟨u0,u1⟩ ⟨u2,u3⟩))
   go_wp2_with fail
   generalize V2.alloc _=V3 at HL ⊢
   generalize V2.heap.size=XB at HL ⊢
   go_loopw [97] (fun i wr=>∃ J:Nat,J≤3∧i=.int .i64 J∧Hid (Lot [.holds XB 3,.ints NB 2,.ten db (.int .i64 X) (.int .i64 Y) (.int .i64 G) (.slice dd M dc),.rd dd M dg,.ten zb (.int .i64 X) (.int .i64 Y) (.int .i64 F) (.slice zd M zc),.rd zd M zg,.ten (ab+1) (.int .i64 bR) (.int .i64 bC) (.int .i64 bF) (.slice bd bn cb),.ten ab (.int .i64 aR) (.int .i64 aC) (.int .i64 aF) (.slice ad an ca),.gr w,.rd ad an ga,.rd bd bn gb,.rd ld ln lg] wr)) (fun i _=>(3 - intOf i).toNat)
   case atStart=>exact ⟨0,by omega,rfl,HL⟩
   case round=>
    rename World=>wr2
    clear HL
    obtain ⟨J,hJ,rfl,HL⟩:=hrel
    by_cases hJ3:(J:Int)<3
    ·obtain ⟨v,z2,v0,v1⟩:=(HL.out.holds 0 rfl).2 J (by omega)
     have zl:=(HL.out.holds 0 rfl).1
     obtain ⟨V,hV⟩:∃ V,valA nn v=V:=⟨_,rfl⟩
     obtain ⟨S,hS⟩:∃ S,sloA nn v=S:=⟨_,rfl⟩
     have HV:=Lib.hid hV
     have HS:=Lib.hid hS
     clear hV hS
     go_wp2_with fail
     clear z2 zl
     refine (avalue_any nn v _ v0 v1).mono ?_
     rw [HV.out]
     rintro e Y1 ⟨rfl,hW⟩
     replace HL:=Lib.hid (HL.out.grown hW)
     clear hW
     go_wp2_with fail
     refine (rvalue_any nn v _ v0 v1).mono ?_
     rw [HV.out]
     rintro e Y2 ⟨rfl,hW⟩
     replace HL:=Lib.hid (HL.out.grown hW)
     clear hW
     go_wp2_with fail
     refine (aslope_any nn v _ v0 v1).mono ?_
     rw [HS.out]
     rintro e Y3 ⟨rfl,hW⟩
     replace HL:=Lib.hid (HL.out.grown hW)
     clear hW
     go_wp2_with fail
     refine (rslope_any nn v _ v0 v1).mono ?_
     rw [HS.out]
     rintro e Y4 ⟨rfl,hW⟩
     replace HL:=Lib.hid (HL.out.grown hW)
     clear hW
     go_wp2
     go_roundw
     case rel=>exact ⟨J+1,by omega,by go_num,HL⟩
     case measure=>simp [intOf];omega
    ·obtain rfl:J=3:=by omega
     replace HL:Hid (Lot [.ints NB 2,.ten db (.int .i64 X) (.int .i64 Y) (.int .i64 G) (.slice dd M dc),.rd dd M dg,.ten zb (.int .i64 X) (.int .i64 Y) (.int .i64 F) (.slice zd M zc),.rd zd M zg,.ten (ab+1) (.int .i64 bR) (.int .i64 bC) (.int .i64 bF) (.slice bd bn cb),.ten ab (.int .i64 aR) (.int .i64 aC) (.int .i64 aF) (.slice ad an ca),.gr w,.rd ad an ga,.rd bd bn gb,.rd ld ln lg] wr2):=Lib.hid (fun f hf=>HL.out f (List.mem_cons_of_mem _ hf))
     obtain ⟨p0,p1,p2,p3,p4,_,_,_,_⟩:=HL.out.ten 6 rfl
     obtain ⟨q0,q1,q2,q3,q4,_,_,_,_⟩:=HL.out.ten 5 rfl
     obtain ⟨r0,r1,r2,r3,r4,_,_,_,_⟩:=HL.out.ten 3 rfl
     obtain ⟨s0,s1,s2,s3,s4,_,_,_,_⟩:=HL.out.ten 1 rfl
     go_wp2_with fail
     clear p0 p1 p2 p3 p4 q0 q1 q2 q3 q4 r0 r1 r2 r3 r4 s0 s1 s2 s3 s4
     have HP:Hid (PairsAt wr2.heap.size 3 (wr2.alloc (.cells #[.int .i64 aR,.int .i64 aC,.int .i64 aF,.slice ad an ca,.int .i64 bR,.int .i64 bC,.int .i64 bF,.slice bd bn cb,.int .i64 X,.int .i64 Y,.int .i64 F,.slice zd M zc,.int .i64 X,.int .i64 Y,.int .i64 G,.slice dd M dc,.int .i64 X,.int .i64 Y,.int .i64 F,.slice zd M zc,.int .i64 aR,.int .i64 aC,.int .i64 aF,.slice ad an ca] 31))):=Lib.hid fun Q hQ=>by
      obtain ⟨u5,u6⟩:=B0.out
      match Q,hQ with
      | 0,_=>exact ⟨TenOk.new rfl rfl rfl rfl (by omega) (HL.out.rd 8 rfl) HSa.out,TenOk.new rfl rfl rfl rfl (by omega) (HL.out.rd 9 rfl) HSb.out⟩
      | 1,_=>exact ⟨TenOk.new rfl rfl rfl rfl (by omega) (HL.out.rd 4 rfl) HSz.out,TenOk.new rfl rfl rfl rfl (by omega) (HL.out.rd 2 rfl) HSd.out⟩
      | 2,_=>exact ⟨TenOk.new rfl rfl rfl rfl (by omega) (HL.out.rd 4 rfl) HSz.out,TenOk.new rfl rfl rfl rfl (by omega) (HL.out.rd 8 rfl) HSa.out⟩
     replace HL:=Lib.hid ((HL.out.grown (Grown.alloc (Grown.refl wr2) _ 31)).add (f:=.pairs wr2.heap.size 3) HP.out)
     clear HP
     generalize wr2.alloc _=V4 at HL ⊢
     generalize wr2.heap.size=PB at HL ⊢
     go_loopw [129] (fun i wr=>∃ Q:Nat,Q≤3∧i=.int .i64 Q∧Hid (Lot [.pairs PB 3,.ints NB 2,.ten db (.int .i64 X) (.int .i64 Y) (.int .i64 G) (.slice dd M dc),.rd dd M dg,.ten zb (.int .i64 X) (.int .i64 Y) (.int .i64 F) (.slice zd M zc),.rd zd M zg,.ten (ab+1) (.int .i64 bR) (.int .i64 bC) (.int .i64 bF) (.slice bd bn cb),.ten ab (.int .i64 aR) (.int .i64 aC) (.int .i64 aF) (.slice ad an ca),.gr w,.rd ad an ga,.rd bd bn gb,.rd ld ln lg] wr)) (fun i _=>(3 - intOf i).toNat)
     case atStart=>exact ⟨0,by omega,rfl,HL⟩
     case round=>
      rename World=>wr3
      clear HL
      obtain ⟨Q,hQ,rfl,HL⟩:=hrel
      by_cases hQ3:(Q:Int)<3
      ·obtain ⟨⟨R1,C1,F1,d1,n1,c1,g1,z0,z1,z2,z3,z4,l1,rd1,-⟩,⟨R2,C2,F2,d2,n2,c2,g2,z5,z6,z7,z8,z9,l2,rd2,-⟩⟩:=(HL.out.pairs 0 rfl) Q (by omega)
       replace HL:=Lib.hid ((HL.out.add (f:=.rd d1 n1 g1) rd1).add (f:=.rd d2 n2 g2) rd2)
       clear rd1 rd2
       go_wp2_with fail
       clear z0 z1 z2 z3 z4 z5 z6 z7 z8 z9
       have HC:∀ (off:Nat) (v:Value),#[Value.int .i64 R1,.int .i64 C1,.int .i64 F1,.slice d1 n1 c1,.int .i64 R2,.int .i64 C2,.int .i64 F2,.slice d2 n2 c2][off]?=some v→CellAt wr3.heap.size off v (wr3.alloc (.cells #[.int .i64 R1,.int .i64 C1,.int .i64 F1,.slice d1 n1 c1,.int .i64 R2,.int .i64 C2,.int .i64 F2,.slice d2 n2 c2] 31)):=fun off v h=>cell_new h
       replace HL:=Lib.hid (((((((((HL.out.grown (Grown.alloc (Grown.refl wr3) #[.int .i64 R1,.int .i64 C1,.int .i64 F1,.slice d1 n1 c1,.int .i64 R2,.int .i64 C2,.int .i64 F2,.slice d2 n2 c2] 31)).add (f:=.cell wr3.heap.size 0 (.int .i64 R1)) (HC 0 _ rfl)).add (f:=.cell wr3.heap.size 1 (.int .i64 C1)) (HC 1 _ rfl)).add (f:=.cell wr3.heap.size 2 (.int .i64 F1)) (HC 2 _ rfl)).add (f:=.cell wr3.heap.size 3 (.slice d1 n1 c1)) (HC 3 _ rfl)).add (f:=.cell wr3.heap.size 4 (.int .i64 R2)) (HC 4 _ rfl)).add (f:=.cell wr3.heap.size 5 (.int .i64 C2)) (HC 5 _ rfl)).add (f:=.cell wr3.heap.size 6 (.int .i64 F2)) (HC 6 _ rfl)).add (f:=.cell wr3.heap.size 7 (.slice d2 n2 c2)) (HC 7 _ rfl))
       clear HC
       generalize wr3.alloc _=Z0 at HL ⊢
       generalize wr3.heap.size=qb at HL ⊢
       obtain ⟨T1,hT1⟩:∃ T,forT nn ⟨R1,C1,F1,n1,g1⟩=T:=⟨_,rfl⟩
       obtain ⟨E1,hE1⟩:∃ E,forX nn ⟨R1,C1,F1,n1,g1⟩=E:=⟨_,rfl⟩
       have HT1:=Lib.hid hT1
       have HE1:=Lib.hid hE1
       clear hT1 hE1
       obtain ⟨T2,hT2⟩:∃ T,bacT nn ⟨R1,C1,F1,n1,g1⟩ ⟨R2,C2,F2,n2,g2⟩=T:=⟨_,rfl⟩
       obtain ⟨E2,hE2⟩:∃ E,bacX nn ⟨R1,C1,F1,n1,g1⟩ ⟨R2,C2,F2,n2,g2⟩=E:=⟨_,rfl⟩
       have HT2:=Lib.hid hT2
       have HE2:=Lib.hid hE2
       clear hT2 hE2
       have zl:=HL.out.lies 7 rfl
       have z0:=HL.out.cell 7 rfl
       have z1:=HL.out.cell 6 rfl
       have z2:=HL.out.cell 5 rfl
       have z3:=HL.out.cell 4 rfl
       try go_wp2_with fail
       clear zl z0 z1 z2 z3
       refine (aforward_any nn R1 C1 F1 d1 n1 c1 g1 _ l1 (HL.out.rd 9 rfl)).mono ?_
       rw [HT1.out,HE1.out]
       rintro e U1 ⟨xd1,xc1,rfl,hO,hB,hn,hW⟩
       have HN1:=Lib.hid hn
       replace HL:=Lib.hid ((HL.out.grown hW).add (f:=.rd xd1 T1.n T1.g) (hO.reads hB))
       clear hO hB hn hW
       have zl:=HL.out.lies 8 rfl
       have z0:=HL.out.cell 8 rfl
       have z1:=HL.out.cell 7 rfl
       have z2:=HL.out.cell 6 rfl
       have z3:=HL.out.cell 5 rfl
       go_wp2_with fail
       clear zl z0 z1 z2 z3
       replace HL:=Lib.hid ((HL.out.grown (Grown.alloc (Grown.refl U1) #[.int .i64 T1.R,.int .i64 T1.C,.int .i64 T1.F,.slice xd1 T1.n xc1] 24)).add (f:=.ten U1.heap.size (.int .i64 T1.R) (.int .i64 T1.C) (.int .i64 T1.F) (.slice xd1 T1.n xc1)) (ten_new U1 _ _ _ _ _))
       generalize U1.alloc _=Z1 at HL ⊢
       generalize U1.heap.size=o1 at HL ⊢
       refine (rforward_any nn R1 C1 F1 d1 n1 c1 g1 _ l1 (HL.out.rd 11 rfl)).mono ?_
       rw [HT1.out,HE1.out]
       rintro e U2 ⟨xd2,xc2,rfl,hR,-,-,hW⟩
       replace HL:=Lib.hid ((HL.out.grown hW).add (f:=.rd xd2 T1.n T1.g) hR)
       clear hR hW
       have zl:=HL.out.lies 10 rfl
       have z0:=HL.out.cell 10 rfl
       have z1:=HL.out.cell 9 rfl
       have z2:=HL.out.cell 8 rfl
       have z3:=HL.out.cell 7 rfl
       have z4:=HL.out.cell 6 rfl
       have z5:=HL.out.cell 5 rfl
       have z6:=HL.out.cell 4 rfl
       have z7:=HL.out.cell 3 rfl
       go_wp2_with fail
       clear zl z0 z1 z2 z3 z4 z5 z6 z7
       replace HL:=Lib.hid ((HL.out.grown (Grown.alloc (Grown.refl U2) #[.int .i64 T1.R,.int .i64 T1.C,.int .i64 T1.F,.slice xd2 T1.n xc2] 24)).add (f:=.ten U2.heap.size (.int .i64 T1.R) (.int .i64 T1.C) (.int .i64 T1.F) (.slice xd2 T1.n xc2)) (ten_new U2 _ _ _ _ _))
       generalize U2.alloc _=Z2 at HL ⊢
       generalize U2.heap.size=o2 at HL ⊢
       refine (aback_any nn R1 C1 F1 R2 C2 F2 d1 d2 n1 c1 n2 c2 g1 g2 _ l1 l2 (HL.out.rd 13 rfl) (HL.out.rd 12 rfl)).mono ?_
       rw [HT2.out,HE2.out]
       rintro e U3 ⟨xd3,xc3,rfl,hO,hB,hn,hW⟩
       have HN2:=Lib.hid hn
       replace HL:=Lib.hid ((HL.out.grown hW).add (f:=.rd xd3 T2.n T2.g) (hO.reads hB))
       clear hO hB hn hW
       have zl:=HL.out.lies 12 rfl
       have z0:=HL.out.cell 12 rfl
       have z1:=HL.out.cell 11 rfl
       have z2:=HL.out.cell 10 rfl
       have z3:=HL.out.cell 9 rfl
       have z4:=HL.out.cell 8 rfl
       have z5:=HL.out.cell 7 rfl
       have z6:=HL.out.cell 6 rfl
       have z7:=HL.out.cell 5 rfl
       go_wp2_with fail
       clear zl z0 z1 z2 z3 z4 z5 z6 z7
       replace HL:=Lib.hid ((HL.out.grown (Grown.alloc (Grown.refl U3) #[.int .i64 T2.R,.int .i64 T2.C,.int .i64 T2.F,.slice xd3 T2.n xc3] 24)).add (f:=.ten U3.heap.size (.int .i64 T2.R) (.int .i64 T2.C) (.int .i64 T2.F) (.slice xd3 T2.n xc3)) (ten_new U3 _ _ _ _ _))
       generalize U3.alloc _=Z3 at HL ⊢
       generalize U3.heap.size=o3 at HL ⊢
       refine (rback_any nn R1 C1 F1 R2 C2 F2 d1 d2 n1 n2 c1 c2 g1 g2 _ l1 l2 (HL.out.rd 15 rfl) (HL.out.rd 14 rfl)).mono ?_
       rw [HT2.out,HE2.out]
       rintro e U4 ⟨xd4,xc4,rfl,hR,-,-,hW⟩
       replace HL:=Lib.hid ((HL.out.grown hW).add (f:=.rd xd4 T2.n T2.g) hR)
       clear hR hW
       replace HL:=Lib.hid ((HL.out.grown (Grown.alloc (Grown.refl U4) #[.int .i64 T2.R,.int .i64 T2.C,.int .i64 T2.F,.slice xd4 T2.n xc4] 24)).add (f:=.ten U4.heap.size (.int .i64 T2.R) (.int .i64 T2.C) (.int .i64 T2.F) (.slice xd4 T2.n xc4)) (ten_new U4 _ _ _ _ _))
       obtain ⟨p0,p1,p2,p3,p4,_,_,_,_⟩:=HL.out.ten 6 rfl
       obtain ⟨q0,q1,q2,q3,q4,_,_,_,_⟩:=HL.out.ten 4 rfl
       go_wp2_with fail
       clear p0 p1 p2 p3 p4 q0 q1 q2 q3 q4
       generalize U4.alloc _=Z4 at HL ⊢
       generalize U4.heap.size=o4 at HL ⊢
       refine (htensor_any T1.R T1.C T1.F xd1 xd2 T1.n xc1 xc2 T1.g _ (by have:=HN1.out;omega) (HL.out.rd 7 rfl) (HL.out.rd 5 rfl)).mono ?_
       rintro e Y1 ⟨rfl,hW⟩
       replace HL:=Lib.hid (HL.out.grown hW)
       clear hW
       obtain ⟨p0,p1,p2,p3,p4,_,_,_,_⟩:=HL.out.ten 2 rfl
       obtain ⟨q0,q1,q2,q3,q4,_,_,_,_⟩:=HL.out.ten 0 rfl
       go_wp2_with fail
       clear p0 p1 p2 p3 p4 q0 q1 q2 q3 q4
       refine (htensor_any T2.R T2.C T2.F xd3 xd4 T2.n xc3 xc4 T2.g _ (by have:=HN2.out;omega) (HL.out.rd 3 rfl) (HL.out.rd 1 rfl)).mono ?_
       rintro e Y2 ⟨rfl,hW⟩
       replace HL:=Lib.hid (HL.out.grown hW)
       clear hW
       go_wp2
       go_roundw
       case rel=>exact ⟨Q+1,by omega,by go_num,Lib.hid (fun f hf=>HL.out f (by (iterate 18 refine List.mem_cons_of_mem _ ?_);exact hf))⟩
       case measure=>simp [intOf];omega
      ·obtain rfl:Q=3:=by omega
       go_wp2
       go_roundw
       case rel=>exact ⟨I+1,by omega,by go_num,Lib.hid (fun f hf=>HL.out f (List.mem_cons_of_mem _ hf))⟩
       case measure=>simp [intOf];omega
  ·obtain rfl:I=2:=by omega
   have HG:=Lib.hid (HL.out.gr 7 rfl)
   go_wp2
   go_ret
   exact ⟨rfl,HG.out⟩

set_option maxRecDepth 100000 in
set_option maxHeartbeats 4000000 in
theorem atells_end (w:World) (aR aC aF bR bC bF kind k m n f x:Int) (ad bd ld:Option Addr) (an ca bn cb ln lc:Nat) (mild:Bool)
  (h:lightB aR aC an=false∨(lightB aR aC an=true∧lightB bR bC bn=false)∨(lightB aR aC an=true∧lightB bR bC bn=true∧(30:Int)<(ln:Int))):
  Calls Tryz.prog 3 #[.agg #[.int .i64 aR,.int .i64 aC,.int .i64 aF,.slice ad an ca],.agg #[.int .i64 bR,.int .i64 bC,.int .i64 bF,.slice bd bn cb],.int .i64 kind,.int .u8 k,.int .u8 m,.int .u8 n,.int .u8 f,.slice ld ln lc,.int .u32 x,.bool mild] w fun e w'=>e=.returned (.bool true)∧Grown w w':=by
 have HL:=Lib.hid ((((Lot.nil w).add (f:=.gr w) (Grown.refl w)).grown (Grown.alloc (Grown.alloc (Grown.refl w) #[.int .i64 aR,.int .i64 aC,.int .i64 aF,.slice ad an ca] 24) #[.int .i64 bR,.int .i64 bC,.int .i64 bF,.slice bd bn cb] 24)).add (f:=.ten w.heap.size (.int .i64 aR) (.int .i64 aC) (.int .i64 aF) (.slice ad an ca)) ((ten_new w _ _ _ _ _).grown (Grown.alloc (Grown.refl _) _ _))
  |>.add (f:=.ten (w.heap.size+1) (.int .i64 bR) (.int .i64 bC) (.int .i64 bF) (.slice bd bn cb)) (ten_new2 w _ _ _ _ _ _ _))
 rcases h with h1 | ⟨h1,h2⟩ | ⟨h1,h2,h3⟩
 ·have HA:=Lib.hid h1
  clear h1
  go_enter Tryz.func3,Tryz.ntmps3
  go_wp2_with fail
  generalize (w.alloc _).alloc _=W0 at HL ⊢
  refine (known15_any _).mono ?_
  rintro e W1 ⟨rfl,hW1⟩
  replace HL:=Lib.hid (HL.out.grown hW1)
  clear hW1
  obtain ⟨p0,p1,p2,p3,p4,_,_,_,_⟩:=HL.out.ten 1 rfl
  obtain ⟨q0,q1,q2,q3,q4,_,_,_,_⟩:=HL.out.ten 0 rfl
  go_wp2_with fail
  refine (hlight_any _ _ _ _ _ _ _).mono ?_
  rw [HA.out]
  rintro e W2 ⟨rfl,hW2⟩
  replace HL:=Lib.hid (HL.out.grown hW2)
  clear hW2 p0 p1 p2 p3 p4 q0 q1 q2 q3 q4
  have HG:=Lib.hid (HL.out.gr 2 rfl)
  go_wp2
  go_ret
  exact ⟨rfl,gr⟩
 ·have HB:=Lib.hid h2
  have HA:=Lib.hid h1
  clear h1 h2
  go_enter Tryz.func3,Tryz.ntmps3
  go_wp2_with fail
  generalize (w.alloc _).alloc _=W0 at HL ⊢
  refine (known15_any _).mono ?_
  rintro e W1 ⟨rfl,hW1⟩
  replace HL:=Lib.hid (HL.out.grown hW1)
  clear hW1
  obtain ⟨p0,p1,p2,p3,p4,_,_,_,_⟩:=HL.out.ten 1 rfl
  obtain ⟨q0,q1,q2,q3,q4,_,_,_,_⟩:=HL.out.ten 0 rfl
  go_wp2_with fail
  refine (hlight_any _ _ _ _ _ _ _).mono ?_
  rw [HA.out]
  rintro e W2 ⟨rfl,hW2⟩
  replace HL:=Lib.hid (HL.out.grown hW2)
  clear hW2 p0 p1 p2 p3 p4 q0 q1 q2 q3 q4
  obtain ⟨q0,q1,q2,q3,q4,_,_,_,_⟩:=HL.out.ten 0 rfl
  go_wp2_with fail
  refine (hlight_any _ _ _ _ _ _ _).mono ?_
  rw [HB.out]
  rintro e W3 ⟨rfl,hW3⟩
  replace HL:=Lib.hid (HL.out.grown hW3)
  clear hW3 q0 q1 q2 q3 q4
  have HG:=Lib.hid (HL.out.gr 2 rfl)
  go_wp2
  go_ret
  exact ⟨rfl,gr⟩
 ·have HB:=Lib.hid h2
  have HA:=Lib.hid h1
  clear h1 h2
  go_enter Tryz.func3,Tryz.ntmps3
  go_wp2_with fail
  generalize (w.alloc _).alloc _=W0 at HL ⊢
  refine (known15_any _).mono ?_
  rintro e W1 ⟨rfl,hW1⟩
  replace HL:=Lib.hid (HL.out.grown hW1)
  clear hW1
  obtain ⟨p0,p1,p2,p3,p4,_,_,_,_⟩:=HL.out.ten 1 rfl
  obtain ⟨q0,q1,q2,q3,q4,_,_,_,_⟩:=HL.out.ten 0 rfl
  go_wp2_with fail
  refine (hlight_any _ _ _ _ _ _ _).mono ?_
  rw [HA.out]
  rintro e W2 ⟨rfl,hW2⟩
  replace HL:=Lib.hid (HL.out.grown hW2)
  clear hW2 p0 p1 p2 p3 p4 q0 q1 q2 q3 q4
  obtain ⟨q0,q1,q2,q3,q4,_,_,_,_⟩:=HL.out.ten 0 rfl
  go_wp2_with fail
  refine (hlight_any _ _ _ _ _ _ _).mono ?_
  rw [HB.out]
  rintro e W3 ⟨rfl,hW3⟩
  replace HL:=Lib.hid (HL.out.grown hW3)
  clear hW3 q0 q1 q2 q3 q4
  have HG:=Lib.hid (HL.out.gr 2 rfl)
  go_wp2
  go_ret
  exact ⟨rfl,gr⟩

theorem atells_walk (W:World) (v0:Value) (T0:TenIn v0 W) (v1:Value) (T1:TenIn v1 W) (kind:Int) (wkind:(Lit.int .i64 kind).wf=true) (k:Int) (wk:(Lit.int .u8 k).wf=true) (m:Int) (wm:(Lit.int .u8 m).wf=true) (n:Int) (wn:(Lit.int .u8 n).wf=true) (f:Int) (wf:(Lit.int .u8 f).wf=true) (l:Value) (Ll:ListIn l W) (x:Int) (wx:(Lit.int .u32 x).wf=true) (mild:Bool):
  Calls Tryz.prog 3 #[v0,v1,.int .i64 kind,.int .u8 k,.int .u8 m,.int .u8 n,.int .u8 f,l,.int .u32 x,.bool mild] W fun e w'=>e=.returned (.bool true)∧Grown W w':=by
 obtain ⟨aR,aC,aF,ad,an,ca,ga,rfl,_,_,_,_,a2,a3,a4⟩:=T0
 obtain ⟨bR,bC,bF,bd,bn,cb,gb,rfl,_,_,_,_,b2,b3,b4⟩:=T1
 obtain ⟨ld,ln,lc,lg,rfl,_,_,_,l4⟩:=Ll
 obtain ⟨k0,k1⟩:=bounds_u8 wk
 obtain ⟨m0,m1⟩:=bounds_u8 wm
 obtain ⟨n0,n1⟩:=bounds_u8 wn
 obtain ⟨f0,f1⟩:=bounds_u8 wf
 obtain ⟨x0,x1⟩:=bounds_u32 wx
 cases ha:lightB aR aC an
 ·exact atells_end W aR aC aF bR bC bF kind k m n f x ad bd ld an ca bn cb ln lc mild (.inl ha)
 ·cases hb:lightB bR bC bn
  ·exact atells_end W aR aC aF bR bC bF kind k m n f x ad bd ld an ca bn cb ln lc mild (.inr (.inl ⟨ha,hb⟩))
  ·by_cases hl:ln≤30
   ·exact atells_go W aR aC aF bR bC bF kind k m n f x ad bd ld an ca bn cb ln lc ga gb lg mild ha hb hl a4 b4 l4 ⟨a2,a3⟩ ⟨b2,b3⟩ k0 k1 m0 m1 n0 n1 f0 f1 x0 x1
   ·exact atells_end W aR aC aF bR bC bF kind k m n f x ad bd ld an ca bn cb ln lc mild (.inr (.inr ⟨ha,hb,by omega⟩))
end Go.Proofs.YtpjpmmiepfoiaaaGreat
