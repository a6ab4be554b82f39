/- The walk of ActDrops. -/
import Derived.Test.YtpjpmmiepfoiaaaGreatAcKnown
import Derived.Test.YtpjpmmiepfoiaaaGreatAcMath
import Derived.Test.YtpjpmmiepfoiaaaGreatRFun
import Derived.Test.YtpjpmmiepfoiaaaGreatRPhi
import Derived.BigRegion
import Derived.Deep.QuietTactic
import Derived.BigQuiet
namespace Go.Proofs.YtpjpmmiepfoiaaaGreat
open Go Go.RowKit
set_option linter.unusedVariables false
set_option linter.unusedSimpArgs false

theorem fst_nat (m:Int) (m0:0≤m):∃ x:Nat,m%6=(x:Int)∧m.tmod 6=(x:Int)∧x≤5:=
 ⟨(m%6).toNat,by omega,by rw [Int.tmod_eq_emod_of_nonneg m0];omega,by omega⟩

set_option maxRecDepth 100000 in
set_option maxHeartbeats 8000000 in
theorem adrops_walk (w:World) (m n drop seed stream:Int) (hm:0≤m∧m≤255) (hn:0≤n∧n≤255) (hd:0≤drop∧drop≤4294967295) (hs:0≤seed∧seed≤18446744073709551615) (ht:0≤stream∧stream≤4294967295):
  Calls Tryz.prog 7 #[.int .u8 m,.int .u8 n,.int .u32 drop,.int .u64 seed,.int .u32 stream] w fun e w'=>e=.returned (.bool true)∧Grown w w':=by
 obtain ⟨m0,m1⟩:=hm
 obtain ⟨n0,n1⟩:=hn
 obtain ⟨d0,d1⟩:=hd
 obtain ⟨s0,s1⟩:=hs
 obtain ⟨t0,t1⟩:=ht
 obtain ⟨x,hx,hx2,lx⟩:=fst_nat m m0
 obtain ⟨y,hy,hy2,ly⟩:=fst_nat n n0
 obtain ⟨M,hM⟩:∃ M,x*y=M:=⟨_,rfl⟩
 have hxy:(x:Int)*(y:Int)=(M:Int):=by rw [←Int.natCast_mul,hM]
 have lM:M≤25:=by have:=Nat.mul_le_mul lx ly;omega
 have hwM:IntKind.i64.wrap (M:Int)=M:=by rw [IntKind.wrap_i64];omega
 obtain ⟨D,hD⟩:∃ D,drop / 2=D:=⟨_,rfl⟩
 have hD0:0≤D:=by omega
 have hD1:D≤2147483647:=by omega
 obtain ⟨k0,k1⟩:=kep_one D hD0 (by omega)
 have k9:=(kepV_bd D).2
 have HM1:=Lib.hid (mas_le x y (by omega) (by omega) D seed stream)
 have HM2:=Lib.hid (mas_le x y (by omega) (by omega) 0 seed stream)
 rw [hM] at HM1 HM2
 have HA:Hid (∀ i,masV D seed stream i=if phWord seed stream i<D then 0 else kepV D):=Lib.hid fun i=>rfl
 have HB:Hid (∀ i:Nat,i<100→masV 0 seed stream i=1065353216):=Lib.hid fun i hi=>by
  have:=phWord_bd seed stream i s0 s1 t0 t1 (by omega) (by omega)
  unfold masV
  rw [if_neg (by omega),kep_none]
 generalize masV D seed stream=GA at HA HM1
 generalize masV 0 seed stream=GB at HB HM2
 obtain ⟨Q,hQ⟩:∃ Q,kepV D=Q:=⟨_,rfl⟩
 rw [hQ] at k0 k1 k9 HA
 have K1:=Lib.hid k1
 have k2:(Q==0)=false:=by simp only [beq_eq_false_iff_ne,ne_eq];omega
 have kab:lesB 2 0 1065353216=true:=by decide
 have KAB:=Lib.hid kab
 clear k1 hQ kab hM
 go_enter Tryz.func7,Tryz.ntmps7
 go_wp2_with fail
 refine (known15_any _).mono ?_
 rintro e W1 ⟨rfl,hW1⟩
 have HL:=Lib.hid (((Lot.nil W1).add (f:=.gr w) hW1))
 clear hW1
 go_wp2_with fail
 refine (amasks_any x y D seed stream _ hD0 (by omega) s0 s1 t0 t1).mono ?_
 rw [HM1.out]
 rintro e W2 ⟨ad,ac,rfl,hR,-,hW⟩
 replace HL:=Lib.hid ((HL.out.grown hW).add (f:=.rd ad M GA) hR)
 clear hW hR
 go_wp2_with fail
 refine (amasks_any x y 0 seed stream _ (by decide) (by decide) s0 s1 t0 t1).mono ?_
 rw [HM2.out]
 rintro e W3 ⟨bd,bc,rfl,hR,-,hW⟩
 replace HL:=Lib.hid ((HL.out.grown hW).add (f:=.rd bd M GB) hR)
 clear hW hR
 replace HL:=Lib.hid (((HL.out.grown (Grown.alloc (Grown.alloc (Grown.refl W3) #[.int .i64 x,.int .i64 y,.int .i64 2,.slice ad M ac] 24) #[.int .i64 x,.int .i64 y,.int .i64 2,.slice bd M bc] 24)).add (f:=.ten W3.heap.size (.int .i64 x) (.int .i64 y) (.int .i64 2) (.slice ad M ac)) ((ten_new W3 _ _ _ _ _).grown (Grown.alloc (Grown.refl _) _ _))).add (f:=.ten (W3.heap.size+1) (.int .i64 x) (.int .i64 y) (.int .i64 2) (.slice bd M bc)) (ten_new2 W3 _ _ _ _ _ _ _))
 go_wp2_with fail
 generalize (W3.alloc _).alloc _=W4 at HL ⊢
 generalize W3.heap.size=o1 at HL ⊢
 go_loopw [15] (fun i wr=>∃ k:Nat,k≤M∧i=.int .i64 k∧Hid (Lot [.ten (o1+1) (.int .i64 x) (.int .i64 y) (.int .i64 2) (.slice bd M bc),.ten o1 (.int .i64 x) (.int .i64 y) (.int .i64 2) (.slice ad M ac),.rd bd M GB,.rd ad M GA,.gr w] wr)) (fun i _=>M - (intOf i).toNat)
 case atStart=>exact ⟨0,Nat.zero_le _,rfl,HL⟩
 case round=>
  rename World=>wr
  clear HL
  obtain ⟨k,hk,rfl,HL⟩:=hrel
  by_cases hlt:k<M
  ·obtain ⟨b,off,rfl,-,-⟩:∃ b off,ad=some ⟨b,off,none⟩∧b<wr.heap.size∧∀ i,i<M→wr.cell? ⟨b,off+i,none⟩=some (.int .u32 (GA i)):=by
    rcases (HL.out.rd 3 rfl).2 with h | h
    ·omega
    ·exact h
   obtain ⟨b',off',rfl,-,-⟩:∃ b off,bd=some ⟨b,off,none⟩∧b<wr.heap.size∧∀ i,i<M→wr.cell? ⟨b,off+i,none⟩=some (.int .u32 (GB i)):=by
    rcases (HL.out.rd 2 rfl).2 with h | h
    ·omega
    ·exact h
   have hw64:IntKind.u64.wrap (k:Int)=k:=by rw [IntKind.wrap_u64];omega
   have b1:b<wr.heap.size∧wr.cell? ⟨b,off+k,none⟩=some (.int .u32 (GA k)):=read_at (HL.out.rd 3 rfl) hlt
   have b2:b'<wr.heap.size∧wr.cell? ⟨b',off'+k,none⟩=some (.int .u32 (GB k)):=read_at (HL.out.rd 2 rfl) hlt
   obtain ⟨Wd,hWd⟩:∃ Wd,phWord seed stream k=Wd:=⟨_,rfl⟩
   have HW:=Lib.hid hWd
   have ha:GA k=if Wd<D then 0 else Q:=by rw [HA.out,hWd]
   have hb:GB k=1065353216:=HB.out k (by omega)
   rw [hb] at b2
   clear hb hWd
   obtain ⟨l1,y1⟩:=b1
   obtain ⟨l2,y2⟩:=b2
   replace HL:=Lib.hid ((HL.out.add (f:=.cell b' (off'+k) (.int .u32 1065353216)) ⟨l2,y2⟩).add (f:=.cell b (off+k) (.int .u32 (GA k))) ⟨l1,y1⟩)
   by_cases hd:Wd<D
   ·rw [if_pos hd] at ha
    have hdd:decide (Wd<D)=true:=decide_eq_true hd
    rw [ha] at HL y1
    clear ha y1 y2 l1 l2
    obtain ⟨p0,p1,p2,p3,p4,_,_,_,_⟩:=HL.out.ten 3 rfl
    obtain ⟨q0,q1,q2,q3,q4,_,_,_,_⟩:=HL.out.ten 2 rfl
    have y1:=HL.out.cell 0 rfl
    have y2:=HL.out.cell 1 rfl
    have l1:=HL.out.lies 0 rfl
    have l2:=HL.out.lies 1 rfl
    have L1:∀ d:Later wr,d.w.cell? ⟨o1,3,none⟩=some (.slice (some ⟨b,off,none⟩) M ac):=fun d=>grown_cell d.g p4 p0
    have L2:∀ d:Later wr,d.w.cell? ⟨o1+1,3,none⟩=some (.slice (some ⟨b',off',none⟩) M bc):=fun d=>grown_cell d.g q4 q0
    have L3:∀ d:Later wr,d.w.cell? ⟨b,off+k,none⟩=some (.int .u32 0):=fun d=>grown_cell d.g y1 l1
    have L4:∀ d:Later wr,d.w.cell? ⟨b',off'+k,none⟩=some (.int .u32 1065353216):=fun d=>grown_cell d.g y2 l2
    go_wp2_with fail
    clear p0 p1 p2 p3 p4 q0 q1 q2 q3 q4 y1 y2 l1 l2
    refine region_later wr (by kernel_rfl) (by kernel_rfl) (Grown.refl _) ?_
    repeat (go_big_quiet_step ((first
     | (go_at_call 28;exact later_call (rword_any seed stream k _ s0 s1 t0 t1 (by omega) (by omega)) (fun e w q=>⟨q.1.trans (congrArg (fun v=>Ending.returned (.int .u32 v)) HW.out),q.2⟩))
     | (go_at_call 25;exact later_call (nabo_any 1065353216 0 _ (by decide) (by decide) (by omega) (by omega)) (fun e w q=>⟨q.1.trans (congrArg (fun v=>Ending.returned (.bool v)) KAB.out),q.2⟩)))))
    refine wpQuiet_nil ?_
    rintro ⟨W8,hW8⟩
    replace HL:=Lib.hid (HL.out.grown hW8)
    go_wp2
    go_roundw
    case rel=>exact ⟨k+1,by omega,by go_num,Lib.hid (fun f hf=>HL.out.grown gr f (List.mem_cons_of_mem _ (List.mem_cons_of_mem _ hf)))⟩
    case measure=>simp [intOf];omega
   ·rw [if_neg hd] at ha
    have hdd:decide (Wd<D)=false:=decide_eq_false hd
    have hqq:(Q != 0)=true:=by rw [bne,k2];rfl
    rw [ha] at HL y1
    clear ha y1 y2 l1 l2
    obtain ⟨p0,p1,p2,p3,p4,_,_,_,_⟩:=HL.out.ten 3 rfl
    obtain ⟨q0,q1,q2,q3,q4,_,_,_,_⟩:=HL.out.ten 2 rfl
    have y1:=HL.out.cell 0 rfl
    have y2:=HL.out.cell 1 rfl
    have l1:=HL.out.lies 0 rfl
    have l2:=HL.out.lies 1 rfl
    have L1:∀ d:Later wr,d.w.cell? ⟨o1,3,none⟩=some (.slice (some ⟨b,off,none⟩) M ac):=fun d=>grown_cell d.g p4 p0
    have L2:∀ d:Later wr,d.w.cell? ⟨o1+1,3,none⟩=some (.slice (some ⟨b',off',none⟩) M bc):=fun d=>grown_cell d.g q4 q0
    have L3:∀ d:Later wr,d.w.cell? ⟨b,off+k,none⟩=some (.int .u32 Q):=fun d=>grown_cell d.g y1 l1
    have L4:∀ d:Later wr,d.w.cell? ⟨b',off'+k,none⟩=some (.int .u32 1065353216):=fun d=>grown_cell d.g y2 l2
    go_wp2_with fail
    clear p0 p1 p2 p3 p4 q0 q1 q2 q3 q4 y1 y2 l1 l2
    refine region_later wr (by kernel_rfl) (by kernel_rfl) (Grown.refl _) ?_
    repeat (go_big_quiet_step ((first
     | (go_at_call 28;exact later_call (rword_any seed stream k _ s0 s1 t0 t1 (by omega) (by omega)) (fun e w q=>⟨q.1.trans (congrArg (fun v=>Ending.returned (.int .u32 v)) HW.out),q.2⟩))
     | (go_at_call 25;exact later_call (nabo_any 1065353216 Q _ (by decide) (by decide) (by omega) (by omega)) (fun e w q=>⟨q.1.trans (congrArg (fun v=>Ending.returned (.bool v)) K1.out),q.2⟩)))))
    refine wpQuiet_nil ?_
    rintro ⟨W8,hW8⟩
    replace HL:=Lib.hid (HL.out.grown hW8)
    go_wp2
    go_roundw
    case rel=>exact ⟨k+1,by omega,by go_num,Lib.hid (fun f hf=>HL.out.grown gr f (List.mem_cons_of_mem _ (List.mem_cons_of_mem _ hf)))⟩
    case measure=>simp [intOf];omega
  ·obtain rfl:k=M:=by omega
   have HG:=Lib.hid (HL.out.gr 4 rfl)
   go_wp2
   go_ret
   exact ⟨rfl,HG.out⟩

theorem adrops_all (a0:Int) (a1:Int) (a2:Int) (a3:Int) (a4:Int) (w0:(Lit.int .u8 a0).wf=true) (w1:(Lit.int .u8 a1).wf=true) (w2:(Lit.int .u32 a2).wf=true) (w3:(Lit.int .u64 a3).wf=true) (w4:(Lit.int .u32 a4).wf=true) (w:World):
  Calls Tryz.prog 7 #[.int .u8 a0,.int .u8 a1,.int .u32 a2,.int .u64 a3,.int .u32 a4] w fun e w'=>e=.returned (.bool true)∧Grown w w':=
 adrops_walk w a0 a1 a2 a3 a4 (bounds_u8 w0) (bounds_u8 w1) (bounds_u32 w2) (bounds_u64 w3) (bounds_u32 w4)
end Go.Proofs.YtpjpmmiepfoiaaaGreat
