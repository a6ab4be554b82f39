/- The contracts of the landed package act: Forward, Back, their closures. (Written by gen59.py.) -/
import Derived.Test.YtpjpmmiepfoiaaaGreatAct
import Derived.Deep.RegionHeld3
import Derived.Laws.EntriesVeiled
namespace Go.Proofs.YtpjpmmiepfoiaaaGreat
open Go Go.RowKit
set_option linter.unusedVariables false
set_option linter.unusedSimpArgs false

set_option maxRecDepth 100000 in
theorem aclosF (K:Nat) (q:Int→Int) (b n:Nat) (w:World) (hb:BoxAt b (.func (.func K) #[] #[]) w) (hK:Enters K) (hV:Vals K q) (hq:∀ x,0≤x→x≤4294967295→0≤q x∧q x≤4294967295):
  TurnsAF (.pointer (some ⟨b,0,none⟩)) n (fun _ v=>q v) w:=by
 intro i v W hi h0 h1 hG
 have y:=(hb.grown hG).cell
 have hl:=(hb.grown hG).lies
 obtain ⟨q0,q1⟩:=hq v h0 h1
 have HC:=Lib.hid (fun W'=>hV v W' h0 h1)
 dsimp only
 obtain ⟨u,hu⟩:∃ u,q v=u:=⟨_,rfl⟩
 rw [hu] at q0 q1 ⊢
 have HU:=Lib.hid hu
 clear hb hV hq hG hu
 go_enter Tryz.func42,Tryz.ntmps42
 go_wp2_with fail
 rw [hK]
 show Calls Tryz.prog K _ _ _
 refine (HC.out _).mono ?_
 rw [HU.out]
 rintro e W1 ⟨rfl,hW1⟩
 have HG:=Lib.hid hW1
 clear hW1
 go_wp2
 go_ret
 exact ⟨rfl,q0,q1,HG.out⟩

set_option maxRecDepth 100000 in
set_option maxHeartbeats 2000000 in
theorem aclosB0 (R C F:Int) (ad:Option Addr) (n c:Nat) (g:Nat→Int) (b bz:Nat) (w:World) (hn:n≤16777216) (hr:Reads ad n g w) (hb:BoxAt b (.func (.func 63) #[] #[]) w) (hz:TenAt bz (.int .i64 R) (.int .i64 C) (.int .i64 F) (.slice ad n c) w):
  TurnsAB (.pointer (some ⟨b,0,none⟩)) (.pointer (some ⟨bz,0,none⟩)) n (fun i v=>mulV v (sloA 0 (widV F g i))) w:=by
 intro i v W hi h0 h1 hG
 obtain ⟨bs,off,rfl,hl0,hc0⟩:∃ b off,ad=some ⟨b,off,none⟩∧b<w.heap.size∧∀ i,i<n→w.cell? ⟨b,off+i,none⟩=some (.int .u32 (g i)):=by
  rcases hr.2 with h | h
  ·omega
  ·exact h
 have y:=grown_cell hG (hc0 i hi) hl0
 have hl:=Nat.lt_of_lt_of_le hl0 hG.2.2
 obtain ⟨x0,x1⟩:=hr.1 i hi
 obtain ⟨u0,u1⟩:=wid_bd F g i
 have HU:=Lib.hid (show conV F 2 0 (g i)=widV F g i from rfl)
 have y1:=(hb.grown hG).cell
 have hl1:=(hb.grown hG).lies
 obtain ⟨p0,p1,p2,p3,p4,-,-,-,-⟩:=hz.grown hG
 have HC:=Lib.hid (fun W'=>slo_vals 0 (widV F g i) W' u0 u1)
 obtain ⟨s0,s1⟩:=sloA_bd 0 (widV F g i)
 obtain ⟨m0,m1⟩:=mulV_bd v (sloA 0 (widV F g i))
 dsimp only
 obtain ⟨x,hx⟩:∃ x,g i=x:=⟨_,rfl⟩
 rw [hx] at y x0 x1 HU
 obtain ⟨u,hu⟩:∃ u,widV F g i=u:=⟨_,rfl⟩
 rw [hu] at HU HC s0 s1 m0 m1 u0 u1 ⊢
 obtain ⟨s,hs⟩:∃ s,sloA 0 u=s:=⟨_,rfl⟩
 rw [hs] at HC s0 s1 m0 m1 ⊢
 obtain ⟨m,hm⟩:∃ m,mulV v s=m:=⟨_,rfl⟩
 rw [hm] at m0 m1 ⊢
 have HM:=Lib.hid hm
 have HG:=Lib.hid (Grown.refl W)
 replace HC:Hid (∀ W',Calls Tryz.prog 63 #[.int .u32 u] W' fun e W''=>e=.returned (.int .u32 s)∧Grown W' W''):=HC
 clear hr hb hz hG hc0 hx hu hs hm
 go_enter Tryz.func46,Tryz.ntmps46
 go_wp2_with fail
 go_region_held3 (fun w'=>w'.cell? ⟨bz,2,none⟩=some (.int .i64 F)∧w'.cell? ⟨bz,3,none⟩=some (.slice (some ⟨bs,off,none⟩) n c)∧w'.cell? ⟨b,0,none⟩=some (.func (.func 63) #[] #[])∧w'.cell? ⟨bs,off+i,none⟩=some (.int .u32 x)) (go_keep) (first
  | (go_at_call 48;(with_reducible refine (cwiden_any F x _ x0 x1).mono ?_);rintro e W1 ⟨he,hW⟩;rw [HU.out] at he;subst he;replace HG:=Lib.hid (show Grown W W1 from grown_trans gr hW);replace y:=grown_cell hW y hl;replace y1:=grown_cell hW y1 hl1;replace p3:=grown_cell hW p3 p0;replace p4:=grown_cell hW p4 p0;replace p0:=Nat.lt_of_lt_of_le p0 hW.2.2;replace hl:=Nat.lt_of_lt_of_le hl hW.2.2;replace hl1:=Nat.lt_of_lt_of_le hl1 hW.2.2;clear hW)
  | (go_at_call 63;(with_reducible refine (HC.out _).mono ?_);rintro e W2 ⟨rfl,hW⟩;replace HG:=Lib.hid (show Grown W W2 from grown_trans gr hW);replace y:=grown_cell hW y hl;replace y1:=grown_cell hW y1 hl1;replace p3:=grown_cell hW p3 p0;replace p4:=grown_cell hW p4 p0;replace p0:=Nat.lt_of_lt_of_le p0 hW.2.2;replace hl:=Nat.lt_of_lt_of_le hl hW.2.2;replace hl1:=Nat.lt_of_lt_of_le hl1 hW.2.2;clear hW)
  | (go_at_call 47;(with_reducible refine (amul_any v s _ h0 h1 s0 s1).mono ?_);rintro e W3 ⟨he,-,-,hW⟩;rw [HM.out] at he;subst he;replace HG:=Lib.hid (show Grown W W3 from grown_trans gr hW);replace y:=grown_cell hW y hl;replace y1:=grown_cell hW y1 hl1;replace p3:=grown_cell hW p3 p0;replace p4:=grown_cell hW p4 p0;replace p0:=Nat.lt_of_lt_of_le p0 hW.2.2;replace hl:=Nat.lt_of_lt_of_le hl hW.2.2;replace hl1:=Nat.lt_of_lt_of_le hl1 hW.2.2;clear hW))
 go_wp2
 go_ret
 exact ⟨rfl,m0,m1,gr⟩

set_option maxRecDepth 100000 in
set_option maxHeartbeats 2000000 in
theorem aclosB1 (R C F:Int) (ad:Option Addr) (n c:Nat) (g:Nat→Int) (b bz:Nat) (w:World) (hn:n≤16777216) (hr:Reads ad n g w) (hb:BoxAt b (.func (.func 65) #[] #[]) w) (hz:TenAt bz (.int .i64 R) (.int .i64 C) (.int .i64 F) (.slice ad n c) w):
  TurnsAB (.pointer (some ⟨b,0,none⟩)) (.pointer (some ⟨bz,0,none⟩)) n (fun i v=>mulV v (sloA 1 (widV F g i))) w:=by
 intro i v W hi h0 h1 hG
 obtain ⟨bs,off,rfl,hl0,hc0⟩:∃ b off,ad=some ⟨b,off,none⟩∧b<w.heap.size∧∀ i,i<n→w.cell? ⟨b,off+i,none⟩=some (.int .u32 (g i)):=by
  rcases hr.2 with h | h
  ·omega
  ·exact h
 have y:=grown_cell hG (hc0 i hi) hl0
 have hl:=Nat.lt_of_lt_of_le hl0 hG.2.2
 obtain ⟨x0,x1⟩:=hr.1 i hi
 obtain ⟨u0,u1⟩:=wid_bd F g i
 have HU:=Lib.hid (show conV F 2 0 (g i)=widV F g i from rfl)
 have y1:=(hb.grown hG).cell
 have hl1:=(hb.grown hG).lies
 obtain ⟨p0,p1,p2,p3,p4,-,-,-,-⟩:=hz.grown hG
 have HC:=Lib.hid (fun W'=>slo_vals 1 (widV F g i) W' u0 u1)
 obtain ⟨s0,s1⟩:=sloA_bd 1 (widV F g i)
 obtain ⟨m0,m1⟩:=mulV_bd v (sloA 1 (widV F g i))
 dsimp only
 obtain ⟨x,hx⟩:∃ x,g i=x:=⟨_,rfl⟩
 rw [hx] at y x0 x1 HU
 obtain ⟨u,hu⟩:∃ u,widV F g i=u:=⟨_,rfl⟩
 rw [hu] at HU HC s0 s1 m0 m1 u0 u1 ⊢
 obtain ⟨s,hs⟩:∃ s,sloA 1 u=s:=⟨_,rfl⟩
 rw [hs] at HC s0 s1 m0 m1 ⊢
 obtain ⟨m,hm⟩:∃ m,mulV v s=m:=⟨_,rfl⟩
 rw [hm] at m0 m1 ⊢
 have HM:=Lib.hid hm
 have HG:=Lib.hid (Grown.refl W)
 replace HC:Hid (∀ W',Calls Tryz.prog 65 #[.int .u32 u] W' fun e W''=>e=.returned (.int .u32 s)∧Grown W' W''):=HC
 clear hr hb hz hG hc0 hx hu hs hm
 go_enter Tryz.func46,Tryz.ntmps46
 go_wp2_with fail
 go_region_held3 (fun w'=>w'.cell? ⟨bz,2,none⟩=some (.int .i64 F)∧w'.cell? ⟨bz,3,none⟩=some (.slice (some ⟨bs,off,none⟩) n c)∧w'.cell? ⟨b,0,none⟩=some (.func (.func 65) #[] #[])∧w'.cell? ⟨bs,off+i,none⟩=some (.int .u32 x)) (go_keep) (first
  | (go_at_call 48;(with_reducible refine (cwiden_any F x _ x0 x1).mono ?_);rintro e W1 ⟨he,hW⟩;rw [HU.out] at he;subst he;replace HG:=Lib.hid (show Grown W W1 from grown_trans gr hW);replace y:=grown_cell hW y hl;replace y1:=grown_cell hW y1 hl1;replace p3:=grown_cell hW p3 p0;replace p4:=grown_cell hW p4 p0;replace p0:=Nat.lt_of_lt_of_le p0 hW.2.2;replace hl:=Nat.lt_of_lt_of_le hl hW.2.2;replace hl1:=Nat.lt_of_lt_of_le hl1 hW.2.2;clear hW)
  | (go_at_call 65;(with_reducible refine (HC.out _).mono ?_);rintro e W2 ⟨rfl,hW⟩;replace HG:=Lib.hid (show Grown W W2 from grown_trans gr hW);replace y:=grown_cell hW y hl;replace y1:=grown_cell hW y1 hl1;replace p3:=grown_cell hW p3 p0;replace p4:=grown_cell hW p4 p0;replace p0:=Nat.lt_of_lt_of_le p0 hW.2.2;replace hl:=Nat.lt_of_lt_of_le hl hW.2.2;replace hl1:=Nat.lt_of_lt_of_le hl1 hW.2.2;clear hW)
  | (go_at_call 47;(with_reducible refine (amul_any v s _ h0 h1 s0 s1).mono ?_);rintro e W3 ⟨he,-,-,hW⟩;rw [HM.out] at he;subst he;replace HG:=Lib.hid (show Grown W W3 from grown_trans gr hW);replace y:=grown_cell hW y hl;replace y1:=grown_cell hW y1 hl1;replace p3:=grown_cell hW p3 p0;replace p4:=grown_cell hW p4 p0;replace p0:=Nat.lt_of_lt_of_le p0 hW.2.2;replace hl:=Nat.lt_of_lt_of_le hl hW.2.2;replace hl1:=Nat.lt_of_lt_of_le hl1 hW.2.2;clear hW))
 go_wp2
 go_ret
 exact ⟨rfl,m0,m1,gr⟩

set_option maxRecDepth 100000 in
set_option maxHeartbeats 2000000 in
theorem aclosB2 (R C F:Int) (ad:Option Addr) (n c:Nat) (g:Nat→Int) (b bz:Nat) (w:World) (hn:n≤16777216) (hr:Reads ad n g w) (hb:BoxAt b (.func (.func 67) #[] #[]) w) (hz:TenAt bz (.int .i64 R) (.int .i64 C) (.int .i64 F) (.slice ad n c) w):
  TurnsAB (.pointer (some ⟨b,0,none⟩)) (.pointer (some ⟨bz,0,none⟩)) n (fun i v=>mulV v (sloA 2 (widV F g i))) w:=by
 intro i v W hi h0 h1 hG
 obtain ⟨bs,off,rfl,hl0,hc0⟩:∃ b off,ad=some ⟨b,off,none⟩∧b<w.heap.size∧∀ i,i<n→w.cell? ⟨b,off+i,none⟩=some (.int .u32 (g i)):=by
  rcases hr.2 with h | h
  ·omega
  ·exact h
 have y:=grown_cell hG (hc0 i hi) hl0
 have hl:=Nat.lt_of_lt_of_le hl0 hG.2.2
 obtain ⟨x0,x1⟩:=hr.1 i hi
 obtain ⟨u0,u1⟩:=wid_bd F g i
 have HU:=Lib.hid (show conV F 2 0 (g i)=widV F g i from rfl)
 have y1:=(hb.grown hG).cell
 have hl1:=(hb.grown hG).lies
 obtain ⟨p0,p1,p2,p3,p4,-,-,-,-⟩:=hz.grown hG
 have HC:=Lib.hid (fun W'=>slo_vals 2 (widV F g i) W' u0 u1)
 obtain ⟨s0,s1⟩:=sloA_bd 2 (widV F g i)
 obtain ⟨m0,m1⟩:=mulV_bd v (sloA 2 (widV F g i))
 dsimp only
 obtain ⟨x,hx⟩:∃ x,g i=x:=⟨_,rfl⟩
 rw [hx] at y x0 x1 HU
 obtain ⟨u,hu⟩:∃ u,widV F g i=u:=⟨_,rfl⟩
 rw [hu] at HU HC s0 s1 m0 m1 u0 u1 ⊢
 obtain ⟨s,hs⟩:∃ s,sloA 2 u=s:=⟨_,rfl⟩
 rw [hs] at HC s0 s1 m0 m1 ⊢
 obtain ⟨m,hm⟩:∃ m,mulV v s=m:=⟨_,rfl⟩
 rw [hm] at m0 m1 ⊢
 have HM:=Lib.hid hm
 have HG:=Lib.hid (Grown.refl W)
 replace HC:Hid (∀ W',Calls Tryz.prog 67 #[.int .u32 u] W' fun e W''=>e=.returned (.int .u32 s)∧Grown W' W''):=HC
 clear hr hb hz hG hc0 hx hu hs hm
 go_enter Tryz.func46,Tryz.ntmps46
 go_wp2_with fail
 go_region_held3 (fun w'=>w'.cell? ⟨bz,2,none⟩=some (.int .i64 F)∧w'.cell? ⟨bz,3,none⟩=some (.slice (some ⟨bs,off,none⟩) n c)∧w'.cell? ⟨b,0,none⟩=some (.func (.func 67) #[] #[])∧w'.cell? ⟨bs,off+i,none⟩=some (.int .u32 x)) (go_keep) (first
  | (go_at_call 48;(with_reducible refine (cwiden_any F x _ x0 x1).mono ?_);rintro e W1 ⟨he,hW⟩;rw [HU.out] at he;subst he;replace HG:=Lib.hid (show Grown W W1 from grown_trans gr hW);replace y:=grown_cell hW y hl;replace y1:=grown_cell hW y1 hl1;replace p3:=grown_cell hW p3 p0;replace p4:=grown_cell hW p4 p0;replace p0:=Nat.lt_of_lt_of_le p0 hW.2.2;replace hl:=Nat.lt_of_lt_of_le hl hW.2.2;replace hl1:=Nat.lt_of_lt_of_le hl1 hW.2.2;clear hW)
  | (go_at_call 67;(with_reducible refine (HC.out _).mono ?_);rintro e W2 ⟨rfl,hW⟩;replace HG:=Lib.hid (show Grown W W2 from grown_trans gr hW);replace y:=grown_cell hW y hl;replace y1:=grown_cell hW y1 hl1;replace p3:=grown_cell hW p3 p0;replace p4:=grown_cell hW p4 p0;replace p0:=Nat.lt_of_lt_of_le p0 hW.2.2;replace hl:=Nat.lt_of_lt_of_le hl hW.2.2;replace hl1:=Nat.lt_of_lt_of_le hl1 hW.2.2;clear hW)
  | (go_at_call 47;(with_reducible refine (amul_any v s _ h0 h1 s0 s1).mono ?_);rintro e W3 ⟨he,-,-,hW⟩;rw [HM.out] at he;subst he;replace HG:=Lib.hid (show Grown W W3 from grown_trans gr hW);replace y:=grown_cell hW y hl;replace y1:=grown_cell hW y1 hl1;replace p3:=grown_cell hW p3 p0;replace p4:=grown_cell hW p4 p0;replace p0:=Nat.lt_of_lt_of_le p0 hW.2.2;replace hl:=Nat.lt_of_lt_of_le hl hW.2.2;replace hl1:=Nat.lt_of_lt_of_le hl1 hW.2.2;clear hW))
 go_wp2
 go_ret
 exact ⟨rfl,m0,m1,gr⟩

set_option maxRecDepth 100000 in
set_option maxHeartbeats 2000000 in
theorem aclosB3 (R C F:Int) (ad:Option Addr) (n c:Nat) (g:Nat→Int) (b bz:Nat) (w:World) (hn:n≤16777216) (hr:Reads ad n g w) (hb:BoxAt b (.func (.func 69) #[] #[]) w) (hz:TenAt bz (.int .i64 R) (.int .i64 C) (.int .i64 F) (.slice ad n c) w):
  TurnsAB (.pointer (some ⟨b,0,none⟩)) (.pointer (some ⟨bz,0,none⟩)) n (fun i v=>mulV v (sloA 3 (widV F g i))) w:=by
 intro i v W hi h0 h1 hG
 obtain ⟨bs,off,rfl,hl0,hc0⟩:∃ b off,ad=some ⟨b,off,none⟩∧b<w.heap.size∧∀ i,i<n→w.cell? ⟨b,off+i,none⟩=some (.int .u32 (g i)):=by
  rcases hr.2 with h | h
  ·omega
  ·exact h
 have y:=grown_cell hG (hc0 i hi) hl0
 have hl:=Nat.lt_of_lt_of_le hl0 hG.2.2
 obtain ⟨x0,x1⟩:=hr.1 i hi
 obtain ⟨u0,u1⟩:=wid_bd F g i
 have HU:=Lib.hid (show conV F 2 0 (g i)=widV F g i from rfl)
 have y1:=(hb.grown hG).cell
 have hl1:=(hb.grown hG).lies
 obtain ⟨p0,p1,p2,p3,p4,-,-,-,-⟩:=hz.grown hG
 have HC:=Lib.hid (fun W'=>slo_vals 3 (widV F g i) W' u0 u1)
 obtain ⟨s0,s1⟩:=sloA_bd 3 (widV F g i)
 obtain ⟨m0,m1⟩:=mulV_bd v (sloA 3 (widV F g i))
 dsimp only
 obtain ⟨x,hx⟩:∃ x,g i=x:=⟨_,rfl⟩
 rw [hx] at y x0 x1 HU
 obtain ⟨u,hu⟩:∃ u,widV F g i=u:=⟨_,rfl⟩
 rw [hu] at HU HC s0 s1 m0 m1 u0 u1 ⊢
 obtain ⟨s,hs⟩:∃ s,sloA 3 u=s:=⟨_,rfl⟩
 rw [hs] at HC s0 s1 m0 m1 ⊢
 obtain ⟨m,hm⟩:∃ m,mulV v s=m:=⟨_,rfl⟩
 rw [hm] at m0 m1 ⊢
 have HM:=Lib.hid hm
 have HG:=Lib.hid (Grown.refl W)
 replace HC:Hid (∀ W',Calls Tryz.prog 69 #[.int .u32 u] W' fun e W''=>e=.returned (.int .u32 s)∧Grown W' W''):=HC
 clear hr hb hz hG hc0 hx hu hs hm
 go_enter Tryz.func46,Tryz.ntmps46
 go_wp2_with fail
 go_region_held3 (fun w'=>w'.cell? ⟨bz,2,none⟩=some (.int .i64 F)∧w'.cell? ⟨bz,3,none⟩=some (.slice (some ⟨bs,off,none⟩) n c)∧w'.cell? ⟨b,0,none⟩=some (.func (.func 69) #[] #[])∧w'.cell? ⟨bs,off+i,none⟩=some (.int .u32 x)) (go_keep) (first
  | (go_at_call 48;(with_reducible refine (cwiden_any F x _ x0 x1).mono ?_);rintro e W1 ⟨he,hW⟩;rw [HU.out] at he;subst he;replace HG:=Lib.hid (show Grown W W1 from grown_trans gr hW);replace y:=grown_cell hW y hl;replace y1:=grown_cell hW y1 hl1;replace p3:=grown_cell hW p3 p0;replace p4:=grown_cell hW p4 p0;replace p0:=Nat.lt_of_lt_of_le p0 hW.2.2;replace hl:=Nat.lt_of_lt_of_le hl hW.2.2;replace hl1:=Nat.lt_of_lt_of_le hl1 hW.2.2;clear hW)
  | (go_at_call 69;(with_reducible refine (HC.out _).mono ?_);rintro e W2 ⟨rfl,hW⟩;replace HG:=Lib.hid (show Grown W W2 from grown_trans gr hW);replace y:=grown_cell hW y hl;replace y1:=grown_cell hW y1 hl1;replace p3:=grown_cell hW p3 p0;replace p4:=grown_cell hW p4 p0;replace p0:=Nat.lt_of_lt_of_le p0 hW.2.2;replace hl:=Nat.lt_of_lt_of_le hl hW.2.2;replace hl1:=Nat.lt_of_lt_of_le hl1 hW.2.2;clear hW)
  | (go_at_call 47;(with_reducible refine (amul_any v s _ h0 h1 s0 s1).mono ?_);rintro e W3 ⟨he,-,-,hW⟩;rw [HM.out] at he;subst he;replace HG:=Lib.hid (show Grown W W3 from grown_trans gr hW);replace y:=grown_cell hW y hl;replace y1:=grown_cell hW y1 hl1;replace p3:=grown_cell hW p3 p0;replace p4:=grown_cell hW p4 p0;replace p0:=Nat.lt_of_lt_of_le p0 hW.2.2;replace hl:=Nat.lt_of_lt_of_le hl hW.2.2;replace hl1:=Nat.lt_of_lt_of_le hl1 hW.2.2;clear hW))
 go_wp2
 go_ret
 exact ⟨rfl,m0,m1,gr⟩

set_option maxHeartbeats 1000000 in
theorem aforward_bad (k R C F:Int) (ad:Option Addr) (n c:Nat) (g:Nat→Int) (w:World) (hn:n≤9223372036854775807) (hr:Reads ad n g w) (h:rightB R C F n g=false):
  Calls Tryz.prog 17 #[.int .i64 k,.agg #[.int .i64 R,.int .i64 C,.int .i64 F,.slice ad n c]] w (TenO PT.bad 21 w):=by
 obtain ⟨a,ha⟩:∃ a,actB k=a:=⟨_,rfl⟩
 obtain ⟨Kv,hv⟩:∃ K,valF k=K:=⟨_,rfl⟩
 obtain ⟨Ks,hs⟩:∃ K,sloF k=K:=⟨_,rfl⟩
 have hmf:∀ (fn:Fn) (first cap:Array Value) (w:World),(Instr.makeFunc fn first cap).run Tryz.prog w=.ok (.func fn first cap) w:=fun _ _ _ _=>rfl
 have H1:=Lib.hid hr
 have K1:=Lib.hid (show Ending.returned (.bool (rightB R C F n g))=.returned (.bool false) by rw [h])
 have HP:=Lib.hid (show Ending.returned (.tuple #[.func (.func (valF k)) #[] #[],.func (.func (sloF k)) #[] #[],.bool (actB k)])=.returned (.tuple #[.func (.func Kv) #[] #[],.func (.func Ks) #[] #[],.bool a]) by rw [hv,hs,ha])
 clear hr h hv hs ha
 have HT:=Lib.hid ((ten_new w (.int .i64 R) (.int .i64 C) (.int .i64 F) (.slice ad n c) 24).grown (Grown.alloc (Grown.alloc (Grown.refl _) #[.int .i64 0,.int .i64 0,.int .i64 0,.slice none 0 0] 24) #[.func (.func Kv) #[] #[]] 58))
 have HT2:=Lib.hid ((ten_new (w.alloc (.cells #[.int .i64 R,.int .i64 C,.int .i64 F,.slice ad n c] 24)) (.int .i64 0) (.int .i64 0) (.int .i64 0) (.slice none 0 0) 24).grown (Grown.alloc (Grown.refl _) #[.func (.func Kv) #[] #[]] 58))
 have HX:=Lib.hid (box_new ((w.alloc (.cells #[.int .i64 R,.int .i64 C,.int .i64 F,.slice ad n c] 24)).alloc (.cells #[.int .i64 0,.int .i64 0,.int .i64 0,.slice none 0 0] 24)) (.func (.func Kv) #[] #[]) 58)
 have HG:=Lib.hid (show Grown w (((w.alloc (.cells #[.int .i64 R,.int .i64 C,.int .i64 F,.slice ad n c] 24)).alloc (.cells #[.int .i64 0,.int .i64 0,.int .i64 0,.slice none 0 0] 24)).alloc (.cells #[.func (.func Kv) #[] #[]] 58)) from gr)
 simp only [World.size_alloc] at HT2 HX
 go_enter Tryz.func17,Tryz.ntmps17
 go_wp2_with fail
 refine (aprog_any k _).mono ?_
 rintro e w' ⟨he,rfl⟩
 rw [HP.out] at he
 subst he
 go_wp2_with fail
 generalize ((w.alloc _).alloc _).alloc _=W0 at HT HT2 HX HG ⊢
 refine (tright_any _ _ _ _ _ _ g _ hn (H1.out.grown HG.out)).mono ?_
 rintro e W1 ⟨he,hW1⟩
 rw [K1.out] at he
 subst he
 replace HT:=Lib.hid (HT.out.grown hW1)
 replace HT2:=Lib.hid (HT2.out.grown hW1)
 replace HX:=Lib.hid (HX.out.grown hW1)
 replace HG:=Lib.hid (grown_trans HG.out hW1)
 clear hW1
 obtain ⟨p0,p1,p2,p3,p4,_,_,_,_⟩:=HT.out
 obtain ⟨r0,r1,r2,r3,r4,_,_,_,_⟩:=HT2.out
 go_wp2
 (try simp only [Exit.inBlock,Exit.then])
 refine bodyPost_ret (v:=.tuple #[.agg #[.int .i64 0,.int .i64 0,.int .i64 0,.slice none 0 0],.int .i64 21]) ?_ rfl ⟨none,0,rfl,.inl ⟨rfl,rfl,rfl⟩,fun i hi=>absurd hi (Nat.not_lt_zero i),by show (0:Nat)≤16777216;decide,gr⟩
 rw [results_cell_tmp rfl]
 go_simp

set_option maxHeartbeats 1000000 in
theorem aforward_range (k R C F:Int) (ad:Option Addr) (n c:Nat) (g:Nat→Int) (w:World) (hn:n≤9223372036854775807) (hr:Reads ad n g w) (h:rightB R C F n g=true) (ha:actB k=false):
  Calls Tryz.prog 17 #[.int .i64 k,.agg #[.int .i64 R,.int .i64 C,.int .i64 F,.slice ad n c]] w (TenO PT.bad 22 w):=by
 obtain ⟨Kv,hv⟩:∃ K,valF k=K:=⟨_,rfl⟩
 obtain ⟨Ks,hs⟩:∃ K,sloF k=K:=⟨_,rfl⟩
 have hmf:∀ (fn:Fn) (first cap:Array Value) (w:World),(Instr.makeFunc fn first cap).run Tryz.prog w=.ok (.func fn first cap) w:=fun _ _ _ _=>rfl
 have H1:=Lib.hid hr
 have K1:=Lib.hid (show Ending.returned (.bool (rightB R C F n g))=.returned (.bool true) by rw [h])
 have HP:=Lib.hid (show Ending.returned (.tuple #[.func (.func (valF k)) #[] #[],.func (.func (sloF k)) #[] #[],.bool (actB k)])=.returned (.tuple #[.func (.func Kv) #[] #[],.func (.func Ks) #[] #[],.bool false]) by rw [hv,hs,ha])
 clear hr h hv hs ha
 have HT:=Lib.hid ((ten_new w (.int .i64 R) (.int .i64 C) (.int .i64 F) (.slice ad n c) 24).grown (Grown.alloc (Grown.alloc (Grown.refl _) #[.int .i64 0,.int .i64 0,.int .i64 0,.slice none 0 0] 24) #[.func (.func Kv) #[] #[]] 58))
 have HT2:=Lib.hid ((ten_new (w.alloc (.cells #[.int .i64 R,.int .i64 C,.int .i64 F,.slice ad n c] 24)) (.int .i64 0) (.int .i64 0) (.int .i64 0) (.slice none 0 0) 24).grown (Grown.alloc (Grown.refl _) #[.func (.func Kv) #[] #[]] 58))
 have HX:=Lib.hid (box_new ((w.alloc (.cells #[.int .i64 R,.int .i64 C,.int .i64 F,.slice ad n c] 24)).alloc (.cells #[.int .i64 0,.int .i64 0,.int .i64 0,.slice none 0 0] 24)) (.func (.func Kv) #[] #[]) 58)
 have HG:=Lib.hid (show Grown w (((w.alloc (.cells #[.int .i64 R,.int .i64 C,.int .i64 F,.slice ad n c] 24)).alloc (.cells #[.int .i64 0,.int .i64 0,.int .i64 0,.slice none 0 0] 24)).alloc (.cells #[.func (.func Kv) #[] #[]] 58)) from gr)
 simp only [World.size_alloc] at HT2 HX
 go_enter Tryz.func17,Tryz.ntmps17
 go_wp2_with fail
 refine (aprog_any k _).mono ?_
 rintro e w' ⟨he,rfl⟩
 rw [HP.out] at he
 subst he
 go_wp2_with fail
 generalize ((w.alloc _).alloc _).alloc _=W0 at HT HT2 HX HG ⊢
 refine (tright_any _ _ _ _ _ _ g _ hn (H1.out.grown HG.out)).mono ?_
 rintro e W1 ⟨he,hW1⟩
 rw [K1.out] at he
 subst he
 replace HT:=Lib.hid (HT.out.grown hW1)
 replace HT2:=Lib.hid (HT2.out.grown hW1)
 replace HX:=Lib.hid (HX.out.grown hW1)
 replace HG:=Lib.hid (grown_trans HG.out hW1)
 clear hW1
 obtain ⟨p0,p1,p2,p3,p4,_,_,_,_⟩:=HT.out
 obtain ⟨r0,r1,r2,r3,r4,_,_,_,_⟩:=HT2.out
 go_wp2
 (try simp only [Exit.inBlock,Exit.then])
 refine bodyPost_ret (v:=.tuple #[.agg #[.int .i64 0,.int .i64 0,.int .i64 0,.slice none 0 0],.int .i64 22]) ?_ rfl ⟨none,0,rfl,.inl ⟨rfl,rfl,rfl⟩,fun i hi=>absurd hi (Nat.not_lt_zero i),by show (0:Nat)≤16777216;decide,gr⟩
 rw [results_cell_tmp rfl]
 go_simp

set_option maxRecDepth 100000 in
set_option maxHeartbeats 1000000 in
theorem aforward_good (k R C F:Int) (ad:Option Addr) (n c:Nat) (g:Nat→Int) (w:World) (hn:n≤9223372036854775807) (hr:Reads ad n g w) (hm:n≤16777216) (h:rightB R C F n g=true) (ha:actB k=true):
  Calls Tryz.prog 17 #[.int .i64 k,.agg #[.int .i64 R,.int .i64 C,.int .i64 F,.slice ad n c]] w (TenO ⟨R,C,F,n,forV k F g⟩ 0 w):=by
 obtain ⟨Kv,hv⟩:∃ K,valF k=K:=⟨_,rfl⟩
 obtain ⟨Ks,hs⟩:∃ K,sloF k=K:=⟨_,rfl⟩
 have hmf:∀ (fn:Fn) (first cap:Array Value) (w:World),(Instr.makeFunc fn first cap).run Tryz.prog w=.ok (.func fn first cap) w:=fun _ _ _ _=>rfl
 have H1:=Lib.hid hr
 have K1:=Lib.hid (show Ending.returned (.bool (rightB R C F n g))=.returned (.bool true) by rw [h])
 have HP:=Lib.hid (show Ending.returned (.tuple #[.func (.func (valF k)) #[] #[],.func (.func (sloF k)) #[] #[],.bool (actB k)])=.returned (.tuple #[.func (.func Kv) #[] #[],.func (.func Ks) #[] #[],.bool true]) by rw [hv,hs,ha])
 have hK:Enters Kv:=hv▸val_enters k
 have HC:=Lib.hid (hv▸val_vals k:Vals Kv (valA k))
 clear hr h hv hs ha
 have HT:=Lib.hid ((ten_new w (.int .i64 R) (.int .i64 C) (.int .i64 F) (.slice ad n c) 24).grown (Grown.alloc (Grown.alloc (Grown.refl _) #[.int .i64 0,.int .i64 0,.int .i64 0,.slice none 0 0] 24) #[.func (.func Kv) #[] #[]] 58))
 have HT2:=Lib.hid ((ten_new (w.alloc (.cells #[.int .i64 R,.int .i64 C,.int .i64 F,.slice ad n c] 24)) (.int .i64 0) (.int .i64 0) (.int .i64 0) (.slice none 0 0) 24).grown (Grown.alloc (Grown.refl _) #[.func (.func Kv) #[] #[]] 58))
 have HX:=Lib.hid (box_new ((w.alloc (.cells #[.int .i64 R,.int .i64 C,.int .i64 F,.slice ad n c] 24)).alloc (.cells #[.int .i64 0,.int .i64 0,.int .i64 0,.slice none 0 0] 24)) (.func (.func Kv) #[] #[]) 58)
 have HG:=Lib.hid (show Grown w (((w.alloc (.cells #[.int .i64 R,.int .i64 C,.int .i64 F,.slice ad n c] 24)).alloc (.cells #[.int .i64 0,.int .i64 0,.int .i64 0,.slice none 0 0] 24)).alloc (.cells #[.func (.func Kv) #[] #[]] 58)) from gr)
 simp only [World.size_alloc] at HT2 HX
 go_enter Tryz.func17,Tryz.ntmps17
 go_wp2_with fail
 refine (aprog_any k _).mono ?_
 rintro e w' ⟨he,rfl⟩
 rw [HP.out] at he
 subst he
 go_wp2_with fail
 generalize ((w.alloc _).alloc _).alloc _=W0 at HT HT2 HX HG ⊢
 refine (tright_any _ _ _ _ _ _ g _ hn (H1.out.grown HG.out)).mono ?_
 rintro e W1 ⟨he,hW1⟩
 rw [K1.out] at he
 subst he
 replace HT:=Lib.hid (HT.out.grown hW1)
 replace HT2:=Lib.hid (HT2.out.grown hW1)
 replace HX:=Lib.hid (HX.out.grown hW1)
 replace HG:=Lib.hid (grown_trans HG.out hW1)
 clear hW1
 obtain ⟨p0,p1,p2,p3,p4,_,_,_,_⟩:=HT.out
 obtain ⟨r0,r1,r2,r3,r4,_,_,_,_⟩:=HT2.out
 go_wp2_with fail
 clear p0 p1 p2 p3 p4 r0 r1 r2 r3 r4
 refine (aeachF_any R C F ad n c g (fun _ v=>valA k v) _ _ hm (H1.out.grown HG.out) (aclosF Kv (valA k) _ n _ HX.out hK HC.out (valA_bd k))).mono ?_
 show ∀ e w',TenN ⟨R,C,F,n,forV k F g⟩ _ e w'→_
 rintro e W5 ⟨xd,xc,rfl,hO,hB,hW⟩
 dsimp only at hO hB ⊢
 have HF:=Lib.hid (hO.fresh.off HT2.out.lies)
 have HO:=Lib.hid (hO.back HG.out)
 have HB:=Lib.hid hB
 replace HT2:=Lib.hid (HT2.out.grown hW)
 replace HG:=Lib.hid (grown_trans HG.out hW)
 clear hW hO hB HT HX
 obtain ⟨r0,r1,r2,r3,r4,_,_,_,_⟩:=HT2.out
 go_wp2
 (try simp only [Exit.inBlock,Exit.then])
 refine bodyPost_ret (v:=.tuple #[.agg #[.int .i64 R,.int .i64 C,.int .i64 F,.slice xd n xc],.int .i64 0]) ?_ rfl ⟨_,_,rfl,?_,HB.out,hm,gr⟩
 ·rw [results_cell_tmp rfl]
  go_simp
 ·exact (((HO.out.set HF.out _).set HF.out _).set HF.out _).set HF.out _

theorem aforward_any (k R C F:Int) (ad:Option Addr) (n c:Nat) (g:Nat→Int) (w:World) (hn:n≤9223372036854775807) (hr:Reads ad n g w):
  Calls Tryz.prog 17 #[.int .i64 k,.agg #[.int .i64 R,.int .i64 C,.int .i64 F,.slice ad n c]] w (TenO (forT k ⟨R,C,F,n,g⟩) (forX k ⟨R,C,F,n,g⟩) w):=by
 unfold forT forX PT.right
 dsimp only
 cases h:rightB R C F n g
 ·exact aforward_bad k R C F ad n c g w hn hr h
 ·cases ha:actB k
  ·exact aforward_range k R C F ad n c g w hn hr h ha
  ·obtain ⟨r',c',e1,e3,l1,l2,e4⟩:=right_nat (t:=⟨R,C,F,n,g⟩) h
   simp only at e1 e3 e4
   obtain ⟨_,m1⟩:=wrap_mul r' c' n l1 l2 e4.symm
   exact aforward_good k R C F ad n c g w hn hr m1 h ha

set_option maxHeartbeats 1000000 in
theorem aback_bad1 (k R C F bR bC bF:Int) (ad bd:Option Addr) (n c bn cb:Nat) (g h:Nat→Int) (w:World) (hn:n≤9223372036854775807) (hn':bn≤9223372036854775807) (h1:Reads ad n g w) (h2:Reads bd bn h w) (hr:rightB R C F n g=false):
  Calls Tryz.prog 19 #[.int .i64 k,.agg #[.int .i64 R,.int .i64 C,.int .i64 F,.slice ad n c],.agg #[.int .i64 bR,.int .i64 bC,.int .i64 bF,.slice bd bn cb]] w (TenO PT.bad 21 w):=by
 obtain ⟨a,ha⟩:∃ a,actB k=a:=⟨_,rfl⟩
 obtain ⟨Kv,hv⟩:∃ K,valF k=K:=⟨_,rfl⟩
 obtain ⟨Ks,hs⟩:∃ K,sloF k=K:=⟨_,rfl⟩
 have hmf:∀ (fn:Fn) (first cap:Array Value) (w:World),(Instr.makeFunc fn first cap).run Tryz.prog w=.ok (.func fn first cap) w:=fun _ _ _ _=>rfl
 have H1:=Lib.hid h1
 have H2:=Lib.hid h2
 have K1:=Lib.hid (show Ending.returned (.bool (rightB R C F n g))=.returned (.bool false) by rw [hr])
 have HP:=Lib.hid (show Ending.returned (.tuple #[.func (.func (valF k)) #[] #[],.func (.func (sloF k)) #[] #[],.bool (actB k)])=.returned (.tuple #[.func (.func Kv) #[] #[],.func (.func Ks) #[] #[],.bool a]) by rw [hv,hs,ha])
 clear h1 h2 hr hv hs ha
 have HT:=Lib.hid ((ten_new w (.int .i64 R) (.int .i64 C) (.int .i64 F) (.slice ad n c) 24).grown (Grown.alloc (Grown.alloc (Grown.alloc (Grown.refl _) #[.int .i64 bR,.int .i64 bC,.int .i64 bF,.slice bd bn cb] 24) #[.int .i64 0,.int .i64 0,.int .i64 0,.slice none 0 0] 24) #[.func (.func Ks) #[] #[]] 58))
 have HQ:=Lib.hid ((ten_new (w.alloc (.cells #[.int .i64 R,.int .i64 C,.int .i64 F,.slice ad n c] 24)) (.int .i64 bR) (.int .i64 bC) (.int .i64 bF) (.slice bd bn cb) 24).grown (Grown.alloc (Grown.alloc (Grown.refl _) #[.int .i64 0,.int .i64 0,.int .i64 0,.slice none 0 0] 24) #[.func (.func Ks) #[] #[]] 58))
 have HT2:=Lib.hid ((ten_new ((w.alloc (.cells #[.int .i64 R,.int .i64 C,.int .i64 F,.slice ad n c] 24)).alloc (.cells #[.int .i64 bR,.int .i64 bC,.int .i64 bF,.slice bd bn cb] 24)) (.int .i64 0) (.int .i64 0) (.int .i64 0) (.slice none 0 0) 24).grown (Grown.alloc (Grown.refl _) #[.func (.func Ks) #[] #[]] 58))
 have HX:=Lib.hid (box_new (((w.alloc (.cells #[.int .i64 R,.int .i64 C,.int .i64 F,.slice ad n c] 24)).alloc (.cells #[.int .i64 bR,.int .i64 bC,.int .i64 bF,.slice bd bn cb] 24)).alloc (.cells #[.int .i64 0,.int .i64 0,.int .i64 0,.slice none 0 0] 24)) (.func (.func Ks) #[] #[]) 58)
 have HG:=Lib.hid (show Grown w ((((w.alloc (.cells #[.int .i64 R,.int .i64 C,.int .i64 F,.slice ad n c] 24)).alloc (.cells #[.int .i64 bR,.int .i64 bC,.int .i64 bF,.slice bd bn cb] 24)).alloc (.cells #[.int .i64 0,.int .i64 0,.int .i64 0,.slice none 0 0] 24)).alloc (.cells #[.func (.func Ks) #[] #[]] 58)) from gr)
 simp only [World.size_alloc] at HQ HT2 HX
 go_enter Tryz.func19,Tryz.ntmps19
 go_wp2_with fail
 refine (aprog_any k _).mono ?_
 rintro e w' ⟨he,rfl⟩
 rw [HP.out] at he
 subst he
 go_wp2_with fail
 generalize (((w.alloc _).alloc _).alloc _).alloc _=W0 at HT HQ HT2 HX HG ⊢
 refine (tright_any _ _ _ _ _ _ g _ (by assumption) (H1.out.grown HG.out)).mono ?_
 rintro e W1 ⟨he,hW1⟩
 rw [K1.out] at he
 subst he
 replace HT:=Lib.hid (HT.out.grown hW1)
 replace HQ:=Lib.hid (HQ.out.grown hW1)
 replace HT2:=Lib.hid (HT2.out.grown hW1)
 replace HX:=Lib.hid (HX.out.grown hW1)
 replace HG:=Lib.hid (grown_trans HG.out hW1)
 clear hW1
 obtain ⟨p0,p1,p2,p3,p4,_,_,_,_⟩:=HT.out
 obtain ⟨q0,q1,q2,q3,q4,_,_,_,_⟩:=HQ.out
 obtain ⟨r0,r1,r2,r3,r4,_,_,_,_⟩:=HT2.out
 go_wp2
 (try simp only [Exit.inBlock,Exit.then])
 refine bodyPost_ret (v:=.tuple #[.agg #[.int .i64 0,.int .i64 0,.int .i64 0,.slice none 0 0],.int .i64 21]) ?_ rfl ⟨none,0,rfl,.inl ⟨rfl,rfl,rfl⟩,fun i hi=>absurd hi (Nat.not_lt_zero i),by show (0:Nat)≤16777216;decide,gr⟩
 rw [results_cell_tmp rfl]
 go_simp

set_option maxHeartbeats 1000000 in
theorem aback_bad2 (k R C F bR bC bF:Int) (ad bd:Option Addr) (n c bn cb:Nat) (g h:Nat→Int) (w:World) (hn:n≤9223372036854775807) (hn':bn≤9223372036854775807) (h1:Reads ad n g w) (h2:Reads bd bn h w) (hr:rightB R C F n g=true) (hr2:rightB bR bC bF bn h=false):
  Calls Tryz.prog 19 #[.int .i64 k,.agg #[.int .i64 R,.int .i64 C,.int .i64 F,.slice ad n c],.agg #[.int .i64 bR,.int .i64 bC,.int .i64 bF,.slice bd bn cb]] w (TenO PT.bad 21 w):=by
 obtain ⟨a,ha⟩:∃ a,actB k=a:=⟨_,rfl⟩
 obtain ⟨Kv,hv⟩:∃ K,valF k=K:=⟨_,rfl⟩
 obtain ⟨Ks,hs⟩:∃ K,sloF k=K:=⟨_,rfl⟩
 have hmf:∀ (fn:Fn) (first cap:Array Value) (w:World),(Instr.makeFunc fn first cap).run Tryz.prog w=.ok (.func fn first cap) w:=fun _ _ _ _=>rfl
 have H1:=Lib.hid h1
 have H2:=Lib.hid h2
 have K1:=Lib.hid (show Ending.returned (.bool (rightB R C F n g))=.returned (.bool true) by rw [hr])
 have K2:=Lib.hid (show Ending.returned (.bool (rightB bR bC bF bn h))=.returned (.bool false) by rw [hr2])
 have HP:=Lib.hid (show Ending.returned (.tuple #[.func (.func (valF k)) #[] #[],.func (.func (sloF k)) #[] #[],.bool (actB k)])=.returned (.tuple #[.func (.func Kv) #[] #[],.func (.func Ks) #[] #[],.bool a]) by rw [hv,hs,ha])
 clear h1 h2 hr hr2 hv hs ha
 have HT:=Lib.hid ((ten_new w (.int .i64 R) (.int .i64 C) (.int .i64 F) (.slice ad n c) 24).grown (Grown.alloc (Grown.alloc (Grown.alloc (Grown.refl _) #[.int .i64 bR,.int .i64 bC,.int .i64 bF,.slice bd bn cb] 24) #[.int .i64 0,.int .i64 0,.int .i64 0,.slice none 0 0] 24) #[.func (.func Ks) #[] #[]] 58))
 have HQ:=Lib.hid ((ten_new (w.alloc (.cells #[.int .i64 R,.int .i64 C,.int .i64 F,.slice ad n c] 24)) (.int .i64 bR) (.int .i64 bC) (.int .i64 bF) (.slice bd bn cb) 24).grown (Grown.alloc (Grown.alloc (Grown.refl _) #[.int .i64 0,.int .i64 0,.int .i64 0,.slice none 0 0] 24) #[.func (.func Ks) #[] #[]] 58))
 have HT2:=Lib.hid ((ten_new ((w.alloc (.cells #[.int .i64 R,.int .i64 C,.int .i64 F,.slice ad n c] 24)).alloc (.cells #[.int .i64 bR,.int .i64 bC,.int .i64 bF,.slice bd bn cb] 24)) (.int .i64 0) (.int .i64 0) (.int .i64 0) (.slice none 0 0) 24).grown (Grown.alloc (Grown.refl _) #[.func (.func Ks) #[] #[]] 58))
 have HX:=Lib.hid (box_new (((w.alloc (.cells #[.int .i64 R,.int .i64 C,.int .i64 F,.slice ad n c] 24)).alloc (.cells #[.int .i64 bR,.int .i64 bC,.int .i64 bF,.slice bd bn cb] 24)).alloc (.cells #[.int .i64 0,.int .i64 0,.int .i64 0,.slice none 0 0] 24)) (.func (.func Ks) #[] #[]) 58)
 have HG:=Lib.hid (show Grown w ((((w.alloc (.cells #[.int .i64 R,.int .i64 C,.int .i64 F,.slice ad n c] 24)).alloc (.cells #[.int .i64 bR,.int .i64 bC,.int .i64 bF,.slice bd bn cb] 24)).alloc (.cells #[.int .i64 0,.int .i64 0,.int .i64 0,.slice none 0 0] 24)).alloc (.cells #[.func (.func Ks) #[] #[]] 58)) from gr)
 simp only [World.size_alloc] at HQ HT2 HX
 go_enter Tryz.func19,Tryz.ntmps19
 go_wp2_with fail
 refine (aprog_any k _).mono ?_
 rintro e w' ⟨he,rfl⟩
 rw [HP.out] at he
 subst he
 go_wp2_with fail
 generalize (((w.alloc _).alloc _).alloc _).alloc _=W0 at HT HQ HT2 HX HG ⊢
 refine (tright_any _ _ _ _ _ _ g _ (by assumption) (H1.out.grown HG.out)).mono ?_
 rintro e W1 ⟨he,hW1⟩
 rw [K1.out] at he
 subst he
 replace HT:=Lib.hid (HT.out.grown hW1)
 replace HQ:=Lib.hid (HQ.out.grown hW1)
 replace HT2:=Lib.hid (HT2.out.grown hW1)
 replace HX:=Lib.hid (HX.out.grown hW1)
 replace HG:=Lib.hid (grown_trans HG.out hW1)
 clear hW1
 obtain ⟨p0,p1,p2,p3,p4,_,_,_,_⟩:=HT.out
 obtain ⟨q0,q1,q2,q3,q4,_,_,_,_⟩:=HQ.out
 obtain ⟨r0,r1,r2,r3,r4,_,_,_,_⟩:=HT2.out
 go_wp2_with fail
 refine (tright_any _ _ _ _ _ _ h _ (by assumption) (H2.out.grown HG.out)).mono ?_
 rintro e W1 ⟨he,hW1⟩
 rw [K2.out] at he
 subst he
 replace HT:=Lib.hid (HT.out.grown hW1)
 replace HQ:=Lib.hid (HQ.out.grown hW1)
 replace HT2:=Lib.hid (HT2.out.grown hW1)
 replace HX:=Lib.hid (HX.out.grown hW1)
 replace HG:=Lib.hid (grown_trans HG.out hW1)
 clear hW1
 clear p0 p1 p2 p3 p4 q0 q1 q2 q3 q4 r0 r1 r2 r3 r4
 obtain ⟨p0,p1,p2,p3,p4,_,_,_,_⟩:=HT.out
 obtain ⟨q0,q1,q2,q3,q4,_,_,_,_⟩:=HQ.out
 obtain ⟨r0,r1,r2,r3,r4,_,_,_,_⟩:=HT2.out
 go_wp2
 (try simp only [Exit.inBlock,Exit.then])
 refine bodyPost_ret (v:=.tuple #[.agg #[.int .i64 0,.int .i64 0,.int .i64 0,.slice none 0 0],.int .i64 21]) ?_ rfl ⟨none,0,rfl,.inl ⟨rfl,rfl,rfl⟩,fun i hi=>absurd hi (Nat.not_lt_zero i),by show (0:Nat)≤16777216;decide,gr⟩
 rw [results_cell_tmp rfl]
 go_simp

set_option maxHeartbeats 1000000 in
theorem aback_bad3 (k R C F bR bC bF:Int) (ad bd:Option Addr) (n c bn cb:Nat) (g h:Nat→Int) (w:World) (hn:n≤9223372036854775807) (hn':bn≤9223372036854775807) (h1:Reads ad n g w) (h2:Reads bd bn h w) (hr:rightB R C F n g=true) (hr2:rightB bR bC bF bn h=true) (hk:¬(R=bR∧C=bC)):
  Calls Tryz.prog 19 #[.int .i64 k,.agg #[.int .i64 R,.int .i64 C,.int .i64 F,.slice ad n c],.agg #[.int .i64 bR,.int .i64 bC,.int .i64 bF,.slice bd bn cb]] w (TenO PT.bad 21 w):=by
 obtain ⟨a,ha⟩:∃ a,actB k=a:=⟨_,rfl⟩
 obtain ⟨Kv,hv⟩:∃ K,valF k=K:=⟨_,rfl⟩
 obtain ⟨Ks,hs⟩:∃ K,sloF k=K:=⟨_,rfl⟩
 have hmf:∀ (fn:Fn) (first cap:Array Value) (w:World),(Instr.makeFunc fn first cap).run Tryz.prog w=.ok (.func fn first cap) w:=fun _ _ _ _=>rfl
 have H1:=Lib.hid h1
 have H2:=Lib.hid h2
 have K1:=Lib.hid (show Ending.returned (.bool (rightB R C F n g))=.returned (.bool true) by rw [hr])
 have K2:=Lib.hid (show Ending.returned (.bool (rightB bR bC bF bn h))=.returned (.bool true) by rw [hr2])
 have HP:=Lib.hid (show Ending.returned (.tuple #[.func (.func (valF k)) #[] #[],.func (.func (sloF k)) #[] #[],.bool (actB k)])=.returned (.tuple #[.func (.func Kv) #[] #[],.func (.func Ks) #[] #[],.bool a]) by rw [hv,hs,ha])
 clear h1 h2 hr hr2 hv hs ha
 have HT:=Lib.hid ((ten_new w (.int .i64 R) (.int .i64 C) (.int .i64 F) (.slice ad n c) 24).grown (Grown.alloc (Grown.alloc (Grown.alloc (Grown.refl _) #[.int .i64 bR,.int .i64 bC,.int .i64 bF,.slice bd bn cb] 24) #[.int .i64 0,.int .i64 0,.int .i64 0,.slice none 0 0] 24) #[.func (.func Ks) #[] #[]] 58))
 have HQ:=Lib.hid ((ten_new (w.alloc (.cells #[.int .i64 R,.int .i64 C,.int .i64 F,.slice ad n c] 24)) (.int .i64 bR) (.int .i64 bC) (.int .i64 bF) (.slice bd bn cb) 24).grown (Grown.alloc (Grown.alloc (Grown.refl _) #[.int .i64 0,.int .i64 0,.int .i64 0,.slice none 0 0] 24) #[.func (.func Ks) #[] #[]] 58))
 have HT2:=Lib.hid ((ten_new ((w.alloc (.cells #[.int .i64 R,.int .i64 C,.int .i64 F,.slice ad n c] 24)).alloc (.cells #[.int .i64 bR,.int .i64 bC,.int .i64 bF,.slice bd bn cb] 24)) (.int .i64 0) (.int .i64 0) (.int .i64 0) (.slice none 0 0) 24).grown (Grown.alloc (Grown.refl _) #[.func (.func Ks) #[] #[]] 58))
 have HX:=Lib.hid (box_new (((w.alloc (.cells #[.int .i64 R,.int .i64 C,.int .i64 F,.slice ad n c] 24)).alloc (.cells #[.int .i64 bR,.int .i64 bC,.int .i64 bF,.slice bd bn cb] 24)).alloc (.cells #[.int .i64 0,.int .i64 0,.int .i64 0,.slice none 0 0] 24)) (.func (.func Ks) #[] #[]) 58)
 have HG:=Lib.hid (show Grown w ((((w.alloc (.cells #[.int .i64 R,.int .i64 C,.int .i64 F,.slice ad n c] 24)).alloc (.cells #[.int .i64 bR,.int .i64 bC,.int .i64 bF,.slice bd bn cb] 24)).alloc (.cells #[.int .i64 0,.int .i64 0,.int .i64 0,.slice none 0 0] 24)).alloc (.cells #[.func (.func Ks) #[] #[]] 58)) from gr)
 simp only [World.size_alloc] at HQ HT2 HX
 by_cases k1:R=bR
 ·have k2:¬C=bC:=fun e=>hk ⟨k1,e⟩
  have f2:((C:Int)==bC)=false:=by simpa using k2
  have f3:((C:Int) != bC)=true:=by rw [bne,f2];rfl
  have f4:((R:Int) != bR)=false:=by rw [bne,beq_iff_eq.2 k1];rfl
  have f5:((R:Int)==bR)=true:=beq_iff_eq.2 k1
  clear hk k1 k2
  go_enter Tryz.func19,Tryz.ntmps19
  go_wp2_with fail
  refine (aprog_any k _).mono ?_
  rintro e w' ⟨he,rfl⟩
  rw [HP.out] at he
  subst he
  go_wp2_with fail
  generalize (((w.alloc _).alloc _).alloc _).alloc _=W0 at HT HQ HT2 HX HG ⊢
  refine (tright_any _ _ _ _ _ _ g _ (by assumption) (H1.out.grown HG.out)).mono ?_
  rintro e W1 ⟨he,hW1⟩
  rw [K1.out] at he
  subst he
  replace HT:=Lib.hid (HT.out.grown hW1)
  replace HQ:=Lib.hid (HQ.out.grown hW1)
  replace HT2:=Lib.hid (HT2.out.grown hW1)
  replace HX:=Lib.hid (HX.out.grown hW1)
  replace HG:=Lib.hid (grown_trans HG.out hW1)
  clear hW1
  obtain ⟨p0,p1,p2,p3,p4,_,_,_,_⟩:=HT.out
  obtain ⟨q0,q1,q2,q3,q4,_,_,_,_⟩:=HQ.out
  obtain ⟨r0,r1,r2,r3,r4,_,_,_,_⟩:=HT2.out
  go_wp2_with fail
  refine (tright_any _ _ _ _ _ _ h _ (by assumption) (H2.out.grown HG.out)).mono ?_
  rintro e W1 ⟨he,hW1⟩
  rw [K2.out] at he
  subst he
  replace HT:=Lib.hid (HT.out.grown hW1)
  replace HQ:=Lib.hid (HQ.out.grown hW1)
  replace HT2:=Lib.hid (HT2.out.grown hW1)
  replace HX:=Lib.hid (HX.out.grown hW1)
  replace HG:=Lib.hid (grown_trans HG.out hW1)
  clear hW1
  clear p0 p1 p2 p3 p4 q0 q1 q2 q3 q4 r0 r1 r2 r3 r4
  obtain ⟨p0,p1,p2,p3,p4,_,_,_,_⟩:=HT.out
  obtain ⟨q0,q1,q2,q3,q4,_,_,_,_⟩:=HQ.out
  obtain ⟨r0,r1,r2,r3,r4,_,_,_,_⟩:=HT2.out
  go_wp2
  (try simp only [Exit.inBlock,Exit.then])
  refine bodyPost_ret (v:=.tuple #[.agg #[.int .i64 0,.int .i64 0,.int .i64 0,.slice none 0 0],.int .i64 21]) ?_ rfl ⟨none,0,rfl,.inl ⟨rfl,rfl,rfl⟩,fun i hi=>absurd hi (Nat.not_lt_zero i),by show (0:Nat)≤16777216;decide,gr⟩
  rw [results_cell_tmp rfl]
  go_simp
 ·have f2:((R:Int)==bR)=false:=by simpa using k1
  have f3:((R:Int) != bR)=true:=by rw [bne,f2];rfl
  clear hk k1
  go_enter Tryz.func19,Tryz.ntmps19
  go_wp2_with fail
  refine (aprog_any k _).mono ?_
  rintro e w' ⟨he,rfl⟩
  rw [HP.out] at he
  subst he
  go_wp2_with fail
  generalize (((w.alloc _).alloc _).alloc _).alloc _=W0 at HT HQ HT2 HX HG ⊢
  refine (tright_any _ _ _ _ _ _ g _ (by assumption) (H1.out.grown HG.out)).mono ?_
  rintro e W1 ⟨he,hW1⟩
  rw [K1.out] at he
  subst he
  replace HT:=Lib.hid (HT.out.grown hW1)
  replace HQ:=Lib.hid (HQ.out.grown hW1)
  replace HT2:=Lib.hid (HT2.out.grown hW1)
  replace HX:=Lib.hid (HX.out.grown hW1)
  replace HG:=Lib.hid (grown_trans HG.out hW1)
  clear hW1
  obtain ⟨p0,p1,p2,p3,p4,_,_,_,_⟩:=HT.out
  obtain ⟨q0,q1,q2,q3,q4,_,_,_,_⟩:=HQ.out
  obtain ⟨r0,r1,r2,r3,r4,_,_,_,_⟩:=HT2.out
  go_wp2_with fail
  refine (tright_any _ _ _ _ _ _ h _ (by assumption) (H2.out.grown HG.out)).mono ?_
  rintro e W1 ⟨he,hW1⟩
  rw [K2.out] at he
  subst he
  replace HT:=Lib.hid (HT.out.grown hW1)
  replace HQ:=Lib.hid (HQ.out.grown hW1)
  replace HT2:=Lib.hid (HT2.out.grown hW1)
  replace HX:=Lib.hid (HX.out.grown hW1)
  replace HG:=Lib.hid (grown_trans HG.out hW1)
  clear hW1
  clear p0 p1 p2 p3 p4 q0 q1 q2 q3 q4 r0 r1 r2 r3 r4
  obtain ⟨p0,p1,p2,p3,p4,_,_,_,_⟩:=HT.out
  obtain ⟨q0,q1,q2,q3,q4,_,_,_,_⟩:=HQ.out
  obtain ⟨r0,r1,r2,r3,r4,_,_,_,_⟩:=HT2.out
  go_wp2
  (try simp only [Exit.inBlock,Exit.then])
  refine bodyPost_ret (v:=.tuple #[.agg #[.int .i64 0,.int .i64 0,.int .i64 0,.slice none 0 0],.int .i64 21]) ?_ rfl ⟨none,0,rfl,.inl ⟨rfl,rfl,rfl⟩,fun i hi=>absurd hi (Nat.not_lt_zero i),by show (0:Nat)≤16777216;decide,gr⟩
  rw [results_cell_tmp rfl]
  go_simp

set_option maxHeartbeats 1000000 in
theorem aback_range (k R C F bR bC bF:Int) (ad bd:Option Addr) (n c bn cb:Nat) (g h:Nat→Int) (w:World) (hn:n≤9223372036854775807) (hn':bn≤9223372036854775807) (h1:Reads ad n g w) (h2:Reads bd bn h w) (hr:rightB R C F n g=true) (hr2:rightB bR bC bF bn h=true) (k1:R=bR) (k2:C=bC) (ha:actB k=false):
  Calls Tryz.prog 19 #[.int .i64 k,.agg #[.int .i64 R,.int .i64 C,.int .i64 F,.slice ad n c],.agg #[.int .i64 bR,.int .i64 bC,.int .i64 bF,.slice bd bn cb]] w (TenO PT.bad 22 w):=by
 obtain ⟨Kv,hv⟩:∃ K,valF k=K:=⟨_,rfl⟩
 obtain ⟨Ks,hs⟩:∃ K,sloF k=K:=⟨_,rfl⟩
 have hmf:∀ (fn:Fn) (first cap:Array Value) (w:World),(Instr.makeFunc fn first cap).run Tryz.prog w=.ok (.func fn first cap) w:=fun _ _ _ _=>rfl
 have H1:=Lib.hid h1
 have H2:=Lib.hid h2
 have K1:=Lib.hid (show Ending.returned (.bool (rightB R C F n g))=.returned (.bool true) by rw [hr])
 have K2:=Lib.hid (show Ending.returned (.bool (rightB bR bC bF bn h))=.returned (.bool true) by rw [hr2])
 have HP:=Lib.hid (show Ending.returned (.tuple #[.func (.func (valF k)) #[] #[],.func (.func (sloF k)) #[] #[],.bool (actB k)])=.returned (.tuple #[.func (.func Kv) #[] #[],.func (.func Ks) #[] #[],.bool false]) by rw [hv,hs,ha])
 have g1:((R:Int)==bR)=true:=by rw [k1];simp
 have g2:((R:Int) != bR)=false:=by rw [bne,g1];rfl
 have g3:((C:Int)==bC)=true:=by rw [k2];simp
 have g4:((C:Int) != bC)=false:=by rw [bne,g3];rfl
 clear h1 h2 hr hr2 hv hs ha k1 k2
 have HT:=Lib.hid ((ten_new w (.int .i64 R) (.int .i64 C) (.int .i64 F) (.slice ad n c) 24).grown (Grown.alloc (Grown.alloc (Grown.alloc (Grown.refl _) #[.int .i64 bR,.int .i64 bC,.int .i64 bF,.slice bd bn cb] 24) #[.int .i64 0,.int .i64 0,.int .i64 0,.slice none 0 0] 24) #[.func (.func Ks) #[] #[]] 58))
 have HQ:=Lib.hid ((ten_new (w.alloc (.cells #[.int .i64 R,.int .i64 C,.int .i64 F,.slice ad n c] 24)) (.int .i64 bR) (.int .i64 bC) (.int .i64 bF) (.slice bd bn cb) 24).grown (Grown.alloc (Grown.alloc (Grown.refl _) #[.int .i64 0,.int .i64 0,.int .i64 0,.slice none 0 0] 24) #[.func (.func Ks) #[] #[]] 58))
 have HT2:=Lib.hid ((ten_new ((w.alloc (.cells #[.int .i64 R,.int .i64 C,.int .i64 F,.slice ad n c] 24)).alloc (.cells #[.int .i64 bR,.int .i64 bC,.int .i64 bF,.slice bd bn cb] 24)) (.int .i64 0) (.int .i64 0) (.int .i64 0) (.slice none 0 0) 24).grown (Grown.alloc (Grown.refl _) #[.func (.func Ks) #[] #[]] 58))
 have HX:=Lib.hid (box_new (((w.alloc (.cells #[.int .i64 R,.int .i64 C,.int .i64 F,.slice ad n c] 24)).alloc (.cells #[.int .i64 bR,.int .i64 bC,.int .i64 bF,.slice bd bn cb] 24)).alloc (.cells #[.int .i64 0,.int .i64 0,.int .i64 0,.slice none 0 0] 24)) (.func (.func Ks) #[] #[]) 58)
 have HG:=Lib.hid (show Grown w ((((w.alloc (.cells #[.int .i64 R,.int .i64 C,.int .i64 F,.slice ad n c] 24)).alloc (.cells #[.int .i64 bR,.int .i64 bC,.int .i64 bF,.slice bd bn cb] 24)).alloc (.cells #[.int .i64 0,.int .i64 0,.int .i64 0,.slice none 0 0] 24)).alloc (.cells #[.func (.func Ks) #[] #[]] 58)) from gr)
 simp only [World.size_alloc] at HQ HT2 HX
 go_enter Tryz.func19,Tryz.ntmps19
 go_wp2_with fail
 refine (aprog_any k _).mono ?_
 rintro e w' ⟨he,rfl⟩
 rw [HP.out] at he
 subst he
 go_wp2_with fail
 generalize (((w.alloc _).alloc _).alloc _).alloc _=W0 at HT HQ HT2 HX HG ⊢
 refine (tright_any _ _ _ _ _ _ g _ (by assumption) (H1.out.grown HG.out)).mono ?_
 rintro e W1 ⟨he,hW1⟩
 rw [K1.out] at he
 subst he
 replace HT:=Lib.hid (HT.out.grown hW1)
 replace HQ:=Lib.hid (HQ.out.grown hW1)
 replace HT2:=Lib.hid (HT2.out.grown hW1)
 replace HX:=Lib.hid (HX.out.grown hW1)
 replace HG:=Lib.hid (grown_trans HG.out hW1)
 clear hW1
 obtain ⟨p0,p1,p2,p3,p4,_,_,_,_⟩:=HT.out
 obtain ⟨q0,q1,q2,q3,q4,_,_,_,_⟩:=HQ.out
 obtain ⟨r0,r1,r2,r3,r4,_,_,_,_⟩:=HT2.out
 go_wp2_with fail
 refine (tright_any _ _ _ _ _ _ h _ (by assumption) (H2.out.grown HG.out)).mono ?_
 rintro e W1 ⟨he,hW1⟩
 rw [K2.out] at he
 subst he
 replace HT:=Lib.hid (HT.out.grown hW1)
 replace HQ:=Lib.hid (HQ.out.grown hW1)
 replace HT2:=Lib.hid (HT2.out.grown hW1)
 replace HX:=Lib.hid (HX.out.grown hW1)
 replace HG:=Lib.hid (grown_trans HG.out hW1)
 clear hW1
 clear p0 p1 p2 p3 p4 q0 q1 q2 q3 q4 r0 r1 r2 r3 r4
 obtain ⟨p0,p1,p2,p3,p4,_,_,_,_⟩:=HT.out
 obtain ⟨q0,q1,q2,q3,q4,_,_,_,_⟩:=HQ.out
 obtain ⟨r0,r1,r2,r3,r4,_,_,_,_⟩:=HT2.out
 go_wp2
 (try simp only [Exit.inBlock,Exit.then])
 refine bodyPost_ret (v:=.tuple #[.agg #[.int .i64 0,.int .i64 0,.int .i64 0,.slice none 0 0],.int .i64 22]) ?_ rfl ⟨none,0,rfl,.inl ⟨rfl,rfl,rfl⟩,fun i hi=>absurd hi (Nat.not_lt_zero i),by show (0:Nat)≤16777216;decide,gr⟩
 rw [results_cell_tmp rfl]
 go_simp

theorem aclosB_all (k R C F:Int) (ad:Option Addr) (n c:Nat) (g:Nat→Int) (b bz Ks:Nat) (w:World) (ha:actB k=true) (hs:sloF k=Ks) (hn:n≤16777216) (hr:Reads ad n g w) (hb:BoxAt b (.func (.func Ks) #[] #[]) w) (hz:TenAt bz (.int .i64 R) (.int .i64 C) (.int .i64 F) (.slice ad n c) w):
  TurnsAB (.pointer (some ⟨b,0,none⟩)) (.pointer (some ⟨bz,0,none⟩)) n (fun i v=>mulV v (sloA k (widV F g i))) w:=by
 have hk:k=0∨k=1∨k=2∨k=3:=by have:=of_decide_eq_true ha;omega
 subst hs
 rcases hk with rfl | rfl | rfl | rfl
 ·exact aclosB0 R C F ad n c g b bz w hn hr hb hz
 ·exact aclosB1 R C F ad n c g b bz w hn hr hb hz
 ·exact aclosB2 R C F ad n c g b bz w hn hr hb hz
 ·exact aclosB3 R C F ad n c g b bz w hn hr hb hz

set_option maxRecDepth 100000 in
set_option maxHeartbeats 2000000 in
theorem aback_good (k R C F bR bC bF:Int) (ad bd:Option Addr) (n c bn cb:Nat) (g h:Nat→Int) (w:World) (hn:n≤9223372036854775807) (hn':bn≤9223372036854775807) (h1:Reads ad n g w) (h2:Reads bd bn h w) (hm:bn≤16777216) (hr:rightB R C F n g=true) (hr2:rightB bR bC bF bn h=true) (k1:R=bR) (k2:C=bC) (hnn:n=bn) (ha:actB k=true):
  Calls Tryz.prog 19 #[.int .i64 k,.agg #[.int .i64 R,.int .i64 C,.int .i64 F,.slice ad n c],.agg #[.int .i64 bR,.int .i64 bC,.int .i64 bF,.slice bd bn cb]] w (TenO ⟨bR,bC,bF,bn,bacV k F g bF h⟩ 0 w):=by
 subst hnn
 obtain ⟨Kv,hv⟩:∃ K,valF k=K:=⟨_,rfl⟩
 obtain ⟨Ks,hs⟩:∃ K,sloF k=K:=⟨_,rfl⟩
 have hmf:∀ (fn:Fn) (first cap:Array Value) (w:World),(Instr.makeFunc fn first cap).run Tryz.prog w=.ok (.func fn first cap) w:=fun _ _ _ _=>rfl
 have H1:=Lib.hid h1
 have H2:=Lib.hid h2
 have K1:=Lib.hid (show Ending.returned (.bool (rightB R C F n g))=.returned (.bool true) by rw [hr])
 have K2:=Lib.hid (show Ending.returned (.bool (rightB bR bC bF n h))=.returned (.bool true) by rw [hr2])
 have HP:=Lib.hid (show Ending.returned (.tuple #[.func (.func (valF k)) #[] #[],.func (.func (sloF k)) #[] #[],.bool (actB k)])=.returned (.tuple #[.func (.func Kv) #[] #[],.func (.func Ks) #[] #[],.bool true]) by rw [hv,hs,ha])
 have g1:((R:Int)==bR)=true:=by rw [k1];simp
 have g2:((R:Int) != bR)=false:=by rw [bne,g1];rfl
 have g3:((C:Int)==bC)=true:=by rw [k2];simp
 have g4:((C:Int) != bC)=false:=by rw [bne,g3];rfl
 have HK:Hid (∀ (b bz:Nat) (W:World),Reads ad n g W→BoxAt b (.func (.func Ks) #[] #[]) W→TenAt bz (.int .i64 R) (.int .i64 C) (.int .i64 F) (.slice ad n c) W→TurnsAB (.pointer (some ⟨b,0,none⟩)) (.pointer (some ⟨bz,0,none⟩)) n (fun i v=>mulV v (sloA k (widV F g i))) W):=Lib.hid fun b bz W q1 q2 q3=>aclosB_all k R C F ad n c g b bz Ks W ha hs hm q1 q2 q3
 clear h1 h2 hr hr2 hv hs ha k1 k2
 have HT:=Lib.hid ((ten_new w (.int .i64 R) (.int .i64 C) (.int .i64 F) (.slice ad n c) 24).grown (Grown.alloc (Grown.alloc (Grown.alloc (Grown.refl _) #[.int .i64 bR,.int .i64 bC,.int .i64 bF,.slice bd n cb] 24) #[.int .i64 0,.int .i64 0,.int .i64 0,.slice none 0 0] 24) #[.func (.func Ks) #[] #[]] 58))
 have HQ:=Lib.hid ((ten_new (w.alloc (.cells #[.int .i64 R,.int .i64 C,.int .i64 F,.slice ad n c] 24)) (.int .i64 bR) (.int .i64 bC) (.int .i64 bF) (.slice bd n cb) 24).grown (Grown.alloc (Grown.alloc (Grown.refl _) #[.int .i64 0,.int .i64 0,.int .i64 0,.slice none 0 0] 24) #[.func (.func Ks) #[] #[]] 58))
 have HT2:=Lib.hid ((ten_new ((w.alloc (.cells #[.int .i64 R,.int .i64 C,.int .i64 F,.slice ad n c] 24)).alloc (.cells #[.int .i64 bR,.int .i64 bC,.int .i64 bF,.slice bd n cb] 24)) (.int .i64 0) (.int .i64 0) (.int .i64 0) (.slice none 0 0) 24).grown (Grown.alloc (Grown.refl _) #[.func (.func Ks) #[] #[]] 58))
 have HX:=Lib.hid (box_new (((w.alloc (.cells #[.int .i64 R,.int .i64 C,.int .i64 F,.slice ad n c] 24)).alloc (.cells #[.int .i64 bR,.int .i64 bC,.int .i64 bF,.slice bd n cb] 24)).alloc (.cells #[.int .i64 0,.int .i64 0,.int .i64 0,.slice none 0 0] 24)) (.func (.func Ks) #[] #[]) 58)
 have HG:=Lib.hid (show Grown w ((((w.alloc (.cells #[.int .i64 R,.int .i64 C,.int .i64 F,.slice ad n c] 24)).alloc (.cells #[.int .i64 bR,.int .i64 bC,.int .i64 bF,.slice bd n cb] 24)).alloc (.cells #[.int .i64 0,.int .i64 0,.int .i64 0,.slice none 0 0] 24)).alloc (.cells #[.func (.func Ks) #[] #[]] 58)) from gr)
 simp only [World.size_alloc] at HQ HT2 HX
 go_enter Tryz.func19,Tryz.ntmps19
 go_wp2_with fail
 refine (aprog_any k _).mono ?_
 rintro e w' ⟨he,rfl⟩
 rw [HP.out] at he
 subst he
 go_wp2_with fail
 generalize (((w.alloc _).alloc _).alloc _).alloc _=W0 at HT HQ HT2 HX HG ⊢
 refine (tright_any _ _ _ _ _ _ g _ (by assumption) (H1.out.grown HG.out)).mono ?_
 rintro e W1 ⟨he,hW1⟩
 rw [K1.out] at he
 subst he
 replace HT:=Lib.hid (HT.out.grown hW1)
 replace HQ:=Lib.hid (HQ.out.grown hW1)
 replace HT2:=Lib.hid (HT2.out.grown hW1)
 replace HX:=Lib.hid (HX.out.grown hW1)
 replace HG:=Lib.hid (grown_trans HG.out hW1)
 clear hW1
 obtain ⟨p0,p1,p2,p3,p4,_,_,_,_⟩:=HT.out
 obtain ⟨q0,q1,q2,q3,q4,_,_,_,_⟩:=HQ.out
 obtain ⟨r0,r1,r2,r3,r4,_,_,_,_⟩:=HT2.out
 go_wp2_with fail
 refine (tright_any _ _ _ _ _ _ h _ (by assumption) (H2.out.grown HG.out)).mono ?_
 rintro e W1 ⟨he,hW1⟩
 rw [K2.out] at he
 subst he
 replace HT:=Lib.hid (HT.out.grown hW1)
 replace HQ:=Lib.hid (HQ.out.grown hW1)
 replace HT2:=Lib.hid (HT2.out.grown hW1)
 replace HX:=Lib.hid (HX.out.grown hW1)
 replace HG:=Lib.hid (grown_trans HG.out hW1)
 clear hW1
 clear p0 p1 p2 p3 p4 q0 q1 q2 q3 q4 r0 r1 r2 r3 r4
 obtain ⟨p0,p1,p2,p3,p4,_,_,_,_⟩:=HT.out
 obtain ⟨q0,q1,q2,q3,q4,_,_,_,_⟩:=HQ.out
 obtain ⟨r0,r1,r2,r3,r4,_,_,_,_⟩:=HT2.out
 go_wp2_with fail
 clear p0 p1 p2 p3 p4 q0 q1 q2 q3 q4 r0 r1 r2 r3 r4
 refine (aeachB_any bR bC bF bd n cb h (fun i v=>mulV v (sloA k (widV F g i))) _ _ _ hm (H2.out.grown HG.out) (HK.out _ _ _ (H1.out.grown HG.out) HX.out HT.out)).mono ?_
 show ∀ e w',TenN ⟨bR,bC,bF,n,bacV k F g bF h⟩ _ e w'→_
 rintro e W5 ⟨xd,xc,rfl,hO,hB,hW⟩
 dsimp only at hO hB ⊢
 have HF:=Lib.hid (hO.fresh.off HT2.out.lies)
 have HO:=Lib.hid (hO.back HG.out)
 have HB:=Lib.hid hB
 replace HT2:=Lib.hid (HT2.out.grown hW)
 replace HG:=Lib.hid (grown_trans HG.out hW)
 clear hW hO hB HT HX HQ HK
 obtain ⟨r0,r1,r2,r3,r4,_,_,_,_⟩:=HT2.out
 go_wp2
 (try simp only [Exit.inBlock,Exit.then])
 refine bodyPost_ret (v:=.tuple #[.agg #[.int .i64 bR,.int .i64 bC,.int .i64 bF,.slice xd n xc],.int .i64 0]) ?_ rfl ⟨_,_,rfl,?_,HB.out,hm,gr⟩
 ·rw [results_cell_tmp rfl]
  go_simp
 ·exact (((HO.out.set HF.out _).set HF.out _).set HF.out _).set HF.out _

theorem aback_any (k R C F bR bC bF:Int) (ad bd:Option Addr) (n c bn cb:Nat) (g h:Nat→Int) (w:World) (hn:n≤9223372036854775807) (hn':bn≤9223372036854775807) (h1:Reads ad n g w) (h2:Reads bd bn h w):
  Calls Tryz.prog 19 #[.int .i64 k,.agg #[.int .i64 R,.int .i64 C,.int .i64 F,.slice ad n c],.agg #[.int .i64 bR,.int .i64 bC,.int .i64 bF,.slice bd bn cb]] w (TenO (bacT k ⟨R,C,F,n,g⟩ ⟨bR,bC,bF,bn,h⟩) (bacX k ⟨R,C,F,n,g⟩ ⟨bR,bC,bF,bn,h⟩) w):=by
 unfold bacT bacX bacOk PT.right
 dsimp only
 cases hr:rightB R C F n g
 ·exact aback_bad1 k R C F bR bC bF ad bd n c bn cb g h w hn hn' h1 h2 hr
 ·cases hr2:rightB bR bC bF bn h
  ·exact aback_bad2 k R C F bR bC bF ad bd n c bn cb g h w hn hn' h1 h2 hr hr2
  ·by_cases hq:R=bR∧C=bC
   ·have hcq:(true&&true&&(R==bR&&C==bC))=true:=by simp [hq.1,hq.2]
    rw [hcq,if_pos (c:=true=true) rfl,if_pos (c:=true=true) rfl]
    cases ha:actB k
    ·exact aback_range k R C F bR bC bF ad bd n c bn cb g h w hn hn' h1 h2 hr hr2 hq.1 hq.2 ha
    ·obtain ⟨r,c',e1,e2,l1,l2,e3⟩:=right_nat (t:=⟨R,C,F,n,g⟩) hr
     obtain ⟨r',d',f1,f2,l3,l4,f3⟩:=right_nat (t:=⟨bR,bC,bF,bn,h⟩) hr2
     simp only at e1 e2 e3 f1 f2 f3
     obtain ⟨_,m2⟩:=wrap_mul r' d' bn l3 l4 f3.symm
     obtain ⟨hk1,hk2⟩:=hq
     have j1:r=r':=by omega
     have j2:c'=d':=by omega
     have hnn:n=bn:=by rw [e3,j1,j2,←f3]
     exact aback_good k R C F bR bC bF ad bd n c bn cb g h w hn hn' h1 h2 m2 hr hr2 hk1 hk2 hnn ha
   ·rw [if_neg (by simpa using hq),if_neg (by simpa using hq)]
    exact aback_bad3 k R C F bR bC bF ad bd n c bn cb g h w hn hn' h1 h2 hr hr2 hq
end Go.Proofs.YtpjpmmiepfoiaaaGreat
