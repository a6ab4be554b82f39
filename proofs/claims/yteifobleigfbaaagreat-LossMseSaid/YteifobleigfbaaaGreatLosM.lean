/- Losses, ways down, right rows as plain numbers; lists of whole numbers. No program. (Written by gen63.py.) -/
import Derived.Test.YteifobleigfbaaaGreatFunLand
import Derived.Test.YteifobleigfbaaaGreatRTen
namespace Go.Proofs.YteifobleigfbaaaGreat
open Go.RowKit
set_option linter.unusedVariables false
set_option linter.unusedSimpArgs false

def ReadsI (ad:Option Addr) (n:Nat) (y:Nat→Int) (W:World):Prop:=
 (∀ i,i<n→-9223372036854775808≤y i∧y i≤9223372036854775807)∧(n=0∨∃ b off,ad=some ⟨b,off,none⟩∧b<W.heap.size∧∀ i,i<n→W.cell? ⟨b,off+i,none⟩=some (.int .i64 (y i)))

theorem ReadsI.grown {ad:Option Addr} {n:Nat} {y:Nat→Int} {W W':World} (h:ReadsI ad n y W) (k:Grown W W'):ReadsI ad n y W':=by
 obtain ⟨hb,h⟩:=h
 refine ⟨hb,?_⟩
 rcases h with h | ⟨b,off,e,hl,hc⟩
 ·exact .inl h
 ·exact .inr ⟨b,off,e,Nat.lt_of_lt_of_le hl k.2.2,fun i hi=>grown_cell k (hc i hi) hl⟩

theorem readi_at {ad:Option Addr} {n:Nat} {y:Nat→Int} {W:World} (h:ReadsI ad n y W) {i:Nat} (hi:i<n):∃ b off,ad=some ⟨b,off,none⟩∧b<W.heap.size∧∀ i,i<n→W.cell? ⟨b,off+i,none⟩=some (.int .i64 (y i)):=by
 rcases h.2 with h | h
 ·exact absurd h (Nat.ne_of_gt (Nat.lt_of_le_of_lt (Nat.zero_le _) hi))
 ·exact h

def Stay.ri (ad:Option Addr) (n:Nat) (y:Nat→Int):Stay:=⟨ReadsI ad n y,fun h k=>h.grown k⟩

theorem Lot.ri {fs:List Stay} {W:World} (h:Lot fs W) (i:Nat) {ad:Option Addr} {n:Nat} {y:Nat→Int} (e:fs[i]?=some (Stay.ri ad n y)):ReadsI ad n y W:=h.at i e

def labB (t:PT) (n:Nat):Bool:=t.right&&(t.R==(n:Int)&&!(decide (0<t.R)&&t.C==0))

def labI (C:Int) (n:Nat) (y:Nat→Int):Bool:=allB n (fun i=>decide (0≤y i∧y i<C))

def labX (t:PT) (n:Nat) (y:Nat→Int):Int:=if labB t n then (if labI t.C n y then 0 else 22) else 21

def maxW (u:Nat→Int):Nat→Int
 | 0=>u 0
 | k+1=>maxO 2 (maxW u k) (u (k+1))

def sfE (u:Nat→Int) (m:Int) (j:Nat):Int:=expI (subV (u j) m)

def sumW (e:Nat→Int):Nat→Int
 | 0=>0
 | k+1=>addV (sumW e k) (e k)

def rowU (t:PT) (r:Nat) (j:Nat):Int:=widV t.F t.g (r*t.C.toNat+j)

def sfM (t:PT) (r:Nat):Int:=maxW (rowU t r) (t.C.toNat - 1)

def sfS (t:PT) (r:Nat):Int:=sumW (sfE (rowU t r) (sfM t r)) t.C.toNat

def sfL (t:PT) (y:Nat→Int) (r:Nat):Int:=subV (logI (sfS t r)) (subV (rowU t r (y r).toNat) (sfM t r))

def sfT (t:PT) (y:Nat→Int):Nat→Int
 | 0=>0
 | r+1=>addV (sfT t y r) (sfL t y r)

def sfO (t:PT) (y:Nat→Int) (r c:Nat):Int:=divV (subV (divV (sfE (rowU t r) (sfM t r) c) (sfS t r)) (if (c:Int)=y r then 1065353216 else 0)) (frmV t.R)

def sofT (t:PT) (n:Nat) (y:Nat→Int):PT:=if labX t n y=0 then ⟨t.R,t.C,2,t.n,fun i=>sfO t y (i / t.C.toNat) (i%t.C.toNat)⟩ else PT.bad

def sofV (t:PT) (n:Nat) (y:Nat→Int):Int:=if labX t n y=0 then (if t.R=0 then 0 else divV (sfT t y t.R.toNat) (frmV t.R)) else 0

def msD (z t:PT) (i:Nat):Int:=subV (widV z.F z.g i) (widV t.F t.g i)

def msS (z t:PT):Nat→Int
 | 0=>0
 | k+1=>fmaV (msD z t k) (msD z t k) (msS z t k)

def msB (z t:PT):Bool:=z.right&&t.right&&(z.R==t.R&&z.C==t.C)

def mseX (z t:PT):Int:=if msB z t then 0 else 21

def mseT (z t:PT):PT:=if msB z t then ⟨z.R,z.C,2,z.n,fun i=>divV (addV (msD z t i) (msD z t i)) (frmV z.n)⟩ else PT.bad

def mseV (z t:PT):Int:=if msB z t then (if z.R=0 then 0 else divV (msS z t z.n) (frmV z.n)) else 0

def firS (u:Nat→Int) (lab:Int) (c:Nat):Bool:=!((decide ((c:Int)<lab)&&!lesB 2 (u c) (u lab.toNat)) || (decide (lab<(c:Int))&&lesB 2 (u lab.toNat) (u c)))

def firB (u:Nat→Int) (n:Nat) (lab:Int):Bool:=allB n (firS u lab)

theorem fir_all {u:Nat→Int} {n:Nat} {lab:Int} (h:∀ j,j<n→firS u lab j=true):firB u n lab=true:=allB_yes h

theorem fir_not {u:Nat→Int} {n k:Nat} {lab:Int} (hk:k<n) (h:firS u lab k=false):firB u n lab=false:=allB_no hk h

theorem fir_next {u:Nat→Int} {k:Nat} {lab:Int} (h:∀ j,j<k→firS u lab j=true) (e:firS u lab k=true):∀ j,j<k+1→firS u lab j=true:=fun j hj=>by
 by_cases c:j=k
 ·rw [c];exact e
 ·exact h j (by omega)

def rgB (t:PT) (y:Nat→Int) (r:Nat):Bool:=firB (rowU t r) t.C.toNat (y r)

def rgN (t:PT) (y:Nat→Int):Nat→Int
 | 0=>0
 | r+1=>rgN t y r+(if rgB t y r then 1 else 0)

def rgtN (t:PT) (n:Nat) (y:Nat→Int):Int:=if labX t n y=0 then rgN t y t.R.toNat else 0

/-! A call that writes into one old block. No program. -/
structure Far (b:Nat) (W W':World):Prop where
 size:W.heap.size≤W'.heap.size
 cell:∀ c off v,c≠b→c<W.heap.size→W.cell? ⟨c,off,none⟩=some v→W'.cell? ⟨c,off,none⟩=some v
 free:∀ a,W'.frozen? a=W.frozen? a
 back:∀ w,Grown w W→w.heap.size≤b→Grown w W'

theorem Far.refl (b:Nat) (W:World):Far b W W:=⟨Nat.le_refl _,fun _ _ _ _ _ h=>h,fun _=>rfl,fun _ h _=>h⟩

theorem Far.grown {b:Nat} {W W1 W2:World} (h:Far b W W1) (g:Grown W1 W2):Far b W W2:=
 ⟨Nat.le_trans h.size g.2.2,fun c off v hc hl e=>grown_cell g (h.cell c off v hc hl e) (Nat.lt_of_lt_of_le hl h.size),fun a=>(g.2.1 a).trans (h.free a),fun w k hb=>grown_trans (h.back w k hb) g⟩

theorem Far.set {b:Nat} {W W1:World} (h:Far b W W1) (j:Nat) (v:Value):Far b W (W1.setCell ⟨b,j,none⟩ v):=
 ⟨by simpa [World.setCell] using h.size,fun c off u hc hl e=>(World.cell?_of_block (w:=W1) (Below.heap_setCell _ _ _ _ hc)).trans (h.cell c off u hc hl e),fun a=>(World.frozen?_setCell _ _ _ _).trans (h.free a),fun w k hb=>Grown.setCell (h.back w k hb) hb _⟩

theorem Far.trans {b:Nat} {W W1 W2:World} (h:Far b W W1) (k:Far b W1 W2):Far b W W2:=
 ⟨Nat.le_trans h.size k.size,fun c off v hc hl e=>k.cell c off v hc (Nat.lt_of_lt_of_le hl h.size) (h.cell c off v hc hl e),fun a=>(k.free a).trans (h.free a),fun w g hb=>k.back w (h.back w g hb) hb⟩

theorem TenAt.away {b c:Nat} {v0 v1 v2 v3:Value} {W W':World} (h:TenAt c v0 v1 v2 v3 W) (k:Far b W W') (hc:c≠b):TenAt c v0 v1 v2 v3 W':=
 ⟨Nat.lt_of_lt_of_le h.lies k.size,k.cell c _ _ hc h.lies h.c0,k.cell c _ _ hc h.lies h.c1,k.cell c _ _ hc h.lies h.c2,k.cell c _ _ hc h.lies h.c3,by rw [k.free];exact h.z0,by rw [k.free];exact h.z1,by rw [k.free];exact h.z2,by rw [k.free];exact h.z3⟩

def upd (h:Nat→Int) (L K:Nat) (q:Nat→Int) (t:Nat):Int:=if L≤t∧t<L+K then q (t - L) else h t

theorem upd_none (h:Nat→Int) (L:Nat) (q:Nat→Int) (t:Nat):upd h L 0 q t=h t:=if_neg (by omega)

theorem upd_here (h:Nat→Int) (L K:Nat) (q:Nat→Int) (j:Nat) (hj:j<K):upd h L K q (L+j)=q j:=by
 unfold upd
 rw [if_pos (by omega),show L+j - L=j by omega]

theorem upd_next (h:Nat→Int) (L K:Nat) (q:Nat→Int) (t:Nat) (ht:t≠L+K):upd h L (K+1) q t=upd h L K q t:=by
 unfold upd
 by_cases c:L≤t∧t<L+K
 ·rw [if_pos c,if_pos (by omega)]
 ·rw [if_neg c,if_neg (by omega)]

theorem upd_past (h:Nat→Int) (L K:Nat) (q:Nat→Int) (j:Nat) (hj:K≤j):upd h L K q (L+j)=h (L+j):=if_neg (by omega)

theorem upd_twice (h:Nat→Int) (L K:Nat) (q p:Nat→Int) (t:Nat):upd (upd h L K q) L K p t=upd h L K p t:=by
 unfold upd
 by_cases c:L≤t∧t<L+K
 ·rw [if_pos c,if_pos c]
 ·rw [if_neg c,if_neg c,if_neg c]

def rowM (u:Nat→Int) (k:Nat):Int:=maxW u (k - 1)

def rowS (u:Nat→Int) (k:Nat):Int:=sumW (sfE u (rowM u k)) k

def rowL (u:Nat→Int) (k:Nat) (lab:Int):Int:=subV (logI (rowS u k)) (subV (u lab.toNat) (rowM u k))

def rowO (u:Nat→Int) (k:Nat) (lab m:Int) (j:Nat):Int:=divV (subV (divV (sfE u (rowM u k) j) (rowS u k)) (if (j:Int)=lab then 1065353216 else 0)) m

theorem sfe_bd (u:Nat→Int) (m:Int) (j:Nat):0≤sfE u m j∧sfE u m j≤4294967295:=by
 obtain ⟨_,_,_,_,_,_,h0,h1⟩:=op_val (sub_shapeE 2 0 (u j) m) rfl
 exact exp_word _ h0 h1

theorem sumW_bd (e:Nat→Int) (k:Nat):0≤sumW e k∧sumW e k≤4294967295:=by
 cases k with
 | zero=>exact ⟨Int.le_refl _,by show (0:Int)≤4294967295;decide⟩
 | succ k=>exact addV_bd _ _

def LosE (v:Int) (t:PT) (E:Int) (w:World) (e:Ending) (w':World):Prop:=
 ∃ (ad:Option Addr) (c:Nat),e=.returned (.tuple #[.int .u32 v,.agg #[.int .i64 t.R,.int .i64 t.C,.int .i64 t.F,.slice ad t.n c],.int .i64 E])∧Reads ad t.n t.g w'∧t.n≤16777216∧Fresh ad w∧Grown w w'

theorem results_three {fn:Func} {p u v:Tmp} {ty:TypeId} (h:fn.results=#[.tmp u,.cell p ty,.tmp v]) (tmps:Array Value) (P:Program) (w:World):
  (results fn tmps).run P w=
   ((asAddr (tmps.getD p undef)).run P w).andThen fun a w₁=>((loadVar ty a).run P w₁).andThen fun x w₂=>.ok (.tuple #[tmps.getD u undef,x,tmps.getD v undef]) w₂:=by
 simp only [results,h]
 simp [Sem.run_bind,Result.andThen]

structure SoS (w:World) (b n:Nat) (t0 t1 t2 t3:Value) (h:Nat→Int) (W:World):Prop where
 g:Grown w W
 t1:TenAt w.heap.size t0 t1 t2 t3 W
 t2:TenAt (w.heap.size+1) (.int .i64 0) (.int .i64 0) (.int .i64 0) (.slice none 0 0) W
 r:Rowed b n h W
 o:w.heap.size+1<b

theorem SoS.grown {w:World} {b n:Nat} {t0 t1 t2 t3:Value} {h:Nat→Int} {W W':World} (s:SoS w b n t0 t1 t2 t3 h W) (g:Grown W W'):SoS w b n t0 t1 t2 t3 h W':=⟨grown_trans s.g g,s.t1.grown g,s.t2.grown g,s.r.grown g,s.o⟩

theorem SoS.away {w:World} {b n:Nat} {t0 t1 t2 t3:Value} {h h':Nat→Int} {W W':World} (s:SoS w b n t0 t1 t2 t3 h W) (f:Far b W W') (r:Rowed b n h' W'):SoS w b n t0 t1 t2 t3 h' W':=
 ⟨f.back w s.g (by have:=s.o;omega),s.t1.away f (by have:=s.o;omega),s.t2.away f (by have:=s.o;omega),r,s.o⟩

theorem SoS.like {w:World} {b n:Nat} {t0 t1 t2 t3:Value} {h h':Nat→Int} {W:World} (s:SoS w b n t0 t1 t2 t3 h W) (e:∀ t,t<n→h' t=h t):SoS w b n t0 t1 t2 t3 h' W:=⟨s.g,s.t1,s.t2,s.r.congr e,s.o⟩

def rowsH (G q:Nat→Int) (C r:Nat) (t:Nat):Int:=if t<r*C then G t else q t

theorem rows_next {G q o:Nat→Int} {C r:Nat} (hG:∀ j,j<C→G (r*C+j)=o j) (t:Nat):rowsH G q C (r+1) t=upd (rowsH G q C r) (r*C) C o t:=by
 show (if t<(r+1)*C then G t else q t)=if r*C≤t∧t<r*C+C then o (t - r*C) else (if t<r*C then G t else q t)
 rw [Nat.add_mul,Nat.one_mul]
 by_cases c:t<r*C
 ·rw [if_pos (by omega),if_neg (by omega),if_pos c]
 ·by_cases d:t<r*C+C
  ·rw [if_pos d,if_pos ⟨by omega,d⟩,←hG (t - r*C) (by omega),show r*C+(t - r*C)=t by omega]
  ·rw [if_neg d,if_neg (by omega),if_neg c]

theorem sfO_row (R C F:Int) (n:Nat) (g y:Nat→Int) (c r j:Nat) (hc:C=(c:Int)) (hj:j<c):
  sfO ⟨R,C,F,n,g⟩ y ((r*c+j) / C.toNat) ((r*c+j)%C.toNat)=rowO (rowU ⟨R,C,F,n,g⟩ r) c (y r) (frmV R) j:=by
 subst hc
 rw [Int.toNat_natCast,(ix_back r j c hj).1,(ix_back r j c hj).2]
 rfl

theorem row_in {r R C:Nat} (h:r<R):r*C+C≤R*C:=by
 have:=Nat.mul_le_mul_right C (show r+1≤R by omega)
 rwa [Nat.add_mul,Nat.one_mul] at this

theorem lab_yes {t:PT} {n:Nat} (h:labB t n=true):t.right=true∧t.R=(n:Int)∧(t.R≤0∨t.C≠0):=by
 unfold labB at h
 simp only [Bool.and_eq_true,beq_iff_eq,Bool.not_eq_true',Bool.and_eq_false_iff,decide_eq_false_iff_not,beq_eq_false_iff_ne] at h
 exact ⟨h.1,h.2.1,h.2.2.imp (fun x=>by omega) id⟩

theorem lab_next {C:Int} {k:Nat} {y:Nat→Int} (h:∀ j,j<k→0≤y j∧y j<C) {x:Int} (e:y k=x) (h0:0≤x) (h1:x<C):∀ j,j<k+1→0≤y j∧y j<C:=fun j hj=>by
 by_cases c:j=k
 ·subst c;omega
 ·exact h j (by omega)

theorem lab_all {C:Int} {k:Nat} {y:Nat→Int} (h:∀ j,j<k→0≤y j∧y j<C):labI C k y=true:=allB_yes fun i hi=>decide_eq_true (h i hi)

theorem lab_not {C:Int} {n k:Nat} {y:Nat→Int} (hk:k<n) {x:Int} (e:y k=x) (h:¬(0≤x∧x<C)):labI C n y=false:=allB_no hk (by rw [e];exact decide_eq_false h)

theorem max_word (a b:Int) (a0:0≤a) (a1:a≤4294967295) (b0:0≤b) (b1:b≤4294967295):0≤maxO 2 a b∧maxO 2 a b≤4294967295:=by
 have e:msk 2=4294967295:=by decide
 obtain ⟨-,-,h⟩:=pick_bd 2 a b a0 (by omega) b0 (by omega)
 exact h

theorem maxW_bd (u : Nat → Int) (n : Nat) (hu : ∀ j, j ≤ n → 0 ≤ u j ∧ u j ≤ 4294967295) : 0 ≤ maxW u n ∧ maxW u n ≤ 4294967295 := by
  induction n with
  | zero => exact hu 0 (Nat.le_refl _)
  | succ n ih =>
    obtain ⟨h0, h1⟩ := ih fun j hj => hu j (by omega)
    obtain ⟨g0, g1⟩ := hu (n + 1) (Nat.le_refl _)
    exact max_word _ _ h0 h1 g0 g1

theorem reads_row {b off n:Nat} {u:Nat→Int} {W:World} (h:Reads (some ⟨b,off,none⟩) n u W) (h0:0<n):(∀ i,i<n→0≤u i∧u i≤4294967295)∧b<W.heap.size∧∀ i,i<n→W.cell? ⟨b,off+i,none⟩=some (.int .u32 (u i)):=by
 obtain ⟨hb,h⟩:=h
 rcases h with h | ⟨b',off',e,hl,hc⟩
 ·omega
 ·cases e
  exact ⟨hb,hl,hc⟩

theorem cmp_flip (a b:Int):cmpC 2 a b=-cmpC 2 b a:=by
 unfold cmpC
 rw [Bool.or_comm (nanB 2 b),Bool.and_comm (nouB 2 b)]
 (repeat' split) <;> omega

theorem les_cmp (a b:Int):lesB 2 a b=decide (cmpC 2 a b<0):=by
 unfold lesB cmpO cmpC
 cases nanB 2 a <;> cases nanB 2 b <;> simp

theorem fir_side (a b:Int):decide (0<cmpC 2 a b)=lesB 2 b a:=by
 rw [les_cmp,cmp_flip a b,Bool.eq_iff_iff,decide_eq_true_eq,decide_eq_true_eq]
 omega

theorem lab_zero {t:PT} {n:Nat} {y:Nat→Int} (h:labX t n y=0):t.right=true∧t.R=(n:Int)∧(t.R≤0∨t.C≠0)∧∀ i,i<n→0≤y i∧y i<t.C:=by
 unfold labX at h
 by_cases c:labB t n=true
 ·rw [if_pos c] at h
  obtain ⟨h1,h2,h3⟩:=lab_yes c
  by_cases d:labI t.C n y=true
  ·exact ⟨h1,h2,h3,fun i hi=>of_decide_eq_true (allB_of d hi)⟩
  ·rw [if_neg d] at h
   exact absurd h (by decide)
 ·rw [if_neg c] at h
  exact absurd h (by decide)

theorem rgN_bd (t : PT) (y : Nat → Int) (r : Nat) : 0 ≤ rgN t y r ∧ rgN t y r ≤ r := by
  induction r with
  | zero => exact ⟨Int.le_refl _, Int.le_refl _⟩
  | succ r ih =>
    obtain ⟨h0, h1⟩ := ih
    show 0 ≤ rgN t y r + (if rgB t y r then 1 else 0) ∧ rgN t y r + (if rgB t y r then 1 else 0) ≤ ((r + 1 : Nat) : Int)
    split <;> omega

theorem msb_yes {z t:PT} (h:msB z t=true):z.right=true∧t.right=true∧z.R=t.R∧z.C=t.C:=by
 unfold msB at h
 simp only [Bool.and_eq_true,beq_iff_eq] at h
 exact ⟨h.1.1,h.1.2,h.2.1,h.2.2⟩
end Go.Proofs.YteifobleigfbaaaGreat
