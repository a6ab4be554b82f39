/- Activations, their slopes, masks as plain numbers. No program. -/
import Derived.Test.YtpjpmmiepfoiaaaGreatFunLand
import Derived.Test.YtpjpmmiepfoiaaaGreatPhiMath
import Derived.Test.YtpjpmmiepfoiaaaGreatRTen
namespace Go.Proofs.YtpjpmmiepfoiaaaGreat
open Go.RowKit
set_option linter.unusedVariables false
set_option linter.unusedSimpArgs false

def valA (k x:Int):Int:=if k=0 then x else if k=1 then (if nanB 2 x then 2143289344 else if lesB 2 0 x then x else 0) else if k=2 then tanI x else if k=3 then gelI x else 2143289344

def sloA (k x:Int):Int:=if k=0 then 1065353216 else if k=1 then (if lesB 2 0 x then 1065353216 else 0) else if k=2 then subV 1065353216 (mulV (tanI x) (tanI x)) else if k=3 then sloI x else 2143289344

def actB (k:Int):Bool:=decide (0≤k∧k≤3)

def forV (k F:Int) (g:Nat→Int) (i:Nat):Int:=conV 2 F 0 (valA k (widV F g i))

def forT (k:Int) (z:PT):PT:=if z.right then (if actB k then ⟨z.R,z.C,z.F,z.n,forV k z.F z.g⟩ else PT.bad) else PT.bad

def forX (k:Int) (z:PT):Int:=if z.right then (if actB k then 0 else 22) else 21

def bacV (k F:Int) (g:Nat→Int) (F':Int) (g':Nat→Int) (i:Nat):Int:=conV 2 F' 0 (mulV (widV F' g' i) (sloA k (widV F g i)))

def bacOk (z d:PT):Bool:=z.right&&d.right&&(z.R==d.R&&z.C==d.C)

def bacT (k:Int) (z d:PT):PT:=if bacOk z d then (if actB k then ⟨d.R,d.C,d.F,d.n,bacV k z.F z.g d.F d.g⟩ else PT.bad) else PT.bad

def bacX (k:Int) (z d:PT):Int:=if bacOk z d then (if actB k then 0 else 22) else 21

def kepV (drop:Int):Int:=divV (frmV 4294967296) (frmV (4294967296 - drop))

def masV (drop seed stream:Int) (i:Nat):Int:=if phWord seed stream i<drop then 0 else kepV drop

theorem mskw (f:Int):msk f≤4294967295:=by
 rcases fmt_cases f with ⟨rfl,hf⟩ | ⟨rfl,hf⟩ | ⟨⟨c0,c1⟩,hf⟩ <;> obtain ⟨e1,e2,e3,e4,e5,e6,e7,e8,e9⟩:=hf <;> omega

theorem valA_bd (k x:Int) (x0:0≤x) (x1:x≤4294967295):0≤valA k x∧valA k x≤4294967295:=by
 unfold valA
 split
 ·exact ⟨x0,x1⟩
 ·split
  ·(repeat' split) <;> omega
  ·split
   ·exact tan_word x x0 x1
   ·split
    ·unfold gelI
     split
     ·decide
     ·exact mulV_bd _ _
    ·decide

theorem sloA_bd (k x:Int):0≤sloA k x∧sloA k x≤4294967295:=by
 unfold sloA
 split
 ·decide
 ·split
  ·(repeat' split) <;> decide
  ·split
   ·obtain ⟨_,_,_,_,_,_,h0,h1⟩:=op_val (sub_shapeE 2 0 1065353216 (mulV (tanI x) (tanI x))) rfl
    exact ⟨h0,h1⟩
   ·split
    ·unfold sloI
     split
     ·decide
     ·exact fmaV_bd _ _ _
    ·decide

theorem kepV_bd (drop:Int):0≤kepV drop∧kepV drop≤4294967295:=by
 unfold kepV
 obtain ⟨_,_,_,_,_,_,h0,h1⟩:=op_val (div_shape 2 0 (frmV 4294967296) (frmV (4294967296 - drop))) rfl
 exact ⟨h0,h1⟩

def masT (R C drop seed stream:Int):PT:=⟨newR R C,newC R C,2,(newR R C).toNat*(newC R C).toNat,masV drop seed stream⟩

def TenM (t:PT) (w:World) (e:Ending) (w':World):Prop:=
 ∃ (ad:Option Addr) (c:Nat),e=.returned (.agg #[.int .i64 t.R,.int .i64 t.C,.int .i64 t.F,.slice ad t.n c])∧Reads ad t.n t.g w'∧t.n≤16777216∧Grown w w'

structure MaS (w:World) (ob b n:Nat) (v0 v1 v2 v3:Value) (h:Nat→Int) (W:World):Prop where
 g:Grown w W
 t1:TenAt w.heap.size (.int .i64 0) (.int .i64 0) (.int .i64 0) (.slice none 0 0) W
 t2:TenAt ob v0 v1 v2 v3 W
 r:Rowed b n h W
 n1:w.heap.size≠b
 n2:ob≠b
 n3:ob≠w.heap.size
 s:w.heap.size≤b

theorem MaS.grown {w:World} {ob b n:Nat} {v0 v1 v2 v3:Value} {h:Nat→Int} {W W':World} (s:MaS w ob b n v0 v1 v2 v3 h W) (g:Grown W W'):MaS w ob b n v0 v1 v2 v3 h W':=
 ⟨grown_trans s.g g,s.t1.grown g,s.t2.grown g,s.r.grown g,s.n1,s.n2,s.n3,s.s⟩

theorem MaS.set {w:World} {ob b n:Nat} {v0 v1 v2 v3:Value} {h h':Nat→Int} {W:World} (s:MaS w ob b n v0 v1 v2 v3 h W) {j:Nat} {v:Int} (e1:h' j=v) (e2:∀ t,t≠j→h' t=h t):MaS w ob b n v0 v1 v2 v3 h' (W.setCell ⟨b,j,none⟩ (.int .u32 v)):=
 ⟨Grown.setCell s.g s.s _,s.t1.set s.n1 _,s.t2.set s.n2 _,s.r.set e1 e2,s.n1,s.n2,s.n3,s.s⟩

theorem MaS.congr {w:World} {ob b n:Nat} {v0 v1 v2 v3:Value} {h h':Nat→Int} {W:World} (s:MaS w ob b n v0 v1 v2 v3 h W) (e:∀ t,t<n→h' t=h t):MaS w ob b n v0 v1 v2 v3 h' W:=
 ⟨s.g,s.t1,s.t2,s.r.congr e,s.n1,s.n2,s.n3,s.s⟩

theorem mil_lea (f k:Int) (h0:0≤k):milI f k≤msk f:=by
 by_cases c:milI f k=0
 ·rw [c]
  rcases fmt_cases f with ⟨rfl,hf⟩ | ⟨rfl,hf⟩ | ⟨⟨c0,c1⟩,hf⟩ <;> obtain ⟨e1,e2,e3,e4,e5,e6,e7,e8,e9⟩:=hf <;> omega
 ·exact (mil_norm f k h0 c).2.1

theorem kind_five (k:Int):k=0∨k=1∨k=2∨k=3∨(k≠0∧k≠1∧k≠2∧k≠3):=by omega

theorem read_at {b off n:Nat} {g:Nat→Int} {W:World} (h:Reads (some ⟨b,off,none⟩) n g W) {i:Nat} (hi:i<n):b<W.heap.size∧W.cell? ⟨b,off+i,none⟩=some (.int .u32 (g i)):=by
 rcases h.2 with h0 | ⟨b',o',e,hl,hc⟩
 ·omega
 ·cases e
  exact ⟨hl,hc i hi⟩

theorem new_small (R C:Int):(newR R C).toNat*(newC R C).toNat≤16777216:=by
 obtain ⟨r,hr,lr⟩:=clamp_nat R
 obtain ⟨c,hc,lc⟩:=clamp_nat C
 have h1:r*c≤4096*4096:=Nat.mul_le_mul lr lc
 unfold newR newC
 cases newB R C
 ·simp [hr,hc];omega
 ·simp
end Go.Proofs.YtpjpmmiepfoiaaaGreat
