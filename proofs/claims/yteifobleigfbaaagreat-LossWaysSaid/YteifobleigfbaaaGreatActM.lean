/- Activations, their slopes, masks as plain numbers. No program. -/
import Derived.Test.YteifobleigfbaaaGreatFunLand
import Derived.Test.YteifobleigfbaaaGreatMath
import Derived.Handy
import Derived.OpenShut
import Derived.Test.YteifobleigfbaaaGreatRTen
namespace Go.Proofs.YteifobleigfbaaaGreat
open Go.RowKit
set_option linter.unusedVariables false
set_option linter.unusedSimpArgs false

structure MaS (w:World) (ob b n:Nat) (v0 v1 v2 v3:Value) (h:Nat→Int) (W:World):Prop where
 g:Grown w W
 t1:TenAt w.heap.size (.int .i64 0) (.int .i64 0) (.int .i64 0) (.slice none 0 0) W
 t2:TenAt ob v0 v1 v2 v3 W
 r:Rowed b n h W
 n1:w.heap.size≠b
 n2:ob≠b
 n3:ob≠w.heap.size
 s:w.heap.size≤b

theorem MaS.grown {w:World} {ob b n:Nat} {v0 v1 v2 v3:Value} {h:Nat→Int} {W W':World} (s:MaS w ob b n v0 v1 v2 v3 h W) (g:Grown W W'):MaS w ob b n v0 v1 v2 v3 h W':=
 ⟨grown_trans s.g g,s.t1.grown g,s.t2.grown g,s.r.grown g,s.n1,s.n2,s.n3,s.s⟩

theorem MaS.set {w:World} {ob b n:Nat} {v0 v1 v2 v3:Value} {h h':Nat→Int} {W:World} (s:MaS w ob b n v0 v1 v2 v3 h W) {j:Nat} {v:Int} (e1:h' j=v) (e2:∀ t,t≠j→h' t=h t):MaS w ob b n v0 v1 v2 v3 h' (W.setCell ⟨b,j,none⟩ (.int .u32 v)):=
 ⟨Grown.setCell s.g s.s _,s.t1.set s.n1 _,s.t2.set s.n2 _,s.r.set e1 e2,s.n1,s.n2,s.n3,s.s⟩

theorem MaS.congr {w:World} {ob b n:Nat} {v0 v1 v2 v3:Value} {h h':Nat→Int} {W:World} (s:MaS w ob b n v0 v1 v2 v3 h W) (e:∀ t,t<n→h' t=h t):MaS w ob b n v0 v1 v2 v3 h' W:=
 ⟨s.g,s.t1,s.t2,s.r.congr e,s.n1,s.n2,s.n3,s.s⟩

theorem mil_lea (f k:Int) (h0:0≤k):milI f k≤msk f:=by
 by_cases c:milI f k=0
 ·rw [c]
  rcases fmt_cases f with ⟨rfl,hf⟩ | ⟨rfl,hf⟩ | ⟨⟨c0,c1⟩,hf⟩ <;> obtain ⟨e1,e2,e3,e4,e5,e6,e7,e8,e9⟩:=hf <;> omega
 ·exact (mil_norm f k h0 c).2.1

theorem read_at {b off n:Nat} {g:Nat→Int} {W:World} (h:Reads (some ⟨b,off,none⟩) n g W) {i:Nat} (hi:i<n):b<W.heap.size∧W.cell? ⟨b,off+i,none⟩=some (.int .u32 (g i)):=by
 rcases h.2 with h0 | ⟨b',o',e,hl,hc⟩
 ·omega
 ·cases e
  exact ⟨hl,hc i hi⟩
end Go.Proofs.YteifobleigfbaaaGreat
