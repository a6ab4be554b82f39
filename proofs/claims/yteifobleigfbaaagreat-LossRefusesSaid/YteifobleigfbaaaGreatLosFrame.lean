/- Lists of whole numbers that came in. (Written by gen69.py.) -/
import Derived.Test.YteifobleigfbaaaGreatFrame
import Derived.Test.YteifobleigfbaaaGreatLosM
namespace Go.Proofs.YteifobleigfbaaaGreat
open Go Go.ChangeShapes Go.WideShapes Go.ChangeAt Go.RowKit Go.Joins Go.Deep
set_option linter.unusedVariables false
set_option linter.unusedSimpArgs false

def IntsIn (v:Value) (W:World):Prop:=∃ (ad:Option Addr) (n c:Nat) (g:Nat→Int),v=.slice ad n c∧n≤9223372036854775807∧n≤c∧(ad=none→c=0)∧ReadsI ad n g W

theorem ints_in {H:Type} {enc:TypeId × Value→H} {P:Program} {t e:TypeId} {fuel:Nat} {W:World} {v:Value} {x:DataW H × List MemPlace} (ht:P.underlying t=some (.slice e)) (he:P.underlying e=some (.int .i64)) (hc:P.cellsOf e=1)
  (h:DataW.trod enc P W 0 (fun _=>true) true fuel t [v]=some x):IntsIn v W:=by
 rcases open_ints ht he hc h with ⟨h1,_⟩ | ⟨a,len,cap,zs,h1,_,hlc,hm,hz,_,hcell,hwf⟩
 ·simp at h1
  subst h1
  exact ⟨none,0,0,fun _=>0,rfl,by decide,Nat.le_refl _,fun _=>rfl,⟨fun i hi=>absurd hi (Nat.not_lt_zero i),.inl rfl⟩⟩
 ·simp at h1
  subst h1
  simp only [if_true] at hz
  unfold maxLen at hm
  refine ⟨some a,len,cap,fun i=>zs.getD i 0,rfl,by omega,hlc,(fun h=>by cases h),fun i hi=>?_,?_⟩
  ·have:zs.getD i 0 ∈ zs:=by
    rw [List.getD_eq_getElem?_getD,List.getElem?_eq_getElem (by omega)]
    exact List.getElem_mem _
   exact bounds_i64 (hwf _ this)
  ·by_cases h0:len=0
   ·exact .inl h0
   ·have c0:=hcell 0 (by omega)
    have hs:=World.cell?_spot c0
    rw [show a.add 0=a by simp [Addr.add]] at hs c0
    obtain ⟨b,off,sp⟩:=a
    simp only at hs
    subst hs
    exact .inr ⟨b,off,rfl,World.block_lt_of_cell? _ _ c0,fun i hi=>by rw [←Addr.add_lit];exact hcell i (by omega)⟩
end Go.Proofs.YteifobleigfbaaaGreat
