/- The contracts of annealhelp: numbers, tensors held against one another. The frames of laws whose parameters are lists of numbers, tensors: taken apart; and that behind the call all reads as before. -/
import Derived.Test.YteifobleigfbaaaGreatWorld
import Derived.Test.YteifobleigfbaaaGreatChecked
import Derived.Lib.Hide
import Derived.Handy
import Derived.WalkKit
import Derived.BigRegion
import Derived.ProofKit
import Derived.OpenShut
import Derived.Carry
import Derived.ChangeSlices
import Derived.Lib.SmallJoins
namespace Go.Proofs.YteifobleigfbaaaGreat
open Go.RowKit
set_option linter.unusedVariables false
set_option linter.unusedSimpArgs false
open Go Go.ChangeShapes Go.WideShapes Go.ChangeAt Go.RowKit Go.Joins Go.Deep

theorem hnums_nil (ad ad':Option Addr) (c c':Nat) (w:World):
  Calls Tryz.prog 41 #[.slice ad 0 c,.slice ad' 0 c'] w fun e w'=>e=.returned (.bool true)∧w'=w:=by
 go_enter Tryz.func41,Tryz.ntmps41
 go_wp2
 refine wp_loop_rounds 1 ?_
 rw [rounds_succ]
 go_wp2
 go_ret
 exact ⟨rfl,rfl⟩

theorem hnums_some (b off b' off' c c' n:Nat) (g:Nat→Int) (w:World) (hn:n≤9223372036854775807)
  (hc:∀ i,i<n→w.cell? ⟨b,off+i,none⟩=some (.int .u32 (g i))) (hc':∀ i,i<n→w.cell? ⟨b',off'+i,none⟩=some (.int .u32 (g i))):
  Calls Tryz.prog 41 #[.slice (some ⟨b,off,none⟩) n c,.slice (some ⟨b',off',none⟩) n c'] w fun e w'=>e=.returned (.bool true)∧∃ m,w'=w.drewN m:=by
 have H:=Lib.hid hc
 have H':=Lib.hid hc'
 clear hc hc'
 go_enter Tryz.func41,Tryz.ntmps41
 go_wp2
 go_loopw [5] (fun i wr=>∃ k m:Nat,k≤n∧i=.int .i64 k∧wr=w.drewN m) (fun i _=>n - (intOf i).toNat)
 case atStart=>exact ⟨0,0,Nat.zero_le _,rfl,rfl⟩
 case round=>
  obtain ⟨k,m,hk,rfl,rfl⟩:=hrel
  by_cases hlt:k<n
  ·have y0:w.cell? ⟨b,off+k,none⟩=some (.int .u32 (g k)):=H.out k hlt
   have y1:w.cell? ⟨b',off'+k,none⟩=some (.int .u32 (g k)):=H'.out k hlt
   go_wp2
   go_region
   go_wp2
   go_roundw
   case rel=>exact ⟨k+1,m+1,by omega,by go_num,rfl⟩
   case measure=>simp [intOf];omega
  ·go_wp2
   go_ret
   exact ⟨rfl,m,rfl⟩

theorem hnums_any (ad ad':Option Addr) (n c c':Nat) (g:Nat→Int) (w:World) (hn:n≤9223372036854775807) (h:Reads ad n g w) (h':Reads ad' n g w):
  Calls Tryz.prog 41 #[.slice ad n c,.slice ad' n c'] w fun e w'=>e=.returned (.bool true)∧∃ m,w'=w.drewN m:=by
 rcases h.2 with rfl | ⟨b,off,rfl,hl,hc⟩
 ·exact (hnums_nil ad ad' c c' w).mono fun _ _ ⟨he,hw⟩=>⟨he,0,hw⟩
 ·rcases h'.2 with rfl | ⟨b',off',rfl,hl',hc'⟩
  ·exact (hnums_nil _ _ c c' w).mono fun _ _ ⟨he,hw⟩=>⟨he,0,hw⟩
  ·exact hnums_some b off b' off' c c' n g w hn hc hc'

theorem htensor_any (R C F:Int) (ad ad':Option Addr) (n c c':Nat) (g:Nat→Int) (w:World) (hn:n≤9223372036854775807) (h:Reads ad n g w) (h':Reads ad' n g w):
  Calls Tryz.prog 15 #[.agg #[.int .i64 R,.int .i64 C,.int .i64 F,.slice ad n c],.agg #[.int .i64 R,.int .i64 C,.int .i64 F,.slice ad' n c']] w fun e w'=>e=.returned (.bool true)∧Grown w w':=by
 have H:=Lib.hid h
 have H':=Lib.hid h'
 clear h h'
 go_enter Tryz.func15,Tryz.ntmps15
 go_wp2_with fail
 refine (hnums_any ad ad' n c c' g _ hn (H.out.grown (Grown.alloc (Grown.alloc (Grown.refl _) _ _) _ _)) (H'.out.grown (Grown.alloc (Grown.alloc (Grown.refl _) _ _) _ _))).mono ?_
 rintro e w' ⟨rfl,m,rfl⟩
 go_wp2
 go_ret
 exact ⟨rfl,grown_more (Grown.alloc (Grown.alloc (Grown.refl _) _ _) _ _) _⟩

def lightB (R C:Int) (n:Nat):Bool:=decide ((n:Int)≤60)&&decide (R≤60)&&decide (C≤60)&&decide (-2≤R)&&decide (-2≤C)

theorem hlight_yes (R C F:Int) (ad:Option Addr) (n c:Nat) (w:World) (h:lightB R C n=true):
  Calls Tryz.prog 8 #[.agg #[.int .i64 R,.int .i64 C,.int .i64 F,.slice ad n c]] w fun e w'=>e=.returned (.bool true)∧Grown w w':=by
 unfold lightB at h
 simp only [Bool.and_eq_true,decide_eq_true_eq] at h
 obtain ⟨⟨⟨⟨h1,h2⟩,h3⟩,h4⟩,h5⟩:=h
 go_enter Tryz.func8,Tryz.ntmps8
 go_wp2
 go_ret
 exact ⟨rfl,Grown.alloc (Grown.refl _) _ _⟩

theorem hlight_no (R C F:Int) (ad:Option Addr) (n c:Nat) (w:World) (h:lightB R C n=false):
  Calls Tryz.prog 8 #[.agg #[.int .i64 R,.int .i64 C,.int .i64 F,.slice ad n c]] w fun e w'=>e=.returned (.bool false)∧Grown w w':=by
 unfold lightB at h
 rcases (show ¬(n:Int)≤60∨((n:Int)≤60∧¬R≤60)∨((n:Int)≤60∧R≤60∧¬C≤60)∨((n:Int)≤60∧R≤60∧C≤60∧¬-2≤R)∨((n:Int)≤60∧R≤60∧C≤60∧-2≤R∧¬-2≤C) by
  by_cases h1:(n:Int)≤60 <;> by_cases h2:R≤60 <;> by_cases h3:C≤60 <;> by_cases h4:-2≤R <;> by_cases h5:-2≤C <;> simp_all) with h1 | ⟨h1,h2⟩ | ⟨h1,h2,h3⟩ | ⟨h1,h2,h3,h4⟩ | ⟨h1,h2,h3,h4,h5⟩
 all_goals
  clear h
  go_enter Tryz.func8,Tryz.ntmps8
  go_wp2
  go_ret
  exact ⟨rfl,Grown.alloc (Grown.refl _) _ _⟩

theorem hlight_any (R C F:Int) (ad:Option Addr) (n c:Nat) (w:World):
  Calls Tryz.prog 8 #[.agg #[.int .i64 R,.int .i64 C,.int .i64 F,.slice ad n c]] w fun e w'=>e=.returned (.bool (lightB R C n))∧Grown w w':=by
 cases h:lightB R C n
 ·exact hlight_no R C F ad n c w h
 ·exact hlight_yes R C F ad n c w h

theorem grown_same {W W' : World} (h : Grown W W') {p : MemPlace} (hp : p.block < W.heap.size) : W.sameAt W' p := by
  obtain ⟨⟨_, _, hk⟩, _, _⟩ := h
  have k := hk p.block hp
  cases p with
  | cell b off =>
    show W'.cell? ⟨b, off, none⟩ = W.cell? ⟨b, off, none⟩
    simp only [MemPlace.block] at k hp
    unfold World.cell?
    cases e : W.heap[b]? with
    | none => rw [e] at k; cases e' : W'.heap[b]? with
      | none => simp [e, e']
      | some o => (rw [e'] at k) <;> cases k
    | some o =>
      rw [e] at k
      cases o with
      | cells c t fr =>
        cases e' : W'.heap[b]? with
        | none => (rw [e'] at k) <;> cases k
        | some o' =>
          rw [e'] at k
          cases o' with
          | cells c' t' fr' =>
            obtain ⟨h1, h2, h3, h4⟩ := k
            simp [e, e', h4 off (fun f => f)]
          | _ => cases k
      | map es cl =>
        cases e' : W'.heap[b]? with
        | none => (rw [e'] at k) <;> cases k
        | some o' =>
          rw [e'] at k
          cases o' with
          | map es' cl' => try simp [e, e']
          | _ => cases k
      | _ =>
        cases e' : W'.heap[b]? with
        | none => (rw [e'] at k) <;> cases k
        | some o' => (rw [e'] at k) <;> cases k <;> try simp [e, e']
  | map b =>
    show W'.heap[b]? = W.heap[b]?
    simp only [MemPlace.block] at k hp
    cases e : W.heap[b]? with
    | none => rw [e] at k; cases e' : W'.heap[b]? with
      | none => rfl
      | some o => rw [e'] at k; cases k
    | some o =>
      rw [e] at k
      cases o with
      | cells c t fr =>
        cases e' : W'.heap[b]? with
        | none => rw [e'] at k; cases k
        | some o' =>
          rw [e'] at k
          cases o' with
          | cells c' t' fr' =>
            obtain ⟨h1, h2, h3, h4⟩ := k
            have : c' = c := Array.ext_getElem? fun j => h4 j (fun f => f)
            subst h1 h2 this
            rfl
          | _ => cases k
      | map es cl =>
        cases e' : W'.heap[b]? with
        | none => rw [e'] at k; cases k
        | some o' =>
          rw [e'] at k
          cases o' with
          | map es' cl' =>
            rcases k with k | ⟨rfl, rfl⟩
            · exact k.elim
            · rfl
          | _ => cases k
      | _ =>
        cases e' : W'.heap[b]? with
        | none => rw [e'] at k; cases k
        | some o' => rw [e'] at k; cases k; rfl

section
variable {H:Type} {enc:TypeId × Value→H} {P:Program}

theorem all_again (hl : laidOutB P = true) {W W' : World} (hg : Grown W W') {sp : Nat → Bool} :
    ∀ {ts : List TypeId} {vs : List Value} {ds : List (DataW H)} {ps : List MemPlace}, (ts.all fun t => P.readableRec t && decide (t < P.types.size)) = true → DataW.TrodAll enc P W 0 (fun _ => true) true ts vs ds ps →
      (∀ x ∈ ps, x.block < W.heap.size) → (∀ x ∈ ps, sp x.block = true) → DataW.TrodAll enc P W' 0 sp true ts vs ds ps
  | [], _, _, _, _, h, _, _ => by
    obtain ⟨rfl, rfl, rfl⟩ := trodAll_nil h
    exact trodAll_mk0
  | t :: ts, _, _, _, hr, h, hlt, hsp => by
    obtain ⟨v, vs, d, ds, a, b, rfl, rfl, rfl, h1, h2⟩ := trodAll_cons h
    simp only [List.all_cons, Bool.and_eq_true, decide_eq_true_eq] at hr
    refine ⟨a, b, ?_, all_again hl hg hr.2 h2 (fun x hx => hlt x (List.mem_append_right _ hx)) (fun x hx => hsp x (List.mem_append_right _ hx)), rfl⟩
    exact WideElems.Trod_stays hl hr.1.1 hr.1.2 h1 (fun x hx => grown_same hg (hlt x (List.mem_append_left _ hx))) (fun x hx => hsp x (List.mem_append_left _ hx))

def ListIn (v:Value) (W:World):Prop:=∃ (ad:Option Addr) (n c:Nat) (g:Nat→Int),v=.slice ad n c∧n≤9223372036854775807∧n≤c∧(ad=none→c=0)∧Reads ad n g W

theorem words_in {t e:TypeId} {fuel:Nat} {W:World} {v:Value} {x:DataW H × List MemPlace} (ht:P.underlying t=some (.slice e)) (he:P.underlying e=some (.int .u32)) (hc:P.cellsOf e=1)
  (h:DataW.trod enc P W 0 (fun _=>true) true fuel t [v]=some x):ListIn v W:=by
 rcases open_ints ht he hc h with ⟨h1,_⟩ | ⟨a,len,cap,zs,h1,_,hlc,hm,hz,_,hcell,hwf⟩
 ·simp at h1
  subst h1
  exact ⟨none,0,0,fun _=>0,rfl,by decide,Nat.le_refl _,fun _=>rfl,Reads.nil _ _ _⟩
 ·simp at h1
  subst h1
  simp only [if_true] at hz
  unfold maxLen at hm
  refine ⟨some a,len,cap,fun i=>zs.getD i 0,rfl,by omega,hlc,(fun h=>by cases h),fun i hi=>?_,?_⟩
  ·have:zs.getD i 0 ∈ zs:=by
    rw [List.getD_eq_getElem?_getD,List.getElem?_eq_getElem (by omega)]
    exact List.getElem_mem _
   exact bounds_u32 (hwf _ this)
  ·by_cases h0:len=0
   ·exact .inl h0
   ·have c0:=hcell 0 (by omega)
    have hs:=World.cell?_spot c0
    rw [show a.add 0=a by simp [Addr.add]] at hs c0
    obtain ⟨b,off,sp⟩:=a
    simp only at hs
    subst hs
    exact .inr ⟨b,off,rfl,World.block_lt_of_cell? _ _ c0,fun i hi=>by rw [←Addr.add_lit];exact hcell i (by omega)⟩

theorem one_int {t:TypeId} {k:IntKind} {fuel:Nat} {W:World} {v:Value} {x:DataW H × List MemPlace} (ht:P.underlying t=some (.int k)) (h:DataW.trod enc P W 0 (fun _=>true) true fuel t [v]=some x):
  ∃ n,v=.int k n∧(Lit.int k n).wf=true:=by
 obtain ⟨n,e,_,hw⟩:=DataW.trod_int ht h
 simp at e
 exact ⟨n,e,hw⟩

def TenIn (v:Value) (W:World):Prop:=∃ (R C F:Int) (ad:Option Addr) (n c:Nat) (g:Nat→Int),v=.agg #[.int .i64 R,.int .i64 C,.int .i64 F,.slice ad n c]∧(-9223372036854775808≤R∧R≤9223372036854775807)∧(-9223372036854775808≤C∧C≤9223372036854775807)∧(-9223372036854775808≤F∧F≤9223372036854775807)∧n≤9223372036854775807∧n≤c∧(ad=none→c=0)∧Reads ad n g W

theorem ten_in {t s e i:TypeId} {n0 n1 n2 n3:Field} {r:Reach} {b0:Nat} {W:World} {v:Value} {d:DataW H} {p:List MemPlace} (ht:P.underlying t=some (.struct #[n0,n1,n2,n3])) (hone:oneCellFields P #[n0,n1,n2,n3]=true) (hC:P.cellsOf t=4)
  (h0:n0.type=i) (h1:n1.type=i) (h2:n2.type=i) (h3:n3.type=s) (hi:P.underlying i=some (.int .i64)) (hs:P.underlying s=some (.slice e)) (he:P.underlying e=some (.int .u32)) (hc:P.cellsOf e=1)
  (hv:Value.okWide P W r b0 t v) (h:DataW.Trod enc P W 0 (fun _=>true) true t v d p):TenIn v W:=by
 obtain ⟨v0,v1,v2,v3,y0,y1,y2,y3,fu,rfl,_,_,k0,k1,k2,k3⟩:=open_agg4 ht hone hC hv h
 rw [h0] at k0
 rw [h1] at k1
 rw [h2] at k2
 rw [h3] at k3
 obtain ⟨R,rfl,wR⟩:=one_int hi k0
 obtain ⟨C,rfl,wC⟩:=one_int hi k1
 obtain ⟨F,rfl,wF⟩:=one_int hi k2
 obtain ⟨ad,n,c,g,rfl,hn,hnc,hnil,hr⟩:=words_in hs he hc k3
 exact ⟨R,C,F,ad,n,c,g,rfl,bounds_i64 wR,bounds_i64 wC,bounds_i64 wF,hn,hnc,hnil,hr⟩

end
end Go.Proofs.YteifobleigfbaaaGreat
