/- Worlds that have grown; blocks in them. Regions that draw their order, whose operations but the last ones leave the world within a class (a world that has grown): one walk in the order of the text. No program. Slices that read as numbers, tensors: the words for them. No program. A slice that the call has made, one number more appended: what lies in it, and that of what was there nothing turns. No program. append(nil, l...): a copy; rows that may be written. No program. -/
import Derived.WalkKit
import Derived.ProofKit
import Derived.RowKit3
import Derived.ChangeFn
import Derived.Deep.Draws
import Derived.OpenShut
import Derived.BigRegion
import Derived.Lib.Hide
import Derived.Handy
import Derived.StillTail
import Derived.Deep.Quiet
import Derived.Deep.OwnRows
import Derived.Deep.AppendLies
namespace Go.Proofs.YteifobleigfbaaaGreat
open Go.RowKit
open Go Go.RowKit
set_option linter.unusedVariables false
set_option linter.unusedSimpArgs false

/-! Worlds that have grown,and words among what is new. No program. -/
theorem grown_more {w w':World} (h:Grown w w') (m:Nat):Grown w (w'.drewN m):=by
 induction m with
 | zero=>exact h
 | succ m ih=>exact ih.drew

theorem grown_drewN (w:World) (m:Nat):Grown w (w.drewN m):=grown_more (Grown.refl w) m

theorem grown_trans {a b c:World} (h:Grown a b) (g:Grown b c):Grown a c:=
 ⟨World.keptBut_trans h.1 (World.keptBut_mono (fun _ f=>f) g.1),fun x=>(g.2.1 x).trans (h.2.1 x),Nat.le_trans h.2.2 g.2.2⟩

theorem grown_cell {w w':World} (h:Grown w w') {b off:Nat} {v:Value} (hc:w.cell? ⟨b,off,none⟩=some v) (hb:b<w.heap.size):w'.cell? ⟨b,off,none⟩=some v:=by
 rw [World.keptBut.cell h.1 hb (fun f=>f),hc]

theorem word_new {w W:World} {C:Array Value} {t:TypeId} (hW:(w.alloc (.cells C t)).drew=W) (j:Nat) (hj:j<C.size)
  (h:∀ v ∈ C.toList,∃ x:Int,v=.int .u32 x∧0≤x∧x≤4294967295):
  ∃ x:Int,W.cell? ⟨w.heap.size,j,none⟩=some (.int .u32 x)∧0≤x∧x≤4294967295:=by
 subst hW
 obtain ⟨x,hx,b0,b1⟩:=h C[j] (by simp)
 refine ⟨x,?_,b0,b1⟩
 have:=World.cell?_alloc_mark w C t (0,0) j
 rw [show ((w.alloc (.cells C t)).drew).cell? ⟨w.heap.size,j,none⟩=(w.alloc (.cells C t)).cell? ⟨w.heap.size,j,none⟩ from rfl]
 rw [this,←hx];simp [hj]

theorem is_word_bits (op:BinOp) (a b:Int):∃ x:Int,Ending.returned (.int .u32 (bits op .u32 a b))=.returned (.int .u32 x)∧0≤x∧x≤4294967295:=
 ⟨_,rfl,(bounds_u32 (wf_bits op .u32 a b)).1,(bounds_u32 (wf_bits op .u32 a b)).2⟩

theorem is_word {v:Value} (x:Int) (h:v=.int .u32 x) (h0:0≤x) (h1:x≤4294967295):∃ x:Int,v=.int .u32 x∧0≤x∧x≤4294967295:=⟨x,h,h0,h1⟩

theorem results_tmp_cell {fn:Func} {p u:Tmp} {ty:TypeId} (h:fn.results=#[.tmp u,.cell p ty]) (tmps:Array Value) (P:Program) (w:World):
  (results fn tmps).run P w=
   ((asAddr (tmps.getD p undef)).run P w).andThen fun a w₁=>((loadVar ty a).run P w₁).andThen fun v w₂=>.ok (.tuple #[tmps.getD u undef,v]) w₂:=by
 simp only [results,h]
 simp [Sem.run_bind,Result.andThen]

/-! Blocks of five cells in worlds that have grown. No program. -/
def Five (b:Nat) (c0 c1 c2 c3 c4:Value) (W:World):Prop:=
 b<W.heap.size∧W.cell? ⟨b,0,none⟩=some c0∧W.cell? ⟨b,1,none⟩=some c1∧W.cell? ⟨b,2,none⟩=some c2∧W.cell? ⟨b,3,none⟩=some c3∧W.cell? ⟨b,4,none⟩=some c4

theorem Five.grown {b:Nat} {c0 c1 c2 c3 c4:Value} {W W':World} (h:Five b c0 c1 c2 c3 c4 W) (g:Grown W W'):Five b c0 c1 c2 c3 c4 W':=by
 obtain ⟨h0,h1,h2,h3,h4,h5⟩:=h
 exact ⟨Nat.lt_of_lt_of_le h0 g.2.2,grown_cell g h1 h0,grown_cell g h2 h0,grown_cell g h3 h0,grown_cell g h4 h0,grown_cell g h5 h0⟩

theorem five_new {c0 c1 c2 c3 c4:Value} {t:TypeId} {w:World}:Five w.heap.size c0 c1 c2 c3 c4 (w.alloc (.cells #[c0,c1,c2,c3,c4] t)):=by
 refine ⟨by show w.heap.size<(w.heap.push _).size;simp,?_,?_,?_,?_,?_⟩ <;> rw [World.cell?_alloc_at (hn:=rfl)] <;> rfl

theorem grown_new5 {w W:World} {c0 c1 c2 c3 c4:Value} {t:TypeId} (g:Grown (w.alloc (.cells #[c0,c1,c2,c3,c4] t)) W):Five w.heap.size c0 c1 c2 c3 c4 W:=five_new.grown g

/-! Blocks of numbers in worlds that have grown. No program. -/
def Holds (k:IntKind) (n:Nat) (lo hi:Int) (b:Nat) (W:World):Prop:=
 b<W.heap.size∧∀ j,j<n→∃ x:Int,W.cell? ⟨b,j,none⟩=some (.int k x)∧lo≤x∧x≤hi

theorem Holds.grown {k:IntKind} {n:Nat} {lo hi:Int} {b:Nat} {W W':World} (h:Holds k n lo hi b W) (g:Grown W W'):Holds k n lo hi b W':=
 ⟨Nat.lt_of_lt_of_le h.1 g.2.2,fun j hj=>by obtain ⟨x,hx,h0⟩:=h.2 j hj;exact ⟨x,grown_cell g hx h.1,h0⟩⟩

theorem Holds.more {k:IntKind} {n:Nat} {lo hi:Int} {b:Nat} {W:World} (h:Holds k n lo hi b W) (m:Nat):Holds k n lo hi b (W.drewN m):=h

theorem Holds.new {W:World} {C:Array Value} {t:TypeId} {k:IntKind} {n:Nat} {lo hi:Int} (hn:n=C.size)
  (h:∀ v ∈ C.toList,∃ x:Int,v=.int k x∧lo≤x∧x≤hi):Holds k n lo hi W.heap.size (W.alloc (.cells C t)):=by
 refine ⟨by show W.heap.size<(W.heap.push _).size;simp,fun j hj=>?_⟩
 subst hn
 obtain ⟨x,hx,b0⟩:=h C[j] (by simp)
 refine ⟨x,?_,b0⟩
 rw [World.cell?_alloc_mark W C t (0,0) j]
 rw [←hx];simp [hj]

/-! A result's block of five flags in worlds that have grown. No program. -/
structure ExcAt (b:Nat) (W:World):Prop where
 lies:b<W.heap.size
 c0:W.cell? ⟨b,0,none⟩=some (.bool false)
 c1:W.cell? ⟨b,1,none⟩=some (.bool false)
 c2:W.cell? ⟨b,2,none⟩=some (.bool false)
 c3:W.cell? ⟨b,3,none⟩=some (.bool false)
 c4:W.cell? ⟨b,4,none⟩=some (.bool false)
 z0:W.frozen? ⟨b,0,none⟩=false
 z1:W.frozen? ⟨b,1,none⟩=false
 z2:W.frozen? ⟨b,2,none⟩=false
 z3:W.frozen? ⟨b,3,none⟩=false
 z4:W.frozen? ⟨b,4,none⟩=false

theorem ExcAt.grown {b:Nat} {W W':World} (h:ExcAt b W) (g:Grown W W'):ExcAt b W':=
 ⟨Nat.lt_of_lt_of_le h.lies g.2.2,grown_cell g h.c0 h.lies,grown_cell g h.c1 h.lies,grown_cell g h.c2 h.lies,grown_cell g h.c3 h.lies,grown_cell g h.c4 h.lies,
  by rw [g.2.1];exact h.z0,by rw [g.2.1];exact h.z1,by rw [g.2.1];exact h.z2,by rw [g.2.1];exact h.z3,by rw [g.2.1];exact h.z4⟩

theorem exc_new (w:World) (t:TypeId):ExcAt w.heap.size (w.alloc (.cells #[.bool false,.bool false,.bool false,.bool false,.bool false] t)):=by
 refine ⟨by show w.heap.size<(w.heap.push _).size;simp,?_,?_,?_,?_,?_,?_,?_,?_,?_,?_⟩
 all_goals go_simp

structure NilAt (b:Nat) (W:World):Prop where
 lies:b<W.heap.size
 c0:W.cell? ⟨b,0,none⟩=some (.bool false)
 c1:W.cell? ⟨b,1,none⟩=some (.int .u64 0)
 c2:W.cell? ⟨b,2,none⟩=some (.int .u64 0)
 c3:W.cell? ⟨b,3,none⟩=some (.int .u64 0)
 c4:W.cell? ⟨b,4,none⟩=some (.int .u64 0)
 c5:W.cell? ⟨b,5,none⟩=some (.int .u64 0)
 c6:W.cell? ⟨b,6,none⟩=some (.int .u64 0)
 c7:W.cell? ⟨b,7,none⟩=some (.int .u64 0)
 c8:W.cell? ⟨b,8,none⟩=some (.int .u64 0)
 c9:W.cell? ⟨b,9,none⟩=some (.int .u64 0)
 c10:W.cell? ⟨b,10,none⟩=some (.int .u64 0)
 z0:W.frozen? ⟨b,0,none⟩=false
 z1:W.frozen? ⟨b,1,none⟩=false
 z2:W.frozen? ⟨b,2,none⟩=false
 z3:W.frozen? ⟨b,3,none⟩=false
 z4:W.frozen? ⟨b,4,none⟩=false
 z5:W.frozen? ⟨b,5,none⟩=false
 z6:W.frozen? ⟨b,6,none⟩=false
 z7:W.frozen? ⟨b,7,none⟩=false
 z8:W.frozen? ⟨b,8,none⟩=false
 z9:W.frozen? ⟨b,9,none⟩=false
 z10:W.frozen? ⟨b,10,none⟩=false

theorem NilAt.grown {b:Nat} {W W':World} (h:NilAt b W) (g:Grown W W'):NilAt b W':=
 ⟨Nat.lt_of_lt_of_le h.lies g.2.2,grown_cell g h.c0 h.lies,grown_cell g h.c1 h.lies,grown_cell g h.c2 h.lies,grown_cell g h.c3 h.lies,grown_cell g h.c4 h.lies,grown_cell g h.c5 h.lies,grown_cell g h.c6 h.lies,grown_cell g h.c7 h.lies,grown_cell g h.c8 h.lies,grown_cell g h.c9 h.lies,grown_cell g h.c10 h.lies,by rw [g.2.1];exact h.z0,by rw [g.2.1];exact h.z1,by rw [g.2.1];exact h.z2,by rw [g.2.1];exact h.z3,by rw [g.2.1];exact h.z4,by rw [g.2.1];exact h.z5,by rw [g.2.1];exact h.z6,by rw [g.2.1];exact h.z7,by rw [g.2.1];exact h.z8,by rw [g.2.1];exact h.z9,by rw [g.2.1];exact h.z10⟩

theorem nil_new (w:World) (t:TypeId):NilAt w.heap.size (w.alloc (.cells #[.bool false,.int .u64 0,.int .u64 0,.int .u64 0,.int .u64 0,.int .u64 0,.int .u64 0,.int .u64 0,.int .u64 0,.int .u64 0,.int .u64 0] t)):=by
 refine ⟨by show w.heap.size<(w.heap.push _).size;simp,?_,?_,?_,?_,?_,?_,?_,?_,?_,?_,?_,?_,?_,?_,?_,?_,?_,?_,?_,?_,?_,?_⟩
 all_goals go_simp

/-! A result's block of flags under two blocks more. No program. -/
theorem ExcAt.under1 {b:Nat} {W:World} (h:ExcAt b W) (C:Array Value) (t:TypeId):ExcAt b (W.alloc (.cells C t)):=
 h.grown (Grown.alloc (Grown.refl _) _ _)

theorem ExcAt.under2 {b:Nat} {W:World} (h:ExcAt b W) (C D:Array Value) (t u:TypeId):ExcAt b ((W.alloc (.cells C t)).alloc (.cells D u)):=
 h.grown (Grown.alloc (Grown.alloc (Grown.refl _) _ _) _ _)

theorem parts_cells (W:World) (a b c d e g:Value) (t:TypeId):
  ((W.alloc (.cells #[a,b,c] t)).alloc (.cells #[d,e,g] t)).cell? ⟨W.heap.size,0,none⟩=some a
  ∧ ((W.alloc (.cells #[a,b,c] t)).alloc (.cells #[d,e,g] t)).cell? ⟨W.heap.size,1,none⟩=some b
  ∧ ((W.alloc (.cells #[a,b,c] t)).alloc (.cells #[d,e,g] t)).cell? ⟨W.heap.size,2,none⟩=some c
  ∧ ((W.alloc (.cells #[a,b,c] t)).alloc (.cells #[d,e,g] t)).cell? ⟨W.heap.size+1,0,none⟩=some d
  ∧ ((W.alloc (.cells #[a,b,c] t)).alloc (.cells #[d,e,g] t)).cell? ⟨W.heap.size+1,1,none⟩=some e
  ∧ ((W.alloc (.cells #[a,b,c] t)).alloc (.cells #[d,e,g] t)).cell? ⟨W.heap.size+1,2,none⟩=some g:=by
 refine ⟨?_,?_,?_,?_,?_,?_⟩ <;> go_simp

section
variable {P:Program} {ops:Array Oper} {md:Region.Mode} {C:World→Prop}

def HeadIn (P:Program) (md:Region.Mode) (ops:Array Oper) (C:World→Prop) (n:Nat) (L:Array Bool→Act→Prop):Nat→Array Bool→Act→Prop
 | 0,s,a=>L s a
 | f+1,s,a=>Region.ready md ops s≠[]∧∀ i ∈ Region.ready md ops s,i<n∧qOp P ops C i (HeadIn P md ops C n L f (s.setIfInBounds i true)) a

theorem HeadIn.any {n g : Nat} {L : Array Bool → Act → Prop} {Q : Exit → Act → World → Prop} (hL : ∀ s a w, C w → L s a → wpAny P md ops Q g s a w) (f : Nat) :
    ∀ (s : Array Bool) (a : Act) (w : World), C w → HeadIn P md ops C n L f s a → wpAny P md ops Q (f + g) s a w := by
  induction f with
  | zero => intro s a w hw h; rw [Nat.zero_add]; exact hL s a w hw h
  | succ f ih =>
    intro s a w hw h
    rw [show f + 1 + g = (f + g) + 1 by omega]
    refine ⟨fun e => absurd e h.1, fun i hi => ?_⟩
    exact wpOp_of_qOp hw (fun a' w' hw' h' => ih _ a' w' hw' h') (h.2 i hi).2

theorem HeadIn.first {n i : Nat} {o : Oper} {v : Value} {L : Array Bool → Act → Prop} (ho : ops[i]? = some o) (hsel : Region.noSelect ops = true)
    (hs : Region.sinkB md ops n = true) (hc : Region.chainB md ops n = true) (hn : n < ops.size) (hin : i < n) (hL : ∀ s a, L s a → ∀ j ∈ Region.ready md ops s, n ≤ j) (f : Nat) :
    ∀ (s : Array Bool) (a : Act), HeadInv md ops n s →
      (∀ j p, ops[j]? = some p → j ≠ i → s.getD j true = false → (∀ e ∈ p.after, Region.binds md e = true → e.on ≠ i) → o.apart ops p = true) →
      i ∈ Region.ready md ops s → YieldsIn P ops C o v a →
      HeadIn P md ops C n L f (s.setIfInBounds i true) (a.put o.dst v) → HeadIn P md ops C n L (f + 1) s a := by
  have S := Region.noSelect_spec hsel
  have low : ∀ s, HeadInv md ops n s → i ∈ Region.ready md ops s → ∀ j ∈ Region.ready md ops s, j < n := fun s inv hr j hj => by
    by_cases h : j < n
    · exact h
    · exact absurd hj (tail_waits hs hc hn inv _ i rfl hin (mem_ready.1 hr).1 j (by omega))
  induction f with
  | zero =>
    intro s a inv _ hr hy H
    refine ⟨List.ne_nil_of_mem hr, fun j hj => ⟨low s inv hr j hj, ?_⟩⟩
    by_cases e : j = i
    · subst e; exact hy.qOp ho H
    · have h1 := hL _ _ H j (ready_mono hj e)
      have h2 := low s inv hr j hj
      omega
  | succ f ih =>
    intro s a inv free hr hy H
    refine ⟨List.ne_nil_of_mem hr, fun j hj => ⟨low s inv hr j hj, ?_⟩⟩
    by_cases e : j = i
    · subst e; exact hy.qOp ho H
    · obtain ⟨u, p, hp, past⟩ := mem_ready.1 hj
      have lone : ∀ d ∈ p.after, Region.binds md d = true → d.on ≠ i := fun d hd hb he => by
        have h1 := past d hd hb
        rw [he, getD_both (mem_ready.1 hr).1] at h1
        exact absurd h1 (by decide)
      have step := qOp_put hp (free j p hp e u lone) (fun cs b => S i o cs b ho) (fun cs b => S j p cs b hp) hy (H.2 j (ready_mono hj e)).2
      refine qOp_mono (fun a' h3 => ih (s.setIfInBounds j true) a' (inv.set hj (low s inv hr j hj)) ?_ (ready_mono hr (Ne.symm e)) h3.1 (by rw [Array.setIfInBounds_comm _ _ e]; exact h3.2)) step
      intro k q hq hki hk lone'
      refine free k q hq hki ?_ lone'
      by_cases c : j = k
      · subst c; exact u
      · rw [getD_set_ne true c] at hk; exact hk

theorem HeadIn.lex {n g : Nat} {K : Act → Prop} (hsel : Region.noSelect ops = true) (hs : Region.sinkB md ops n = true) (hc : Region.chainB md ops n = true) (hn : n < ops.size) (l : List Oper) :
    ∀ (k : Nat) (s : Array Bool) (a : Act), (∀ j, j < l.length → l[j]? = ops[k + j]?) → k + l.length = n → HeadInv md ops n s →
      Region.lexHead md ops g l.length k s = true → wpQuiet P ops C K l a → HeadIn P md ops C n (fun s' a' => Region.seqB md ops g n s' = true ∧ K a') l.length s a := by
  induction l with
  | nil =>
    intro k s a _ hk _ hB h
    obtain rfl : k = n := by simpa using hk
    exact ⟨by simpa [Region.lexHead] using hB, h⟩
  | cons o l ih =>
    intro k s a hl hk inv hB h
    simp only [List.length_cons] at hk hB
    simp only [Region.lexHead, Bool.and_eq_true] at hB
    obtain ⟨⟨hr, hf⟩, hB'⟩ := hB
    have h0 : ops[k]? = some o := by simpa using (hl 0 (by simp)).symm
    have hr' : k ∈ Region.ready md ops s := by simpa using hr
    have hq : qOp P ops C k (wpQuiet P ops C K l) a := by unfold qOp; simp only [h0]; exact h
    obtain ⟨v, hy, hK⟩ := yieldsIn_of_qOp h0 hq
    refine HeadIn.first h0 hsel hs hc hn (by omega) (fun s' a' hL => seqB_ready hL.1) l.length s a inv (Region.free_spec h0 hf) hr' hy ?_
    refine ih (k + 1) _ _ (fun j hj => ?_) (by omega) (inv.set hr' (by omega)) hB' hK
    have := hl (j + 1) (by simp; omega)
    simpa [Nat.add_assoc, Nat.add_comm 1 j] using this

theorem region_tail {id:Nat} {Q:Exit→Act→World→Prop} {a:Act} {w:World} {l:List Oper} (n:Nat) (hm:P.follows .mixedOrders=true) (hB:Region.lexTailB .any l.toArray n=true) (hC:C { w with drawn:=w.drawn+1 })
  (h:wpQuiet P l.toArray C (fun a'=>∀ w',C w'→wpList P l.toArray Q (l.drop n) a' w') (l.take n) a):(Code.region id l.toArray true).wp P Q a w:=by
 simp only [Region.lexTailB,Bool.and_eq_true,decide_eq_true_eq] at hB
 obtain ⟨⟨⟨⟨hsel,hn⟩,hs⟩,hc⟩,hlex⟩:=hB
 have hn':n<l.length:=by simpa using hn
 have e1:(l.take n).length=n:=by simp;omega
 have e2:(l.drop n).length=l.toArray.size - n:=by simp
 have inv:HeadInv .any l.toArray n (Array.replicate l.toArray.size false):=
  ⟨by simp,fun j p _ hl=>(by rw [getD_replicate_false] at hl;cases hl),fun t _ ht=>getD_in (by simpa using ht) (getD_replicate_false _ _)⟩
 have H:=HeadIn.lex (md:=.any) (g:=l.toArray.size - n) hsel hs hc hn (l.take n) 0 _ a (fun j hj=>by
  rw [e1] at hj
  simp [hj]) (by simpa using e1) inv (by rw [e1];exact hlex) h
 refine wp_region_any hm ?_
 have R:=HeadIn.any (Q:=Q) (g:=l.toArray.size - n) (fun s a' w' hw' hL=>by
  have:=wpAny_of_seq (md:=.any) (Q':=Q) (l.drop n) n s a' w' (fun j=>by simp [List.getElem?_drop]) (by rw [e2];exact hL.1) (hL.2 w' hw')
  rwa [e2] at this) _ _ _ _ hC H
 rw [e1,show n+(l.toArray.size - n)=l.toArray.size by omega] at R
 exact R

end

structure Later (W:World) where
 w:World
 g:Grown W w

instance (W:World):Nonempty (Later W):=⟨⟨W,Grown.refl W⟩⟩

theorem region_later {P:Program} {id:Nat} {Q:Exit→Act→World→Prop} {a:Act} {w:World} {l:List Oper} (W:World) (hm:P.follows .mixedOrders=true) (hB:Region.lexB .any l.toArray=true) (hg:Grown W w)
  (h:wpQuiet P l.toArray (fun w'=>∃ d:Later W,w'=d.w) (fun a'=>∀ d:Later W,Q .normal a' d.w) l a):(Code.region id l.toArray true).wp P Q a w:=by
 refine wp_region_quiet (C:=fun w'=>∃ d:Later W,w'=d.w) hm hB ⟨⟨_,Grown.drew hg⟩,rfl⟩ ?_
 have e:(fun a'=>∀ d:Later W,Q .normal a' d.w)=(fun a'=>∀ w',(∃ d:Later W,w'=d.w)→Q .normal a' w'):=by
  funext a'
  exact propext ⟨fun h w' ⟨d,e⟩=>e▸h d,fun h d=>h d.w ⟨d,rfl⟩⟩
 rw [←e]
 exact h

theorem region_later_tail {P:Program} {id:Nat} {Q:Exit→Act→World→Prop} {a:Act} {w:World} {l:List Oper} (W:World) (n:Nat) (hm:P.follows .mixedOrders=true) (hB:Region.lexTailB .any l.toArray n=true) (hg:Grown W w)
  (h:wpQuiet P l.toArray (fun w'=>∃ d:Later W,w'=d.w) (fun a'=>∀ d:Later W,wpList P l.toArray Q (l.drop n) a' d.w) (l.take n) a):(Code.region id l.toArray true).wp P Q a w:=by
 refine region_tail (C:=fun w'=>∃ d:Later W,w'=d.w) n hm hB ⟨⟨_,Grown.drew hg⟩,rfl⟩ ?_
 have e:(fun a'=>∀ d:Later W,wpList P l.toArray Q (l.drop n) a' d.w)=(fun a'=>∀ w',(∃ d:Later W,w'=d.w)→wpList P l.toArray Q (l.drop n) a' w'):=by
  funext a'
  exact propext ⟨fun h w' ⟨d,e⟩=>e▸h d,fun h d=>h d.w ⟨d,rfl⟩⟩
 rw [←e]
 exact h

theorem later_call {P:Program} {f:FuncId} {args:Array Value} {W:World} {d:Later W} {v:Value} {K:Ending→World→Prop} (h:Calls P f args d.w K) (hk:∀ e w',K e w'→e=.returned v∧Grown d.w w'):
  Calls P f args d.w fun e w''=>e=.returned v∧∃ d':Later W,w''=d'.w:=
 h.mono fun e w' q=>⟨(hk e w' q).1,⟨w',grown_trans d.g (hk e w' q).2⟩,rfl⟩

theorem gr {w W:World} (h:Grown w W:=by (repeat (first | with_reducible exact Grown.refl _ | with_reducible exact Hid.out (by assumption) | with_reducible refine Grown.setCell ?_ (by simp <;> omega) _ | with_reducible refine Grown.alloc ?_ _ _ | with_reducible refine grown_more ?_ _ | with_reducible refine Grown.drew ?_))):Grown w W:=h

def Reads (ad:Option Addr) (n:Nat) (g:Nat→Int) (W:World):Prop:=
 (∀ i,i<n→0≤g i∧g i≤4294967295)∧(n=0∨∃ b off,ad=some ⟨b,off,none⟩∧b<W.heap.size∧∀ i,i<n→W.cell? ⟨b,off+i,none⟩=some (.int .u32 (g i)))

theorem Reads.grown {ad:Option Addr} {n:Nat} {g:Nat→Int} {W W':World} (h:Reads ad n g W) (k:Grown W W'):Reads ad n g W':=by
 obtain ⟨hb,h⟩:=h
 refine ⟨hb,?_⟩
 rcases h with h | ⟨b,off,e,hl,hc⟩
 ·exact .inl h
 ·exact .inr ⟨b,off,e,Nat.lt_of_lt_of_le hl k.2.2,fun i hi=>grown_cell k (hc i hi) hl⟩

theorem Reads.congr {ad:Option Addr} {n:Nat} {g g':Nat→Int} {W:World} (h:Reads ad n g W) (e:∀ i,i<n→g' i=g i):Reads ad n g' W:=by
 obtain ⟨hb,h⟩:=h
 refine ⟨fun i hi=>by rw [e i hi];exact hb i hi,?_⟩
 rcases h with h | ⟨b,off,ea,hl,hc⟩
 ·exact .inl h
 ·exact .inr ⟨b,off,ea,hl,fun i hi=>by rw [e i hi];exact hc i hi⟩

theorem Reads.nil (ad:Option Addr) (g:Nat→Int) (W:World):Reads ad 0 g W:=⟨fun i hi=>by omega,.inl rfl⟩

def allB (n:Nat) (p:Nat→Bool):Bool:=(List.range n).all p

theorem allB_yes {n:Nat} {p:Nat→Bool} (h:∀ i,i<n→p i=true):allB n p=true:=by
 unfold allB;rw [List.all_eq_true];intro i hi;exact h i (List.mem_range.1 hi)

theorem allB_no {n:Nat} {p:Nat→Bool} {i:Nat} (hi:i<n) (h:p i=false):allB n p=false:=by
 unfold allB;rw [List.all_eq_false];exact ⟨i,List.mem_range.2 hi,by rw [h];decide⟩

theorem allB_of {n:Nat} {p:Nat→Bool} (h:allB n p=true) {i:Nat} (hi:i<n):p i=true:=by
 unfold allB at h;rw [List.all_eq_true] at h;exact h i (List.mem_range.2 hi)

structure TenAt (b:Nat) (v0 v1 v2 v3:Value) (W:World):Prop where
 lies:b<W.heap.size
 c0:W.cell? ⟨b,0,none⟩=some v0
 c1:W.cell? ⟨b,1,none⟩=some v1
 c2:W.cell? ⟨b,2,none⟩=some v2
 c3:W.cell? ⟨b,3,none⟩=some v3
 z0:W.frozen? ⟨b,0,none⟩=false
 z1:W.frozen? ⟨b,1,none⟩=false
 z2:W.frozen? ⟨b,2,none⟩=false
 z3:W.frozen? ⟨b,3,none⟩=false

theorem TenAt.grown {b:Nat} {v0 v1 v2 v3:Value} {W W':World} (h:TenAt b v0 v1 v2 v3 W) (g:Grown W W'):TenAt b v0 v1 v2 v3 W':=
 ⟨Nat.lt_of_lt_of_le h.lies g.2.2,grown_cell g h.c0 h.lies,grown_cell g h.c1 h.lies,grown_cell g h.c2 h.lies,grown_cell g h.c3 h.lies,
  by rw [g.2.1];exact h.z0,by rw [g.2.1];exact h.z1,by rw [g.2.1];exact h.z2,by rw [g.2.1];exact h.z3⟩

theorem ten_new (w:World) (v0 v1 v2 v3:Value) (t:TypeId):TenAt w.heap.size v0 v1 v2 v3 (w.alloc (.cells #[v0,v1,v2,v3] t)):=by
 refine ⟨by simp,?_,?_,?_,?_,?_,?_,?_,?_⟩ <;> go_simp

theorem TenAt.set {b:Nat} {v0 v1 v2 v3:Value} {W:World} (h:TenAt b v0 v1 v2 v3 W) {a:Addr} (ha:b≠a.block) (v:Value):TenAt b v0 v1 v2 v3 (W.setCell a v):=by
 have e:∀ off,(W.setCell a v).cell? ⟨b,off,none⟩=W.cell? ⟨b,off,none⟩:=fun off=>World.cell?_of_block (w:=W) (Below.heap_setCell _ _ _ _ ha)
 have z:∀ x,(W.setCell a v).frozen? x=W.frozen? x:=fun x=>World.frozen?_setCell _ _ _ _
 exact ⟨by simpa [World.setCell] using h.lies,by rw [e];exact h.c0,by rw [e];exact h.c1,by rw [e];exact h.c2,by rw [e];exact h.c3,by rw [z];exact h.z0,by rw [z];exact h.z1,by rw [z];exact h.z2,by rw [z];exact h.z3⟩

structure Filled (b M:Nat) (G:Nat→Int) (k:Nat) (W:World):Prop where
 lies:b<W.heap.size
 cell:∀ t,t<M→W.cell? ⟨b,t,none⟩=some (.int .u32 (if t<k then G t else 0))
 free:∀ t,W.frozen? ⟨b,t,none⟩=false

theorem Filled.grown {b M:Nat} {G:Nat→Int} {k:Nat} {W W':World} (h:Filled b M G k W) (g:Grown W W'):Filled b M G k W':=
 ⟨Nat.lt_of_lt_of_le h.lies g.2.2,fun t ht=>grown_cell g (h.cell t ht) h.lies,fun t=>by rw [g.2.1];exact h.free t⟩

theorem Filled.set {b M:Nat} {G:Nat→Int} {k:Nat} {W:World} (h:Filled b M G k W) (hk:k<M):Filled b M G (k+1) (W.setCell ⟨b,k,none⟩ (.int .u32 (G k))):=by
 refine ⟨by simpa [World.setCell] using h.lies,fun t ht=>?_,fun t=>(World.frozen?_setCell _ _ _ _).trans (h.free t)⟩
 by_cases e:t=k
 ·subst e
  rw [World.cell?_setCell_same (h:=h.cell t ht)]
  simp
 ·rw [World.cell?_setCell_other (h:=by simp [e]),h.cell t ht]
  by_cases c:t<k
  ·rw [if_pos c,if_pos (by omega)]
  ·rw [if_neg c,if_neg (by omega)]

theorem Filled.other {b M:Nat} {G:Nat→Int} {k:Nat} {W:World} (h:Filled b M G k W) {a:Addr} (ha:b≠a.block) (v:Value):Filled b M G k (W.setCell a v):=
 ⟨by simpa [World.setCell] using h.lies,fun t ht=>(World.cell?_of_block (w:=W) (Below.heap_setCell _ _ _ _ ha)).trans (h.cell t ht),fun t=>(World.frozen?_setCell _ _ _ _).trans (h.free t)⟩

theorem Filled.new (w:World) (M:Nat) (G:Nat→Int) (t:TypeId):Filled w.heap.size M G 0 (w.alloc (.cells (madeCells #[.int .u32 0] M) t)):=by
 refine ⟨by simp,fun j hj=>?_,fun j=>?_⟩
 ·rw [World.cell?_alloc_at (hn:=rfl)]
  simp [madeCells,hj,Nat.mod_one]
 ·exact World.frozen?_alloc_new _ _ _ _

theorem Filled.reads {b M:Nat} {G:Nat→Int} {W:World} (h:Filled b M G M W) (hG:∀ t,t<M→0≤G t∧G t≤4294967295):Reads (some ⟨b,0,none⟩) M G W:=
 ⟨hG,.inr ⟨b,0,rfl,h.lies,fun i hi=>by rw [Nat.zero_add,h.cell i hi,if_pos hi]⟩⟩

def Fresh (ad:Option Addr) (w:World):Prop:=∀ x,ad=some x→w.heap.size≤x.block

theorem fresh_none (w:World):Fresh none w:=fun x hx=>by cases hx

theorem Fresh.back {ad:Option Addr} {w W:World} (h:Fresh ad W) (g:Grown w W):Fresh ad w:=fun x hx=>Nat.le_trans g.2.2 (h x hx)

theorem Reads.set {ad:Option Addr} {n:Nat} {g:Nat→Int} {W:World} (h:Reads ad n g W) {a:Addr} (ha:∀ x,ad=some x→x.block≠a.block) (v:Value):Reads ad n g (W.setCell a v):=by
 obtain ⟨hb,h⟩:=h
 refine ⟨hb,?_⟩
 rcases h with h | ⟨b,off,e,hl,hc⟩
 ·exact .inl h
 ·exact .inr ⟨b,off,e,by simpa [World.setCell] using hl,fun i hi=>(World.cell?_of_block (w:=W) (a:=⟨b,off+i,none⟩) (Below.heap_setCell _ _ _ _ (show b≠a.block from ha _ e))).trans (hc i hi)⟩

theorem Fresh.off {ad:Option Addr} {W:World} {b:Nat} (h:Fresh ad W) (hb:b<W.heap.size):∀ x,ad=some x→x.block≠b:=fun x hx=>by have:=h x hx;omega

theorem Filled.whole {b M:Nat} {G:Nat→Int} {W:World} (h:Filled b M G 0 W):Filled b M (fun _=>0) M W:=
 ⟨h.lies,fun t ht=>by rw [h.cell t ht,if_neg (Nat.not_lt_zero t),if_pos ht],h.free⟩

theorem Filled.upd {b M:Nat} {G G':Nat→Int} {W:World} (h:Filled b M G M W) {j:Nat} (hj:j<M) {v:Int} (e1:G' j=v) (e2:∀ t,t≠j→G' t=G t):Filled b M G' M (W.setCell ⟨b,j,none⟩ (.int .u32 v)):=by
 refine ⟨by simpa [World.setCell] using h.lies,fun t ht=>?_,fun t=>(World.frozen?_setCell _ _ _ _).trans (h.free t)⟩
 rw [if_pos ht]
 by_cases e:t=j
 ·subst e
  rw [World.cell?_setCell_same (h:=h.cell t ht),e1]
 ·rw [World.cell?_setCell_other (h:=fun c=>e (by cases c;rfl)),h.cell t ht,if_pos ht,e2 t e]

def Sound (ad:Option Addr) (n c:Nat):Prop:=n≤c∧(ad=none→c=0)

theorem sound_nil:Sound none 0 0:=⟨Nat.le_refl _,fun _=>rfl⟩

theorem sound_some (a:Addr) (n:Nat):Sound (some a) n n:=⟨Nat.le_refl _,fun h=>by cases h⟩

structure Stay where
 p:World→Prop
 s:∀ {W W':World},p W→Grown W W'→p W'

def Stay.ten (b:Nat) (v0 v1 v2 v3:Value):Stay:=⟨TenAt b v0 v1 v2 v3,fun h g=>h.grown g⟩

def Stay.rd (ad:Option Addr) (n:Nat) (g:Nat→Int):Stay:=⟨Reads ad n g,fun h k=>h.grown k⟩

def Stay.gr (w:World):Stay:=⟨Grown w,fun h k=>grown_trans h k⟩

def Lot (fs:List Stay) (W:World):Prop:=∀ f ∈ fs,f.p W

theorem Lot.nil (W:World):Lot [] W:=fun f hf=>by cases hf

theorem Lot.grown {fs:List Stay} {W W':World} (h:Lot fs W) (g:Grown W W'):Lot fs W':=fun f hf=>f.s (h f hf) g

theorem Lot.add {fs:List Stay} {f:Stay} {W:World} (h:Lot fs W) (hf:f.p W):Lot (f::fs) W:=fun x hx=>by
 rcases List.mem_cons.1 hx with rfl | hx
 ·exact hf
 ·exact h x hx

theorem Lot.at {fs:List Stay} {W:World} (h:Lot fs W) (i:Nat) {f:Stay} (e:fs[i]?=some f):f.p W:=h f (List.mem_of_getElem? e)

theorem Lot.ten {fs:List Stay} {W:World} (h:Lot fs W) (i:Nat) {b:Nat} {v0 v1 v2 v3:Value} (e:fs[i]?=some (Stay.ten b v0 v1 v2 v3)):TenAt b v0 v1 v2 v3 W:=h.at i e

theorem Lot.rd {fs:List Stay} {W:World} (h:Lot fs W) (i:Nat) {ad:Option Addr} {n:Nat} {g:Nat→Int} (e:fs[i]?=some (Stay.rd ad n g)):Reads ad n g W:=h.at i e

theorem Lot.gr {fs:List Stay} {W:World} (h:Lot fs W) (i:Nat) {w:World} (e:fs[i]?=some (Stay.gr w)):Grown w W:=h.at i e

def Stay.any (p:Prop):Stay:=⟨fun _=>p,fun h _=>h⟩

theorem Lot.any {fs:List Stay} {W:World} (h:Lot fs W) (i:Nat) {p:Prop} (e:fs[i]?=some (Stay.any p)):p:=h.at i e

theorem ten_new2 (w:World) (cs:Array Value) (t':TypeId) (v0 v1 v2 v3:Value) (t:TypeId):TenAt (w.heap.size+1) v0 v1 v2 v3 ((w.alloc (.cells cs t')).alloc (.cells #[v0,v1,v2,v3] t)):=by
 have h:=ten_new (w.alloc (.cells cs t')) v0 v1 v2 v3 t
 simp only [World.size_alloc] at h
 exact h

def TenOk (b off:Nat) (W:World):Prop:=
 ∃ (R C F:Int) (ad:Option Addr) (n c:Nat) (g:Nat→Int),b<W.heap.size∧W.cell? ⟨b,off,none⟩=some (.int .i64 R)∧W.cell? ⟨b,off+1,none⟩=some (.int .i64 C)∧W.cell? ⟨b,off+2,none⟩=some (.int .i64 F)∧W.cell? ⟨b,off+3,none⟩=some (.slice ad n c)∧n≤9223372036854775807∧Reads ad n g W∧Sound ad n c

theorem TenOk.grown {b off:Nat} {W W':World} (h:TenOk b off W) (k:Grown W W'):TenOk b off W':=by
 obtain ⟨R,C,F,ad,n,c,g,h0,h1,h2,h3,h4,h5,h6,h7⟩:=h
 exact ⟨R,C,F,ad,n,c,g,Nat.lt_of_lt_of_le h0 k.2.2,grown_cell k h1 h0,grown_cell k h2 h0,grown_cell k h3 h0,grown_cell k h4 h0,h5,h6.grown k,h7⟩

theorem TenOk.new {w:World} {cs:Array Value} {t:TypeId} {off:Nat} {R C F:Int} {ad:Option Addr} {n c:Nat} {g:Nat→Int} (h1:cs[off]?=some (.int .i64 R)) (h2:cs[off+1]?=some (.int .i64 C)) (h3:cs[off+2]?=some (.int .i64 F)) (h4:cs[off+3]?=some (.slice ad n c))
  (hn:n≤9223372036854775807) (hr:Reads ad n g w) (hs:Sound ad n c):TenOk w.heap.size off (w.alloc (.cells cs t)):=
 ⟨R,C,F,ad,n,c,g,by simp,by rw [World.cell?_alloc_at (hn:=rfl)];exact h1,by rw [World.cell?_alloc_at (hn:=rfl)];exact h2,by rw [World.cell?_alloc_at (hn:=rfl)];exact h3,by rw [World.cell?_alloc_at (hn:=rfl)];exact h4,hn,hr.grown (Grown.alloc (Grown.refl _) _ _),hs⟩

def PairsAt (b m:Nat) (W:World):Prop:=∀ I,I<m→TenOk b (I*8) W∧TenOk b (I*8+4) W

theorem PairsAt.grown {b m:Nat} {W W':World} (h:PairsAt b m W) (k:Grown W W'):PairsAt b m W':=fun I hI=>⟨(h I hI).1.grown k,(h I hI).2.grown k⟩

def Stay.pairs (b m:Nat):Stay:=⟨PairsAt b m,fun h k=>h.grown k⟩

def CellAt (b off:Nat) (v:Value) (W:World):Prop:=b<W.heap.size∧W.cell? ⟨b,off,none⟩=some v

theorem CellAt.grown {b off:Nat} {v:Value} {W W':World} (h:CellAt b off v W) (k:Grown W W'):CellAt b off v W':=⟨Nat.lt_of_lt_of_le h.1 k.2.2,grown_cell k h.2 h.1⟩

theorem cell_new {w:World} {cs:Array Value} {t:TypeId} {off:Nat} {v:Value} (h:cs[off]?=some v):CellAt w.heap.size off v (w.alloc (.cells cs t)):=⟨by simp,by rw [World.cell?_alloc_at (hn:=rfl)];exact h⟩

def Stay.cell (b off:Nat) (v:Value):Stay:=⟨CellAt b off v,fun h k=>h.grown k⟩

theorem Lot.cell {fs:List Stay} {W:World} (h:Lot fs W) (i:Nat) {b off:Nat} {v:Value} (e:fs[i]?=some (Stay.cell b off v)):W.cell? ⟨b,off,none⟩=some v:=(h.at i e:CellAt b off v W).2

theorem Lot.pairs {fs:List Stay} {W:World} (h:Lot fs W) (i:Nat) {b m:Nat} (e:fs[i]?=some (Stay.pairs b m)):PairsAt b m W:=h.at i e

theorem Lot.put {fs:List Stay} {f:Stay} {W:World} (h:Lot fs W) (hf:f.p W):Lot (fs++[f]) W:=fun x hx=>by
 rcases List.mem_append.1 hx with hx | hx
 ·exact h x hx
 ·rw [List.mem_singleton] at hx
  subst hx
  exact hf

theorem Lot.lies {fs:List Stay} {W:World} (h:Lot fs W) (i:Nat) {b off:Nat} {v:Value} (e:fs[i]?=some (Stay.cell b off v)):b<W.heap.size:=(h.at i e:CellAt b off v W).1

theorem by_key {X G:Prop} (h:X→G) (x:X):G:=h x

theorem frozen_setRow (w:World) (g:Nat) (cur cs:Array Value) (e:TypeId) (hg:w.heap[g]?=some (.cells cur e (0,0))) (x:Addr):(w.setRow g cs).frozen? x=w.frozen? x:=by
 by_cases c:x.block=g
 ·unfold World.frozen?
  rw [c,setRow_heap w g cur cs e (0,0) hg,hg]
 ·exact World.frozen?_of_block (w:=w) (setRow_other w g x.block cs c)

theorem grown_setRow {w0 w:World} (h:Grown w0 w) (g:Nat) (cur cs:Array Value) (e:TypeId) (hg:w.heap[g]?=some (.cells cur e (0,0))) (hb:w0.heap.size≤g):Grown w0 (w.setRow g cs):=by
 obtain ⟨⟨h1,h2,h3⟩,hf,hs⟩:=h
 refine ⟨⟨h1,h2,fun i hi=>?_⟩,fun x=>?_,by simpa [World.setRow] using hs⟩
 ·rw [setRow_other w g i cs (by omega)]
  exact h3 i hi
 ·rw [←hf x]
  exact frozen_setRow w g cur cs e hg x

theorem run_append_one {P : Program} (w : World) (t ty e : TypeId) (i : TypeInfo) (z : Value) (bytes : Nat) (ht : P.underlying t = some (.slice e)) (hi : P.info? e = some i) (hz : i.zero = some z) (hsize : i.size = 1) (hby : i.bytes = bytes) (hzs : z.cells.size = 1)
    (base : Nat) (v : Value) (n : Nat) (xs : List Value) (hown : w.ownsRow base e 1 v n xs) (b : Nat) (x : Value) (hx : w.cell? ⟨b, 0, none⟩ = some x) (h1 : x.oneCell' = true)
    (h63 : n + 1 ≤ maxLen) (hbytes : (n + 1) * bytes ≤ 140737488355328) (hbase : base ≤ w.heap.size) :
    ∃ g c w', (Builtin.append_ #[t, t] ty #[v, .slice (some ⟨b, 0, none⟩) 1 1]).run P w = .ok (.slice (some ⟨g, 0, none⟩) (n + 1) c) w' ∧ w'.ownsRow base e 1 (.slice (some ⟨g, 0, none⟩) (n + 1) c) (n + 1) (xs ++ [x]) ∧ base ≤ g ∧ w.heap.size ≤ w'.heap.size ∧ (v.ownBlock = some g ∨ g = w.heap.size) ∧
      (∀ a : Addr, a.block < w.heap.size → some a.block ≠ v.ownBlock → w'.cell? a = w.cell? a) ∧ (∀ a, w'.frozen? a = w.frozen? a) ∧ (∀ w0, Grown w0 w → w0.heap.size ≤ base → Grown w0 w') ∧ w.grownBy w' v.ownBlock := by
  have hc : ∀ j u, [x][j]? = some u → w.cell? ((⟨b, 0, none⟩ : Addr).add j) = some u := by
    intro j u hu
    match j, hu with
    | 0, hu => simp at hu; subst hu; simpa [Addr.add] using hx
  obtain ⟨g, c, w', hr, own, grow, at', lt⟩ := run_append_lies (P := P) w t ty base e i z 1 bytes ht hi hz hsize hby hzs (by decide) v n xs hown ⟨b, 0, none⟩ 1 1 [x] rfl hc (by intro u hu; simp at hu; subst hu; exact h1) (by decide) h63 hbytes hbase _ rfl
  have hgb : base ≤ g := by
    rcases own.2 with ⟨h, _⟩ | ⟨g', _, _, h, hb, _⟩
    · cases h
    · cases h; exact hb
  have all : (∀ a, w'.frozen? a = w.frozen? a) ∧ ∀ w0, Grown w0 w → w0.heap.size ≤ base → Grown w0 w' := by
    rcases hown.2 with ⟨rfl, rfl⟩ | ⟨g0, cap, cur, rfl, hbg, hg0, hnc, hcm, hcs, htake⟩
    · have h2 := run_append_nil (P := P) w t ty e i z ht hi hz ⟨b, 0, none⟩ 1 1 [x] (by rw [hsize]; rfl) hc (by decide) (by decide) (by rw [hby]; omega)
      rw [h2] at hr
      injection hr with _ e2
      subst e2
      exact ⟨fun a => frozen?_alloc_cells _ _ _ a, fun w0 h _ => Grown.alloc (Grown.drew h) _ _⟩
    · by_cases room : n + 1 ≤ cap
      · have h2 := run_append_room (P := P) w t ty e i ht hi g0 n cap cur hg0 ⟨b, 0, none⟩ 1 1 [x] (by rw [hsize]; rfl) hc (by intro u hu; simp at hu; subst hu; exact h1) room (by rw [hsize]; simp at hcs ⊢; omega)
        rw [h2] at hr
        injection hr with _ e2
        subst e2
        exact ⟨fun a => frozen_setRow w g0 cur _ e hg0 a, fun w0 h hw => grown_setRow h g0 cur _ e hg0 (by omega)⟩
      · have h2 := run_append_grow (P := P) w t ty e i z ht hi hz ⟨g0, 0, none⟩ n cap xs (by rw [hsize]; exact hown.1) (hown.cells (g := g0) rfl) ⟨b, 0, none⟩ 1 1 [x] (by rw [hsize]; rfl) hc (by omega) (by simp only [maxLen] at h63; omega) (growslice_fits (by omega) (by rw [hby]; exact hbytes))
        rw [h2] at hr
        injection hr with _ e2
        subst e2
        exact ⟨fun a => frozen?_alloc_cells _ _ _ a, fun w0 h _ => Grown.alloc (Grown.drew h) _ _⟩
  exact ⟨g, c, w', hr, own, hgb, grow.size, at', fun a ha hne => grow.cell_far a ha hne, all.1, all.2, grow⟩

theorem step_append_one {P:Program} {ops:Array Oper} {o:Oper} {a:Act} {w:World} {K:Act→World→Prop} {Q:Exit→Act→World→Prop} {E:Prop} (hgd:o.guard=none) (s x:Operand) (t:TypeId)
  (ho:o.op=.call { callee:=.builtin .append,args:=#[s,x],argTypes:=#[t,t] })
  (e:TypeId) (i:TypeInfo) (z:Value) (bytes:Nat) (ht:P.underlying t=some (.slice e)) (hi:P.info? e=some i) (hz:i.zero=some z) (hsize:i.size=1) (hby:i.bytes=bytes) (hzs:z.cells.size=1)
  (base:Nat) (v:Value) (n:Nat) (xs:List Value) (hs:a.eval s=v) (hown:w.ownsRow base e 1 v n xs) (b:Nat) (u:Value) (hx:a.eval x=.slice (some ⟨b,0,none⟩) 1 1) (hu:w.cell? ⟨b,0,none⟩=some u) (h1:u.oneCell'=true)
  (h63:n+1≤maxLen) (hbytes:(n+1)*bytes≤140737488355328) (hbase:base≤w.heap.size)
  (h:∀ g c w',w'.ownsRow base e 1 (.slice (some ⟨g,0,none⟩) (n+1) c) (n+1) (xs++[u])→base≤g→w.heap.size≤w'.heap.size→(v.ownBlock=some g∨g=w.heap.size)→
   (∀ a:Addr,a.block<w.heap.size→some a.block≠v.ownBlock→w'.cell? a=w.cell? a)→(∀ a,w'.frozen? a=w.frozen? a)→(∀ w0,Grown w0 w→w0.heap.size≤base→Grown w0 w')→
   K (a.put o.dst (.slice (some ⟨g,0,none⟩) (n+1) c)) w'):if Region.wanted o (yielded ops a.tmps)=true then Oper.wp P o a w K Q else E:=by
 have hw:Region.wanted o (yielded ops a.tmps)=true:=by simp [Region.wanted,hgd]
 rw [if_pos hw]
 obtain ⟨g,c,w',hr,h2,h3,h4,h5,h6,h7,h8,h9⟩:=run_append_one (P:=P) w t o.type e i z bytes ht hi hz hsize hby hzs base v n xs hown b u hu h1 h63 hbytes hbase
 unfold Oper.wp execOp
 simp only [ho,resolve,invoke,builtin,Sem.run_bind,Sem.run_pure,Result.andThen_ok,List.map_toArray,List.map_cons,List.map_nil,hs,hx,hr]
 exact h g c w' h2 h3 h4 h5 h6 h7 h8

theorem step_append_kept {P:Program} {ops:Array Oper} {o:Oper} {a:Act} {w:World} {K:Act→World→Prop} {Q:Exit→Act→World→Prop} {E:Prop} (hgd:o.guard=none) (s x:Operand) (t:TypeId)
  (ho:o.op=.call { callee:=.builtin .append,args:=#[s,x],argTypes:=#[t,t] })
  (e:TypeId) (i:TypeInfo) (z:Value) (bytes:Nat) (ht:P.underlying t=some (.slice e)) (hi:P.info? e=some i) (hz:i.zero=some z) (hsize:i.size=1) (hby:i.bytes=bytes) (hzs:z.cells.size=1)
  (base:Nat) (v:Value) (n:Nat) (xs:List Value) (hs:a.eval s=v) (hown:w.ownsRow base e 1 v n xs) (b:Nat) (u:Value) (hx:a.eval x=.slice (some ⟨b,0,none⟩) 1 1) (hu:w.cell? ⟨b,0,none⟩=some u) (h1:u.oneCell'=true)
  (h63:n+1≤maxLen) (hbytes:(n+1)*bytes≤140737488355328) (hbase:base≤w.heap.size)
  (h:∀ g c w',w'.ownsRow base e 1 (.slice (some ⟨g,0,none⟩) (n+1) c) (n+1) (xs++[u])→base≤g→w.heap.size≤w'.heap.size→(v.ownBlock=some g∨g=w.heap.size)→
   (∀ a:Addr,a.block<w.heap.size→some a.block≠v.ownBlock→w'.cell? a=w.cell? a)→(∀ a,w'.frozen? a=w.frozen? a)→(∀ w0,Grown w0 w→w0.heap.size≤base→Grown w0 w')→w.grownBy w' v.ownBlock→
   K (a.put o.dst (.slice (some ⟨g,0,none⟩) (n+1) c)) w'):if Region.wanted o (yielded ops a.tmps)=true then Oper.wp P o a w K Q else E:=by
 have hw:Region.wanted o (yielded ops a.tmps)=true:=by simp [Region.wanted,hgd]
 rw [if_pos hw]
 obtain ⟨g,c,w',hr,h2,h3,h4,h5,h6,h7,h8,h9⟩:=run_append_one (P:=P) w t o.type e i z bytes ht hi hz hsize hby hzs base v n xs hown b u hu h1 h63 hbytes hbase
 unfold Oper.wp execOp
 simp only [ho,resolve,invoke,builtin,Sem.run_bind,Sem.run_pure,Result.andThen_ok,List.map_toArray,List.map_cons,List.map_nil,hs,hx,hr]
 exact h g c w' h2 h3 h4 h5 h6 h7 h8 h9

theorem wpList_append_one {P:Program} {ops:Array Oper} {rest:List Oper} {o:Oper} {a:Act} {w:World} {Q:Exit→Act→World→Prop} (hgd:o.guard=none) (s x:Operand) (t:TypeId)
  (ho:o.op=.call { callee:=.builtin .append,args:=#[s,x],argTypes:=#[t,t] })
  (e:TypeId) (i:TypeInfo) (z:Value) (bytes:Nat) (ht:P.underlying t=some (.slice e)) (hi:P.info? e=some i) (hz:i.zero=some z) (hsize:i.size=1) (hby:i.bytes=bytes) (hzs:z.cells.size=1)
  (base:Nat) (v:Value) (n:Nat) (xs:List Value) (hs:a.eval s=v) (hown:w.ownsRow base e 1 v n xs) (b:Nat) (u:Value) (hx:a.eval x=.slice (some ⟨b,0,none⟩) 1 1) (hu:w.cell? ⟨b,0,none⟩=some u) (h1:u.oneCell'=true)
  (h63:n+1≤maxLen) (hbytes:(n+1)*bytes≤140737488355328) (hbase:base≤w.heap.size)
  (h:∀ g c w',w'.ownsRow base e 1 (.slice (some ⟨g,0,none⟩) (n+1) c) (n+1) (xs++[u])→base≤g→w.heap.size≤w'.heap.size→(v.ownBlock=some g∨g=w.heap.size)→
   (∀ a:Addr,a.block<w.heap.size→some a.block≠v.ownBlock→w'.cell? a=w.cell? a)→(∀ a,w'.frozen? a=w.frozen? a)→(∀ w0,Grown w0 w→w0.heap.size≤base→Grown w0 w')→
   wpList P ops Q rest (a.put o.dst (.slice (some ⟨g,0,none⟩) (n+1) c)) w'):wpList P ops Q (o::rest) a w:=by
 refine wpList_plain hgd fun _ hK=>?_
 obtain ⟨g,c,w',hr,h2,h3,h4,h5,h6,h7,h8,h9⟩:=run_append_one (P:=P) w t o.type e i z bytes ht hi hz hsize hby hzs base v n xs hown b u hu h1 h63 hbytes hbase
 unfold Oper.wp execOp
 simp only [ho,resolve,invoke,builtin,Sem.run_bind,Sem.run_pure,Result.andThen_ok,List.map_toArray,List.map_cons,List.map_nil,hs,hx,hr]
 exact hK _ _ (h g c w' h2 h3 h4 h5 h6 h7 h8)

theorem heap_kept {w w' : World} (h : Grown w w') {b : Nat} {c : Array Value} {t : TypeId} {fr : Nat × Nat} (hb : w.heap[b]? = some (.cells c t fr)) : w'.heap[b]? = some (.cells c t fr) := by
  have hl : b < w.heap.size := (Array.getElem?_eq_some_iff.1 hb).1
  have k := h.1.2.2 b hl
  rw [hb] at k
  cases e : w'.heap[b]? with
  | none => rw [e] at k; cases k
  | some o =>
    rw [e] at k
    cases o with
    | cells c' t' fr' =>
      obtain ⟨h1, h2, h3, h4⟩ := k
      have : c' = c := Array.ext_getElem? fun j => h4 j (fun f => f)
      subst h1 h2 this
      rfl
    | _ => cases k

theorem owns_grown {w w':World} {base:Nat} {e:TypeId} {size:Nat} {v:Value} {n:Nat} {xs:List Value} (h:w.ownsRow base e size v n xs) (k:Grown w w'):w'.ownsRow base e size v n xs:=by
 obtain ⟨h1,h2⟩:=h
 refine ⟨h1,?_⟩
 rcases h2 with h | ⟨g,cap,cur,e1,e2,e3,e4⟩
 ·exact .inl h
 ·exact .inr ⟨g,cap,cur,e1,e2,heap_kept k e3,e4⟩

theorem grown_dn {W W1:World} {m:Nat} (h:W1=W.drewN m):Grown W W1:=h▸grown_drewN W m

theorem TenAt.far {b:Nat} {v0 v1 v2 v3:Value} {W W':World} (h:TenAt b v0 v1 v2 v3 W) (hs:W.heap.size≤W'.heap.size) (hc:∀ off,W'.cell? ⟨b,off,none⟩=W.cell? ⟨b,off,none⟩) (hf:∀ a,W'.frozen? a=W.frozen? a):TenAt b v0 v1 v2 v3 W':=
 ⟨Nat.lt_of_lt_of_le h.lies hs,by rw [hc];exact h.c0,by rw [hc];exact h.c1,by rw [hc];exact h.c2,by rw [hc];exact h.c3,by rw [hf];exact h.z0,by rw [hf];exact h.z1,by rw [hf];exact h.z2,by rw [hf];exact h.z3⟩

theorem TenAt.put {b:Nat} {v0 v1 v2 v3:Value} {W:World} (h:TenAt b v0 v1 v2 v3 W) (u:Value):TenAt b v0 v1 v2 u (W.setCell ⟨b,3,none⟩ u):=by
 have z:∀ x,(W.setCell ⟨b,3,none⟩ u).frozen? x=W.frozen? x:=fun x=>World.frozen?_setCell _ _ _ _
 exact ⟨by simpa [World.setCell] using h.lies,by rw [World.cell?_setCell_other (h:=by simp)];exact h.c0,by rw [World.cell?_setCell_other (h:=by simp)];exact h.c1,by rw [World.cell?_setCell_other (h:=by simp)];exact h.c2,by rw [World.cell?_setCell_same (h:=h.c3)],
  by rw [z];exact h.z0,by rw [z];exact h.z1,by rw [z];exact h.z2,by rw [z];exact h.z3⟩

theorem owns_set {W:World} {base:Nat} {e:TypeId} {size:Nat} {v:Value} {n:Nat} {xs:List Value} (h:W.ownsRow base e size v n xs) {a:Addr} (ha:a.block<base) (u:Value):(W.setCell a u).ownsRow base e size v n xs:=by
 obtain ⟨h1,h2⟩:=h
 refine ⟨h1,?_⟩
 rcases h2 with h | ⟨g,cap,cur,e1,e2,e3,e4⟩
 ·exact .inl h
 ·exact .inr ⟨g,cap,cur,e1,e2,by rw [Deep.blk_setCell_other _ _ _ _ (by omega)];exact e3,e4⟩

structure Rowed (b M:Nat) (h:Nat→Int) (W:World):Prop where
 lies:b<W.heap.size
 cell:∀ t,t<M→W.cell? ⟨b,t,none⟩=some (.int .u32 (h t))
 free:∀ t,W.frozen? ⟨b,t,none⟩=false

theorem Rowed.grown {b M:Nat} {h:Nat→Int} {W W':World} (r:Rowed b M h W) (g:Grown W W'):Rowed b M h W':=
 ⟨Nat.lt_of_lt_of_le r.lies g.2.2,fun t ht=>grown_cell g (r.cell t ht) r.lies,fun t=>by rw [g.2.1];exact r.free t⟩

theorem Rowed.set {b M:Nat} {h h':Nat→Int} {W:World} (r:Rowed b M h W) {j:Nat} {v:Int} (e1:h' j=v) (e2:∀ t,t≠j→h' t=h t):Rowed b M h' (W.setCell ⟨b,j,none⟩ (.int .u32 v)):=by
 refine ⟨by simpa [World.setCell] using r.lies,fun t ht=>?_,fun t=>(World.frozen?_setCell _ _ _ _).trans (r.free t)⟩
 by_cases e:t=j
 ·subst e
  rw [World.cell?_setCell_same (h:=r.cell t ht),e1]
 ·rw [World.cell?_setCell_other (h:=fun c=>e (by cases c;rfl)),r.cell t ht,e2 t e]

theorem Rowed.other {b M:Nat} {h:Nat→Int} {W:World} (r:Rowed b M h W) {a:Addr} (ha:b≠a.block) (v:Value):Rowed b M h (W.setCell a v):=
 ⟨by simpa [World.setCell] using r.lies,fun t ht=>(World.cell?_of_block (w:=W) (Below.heap_setCell _ _ _ _ ha)).trans (r.cell t ht),fun t=>(World.frozen?_setCell _ _ _ _).trans (r.free t)⟩

theorem Rowed.congr {b M:Nat} {h h':Nat→Int} {W:World} (r:Rowed b M h W) (e:∀ t,t<M→h' t=h t):Rowed b M h' W:=⟨r.lies,fun t ht=>by rw [e t ht];exact r.cell t ht,r.free⟩

def OwnS (ad:Option Addr) (n c:Nat) (h:Nat→Int) (w W:World):Prop:=
 (n=0∧ad=none∧c=0)∨∃ b,ad=some ⟨b,0,none⟩∧w.heap.size≤b∧Rowed b n h W∧n≤c

theorem OwnS.grown {ad:Option Addr} {n c:Nat} {h:Nat→Int} {w W W':World} (o:OwnS ad n c h w W) (g:Grown W W'):OwnS ad n c h w W':=by
 rcases o with o | ⟨b,h1,h2,h3,h4⟩
 ·exact .inl o
 ·exact .inr ⟨b,h1,h2,h3.grown g,h4⟩

theorem OwnS.back {ad:Option Addr} {n c:Nat} {h:Nat→Int} {w w1 W:World} (o:OwnS ad n c h w1 W) (g:Grown w w1):OwnS ad n c h w W:=by
 rcases o with o | ⟨b,h1,h2,h3,h4⟩
 ·exact .inl o
 ·exact .inr ⟨b,h1,Nat.le_trans g.2.2 h2,h3,h4⟩

theorem OwnS.congr {ad:Option Addr} {n c:Nat} {h h':Nat→Int} {w W:World} (o:OwnS ad n c h w W) (e:∀ t,t<n→h' t=h t):OwnS ad n c h' w W:=by
 rcases o with o | ⟨b,h1,h2,h3,h4⟩
 ·exact .inl o
 ·exact .inr ⟨b,h1,h2,h3.congr e,h4⟩

theorem OwnS.fresh {ad:Option Addr} {n c:Nat} {h:Nat→Int} {w W:World} (o:OwnS ad n c h w W):Fresh ad w:=by
 rcases o with ⟨_,rfl,_⟩ | ⟨b,rfl,h2,_⟩
 ·exact fresh_none w
 ·exact fun x hx=>by cases hx;exact h2

theorem OwnS.reads {ad:Option Addr} {n c:Nat} {h:Nat→Int} {w W:World} (o:OwnS ad n c h w W) (hb:∀ t,t<n→0≤h t∧h t≤4294967295):Reads ad n h W:=by
 refine ⟨hb,?_⟩
 rcases o with ⟨h0,_⟩ | ⟨b,rfl,_,r,_⟩
 ·exact .inl h0
 ·exact .inr ⟨b,0,rfl,r.lies,fun i hi=>by rw [Nat.zero_add];exact r.cell i hi⟩

theorem OwnS.set {ad:Option Addr} {n c:Nat} {h:Nat→Int} {w W:World} (o:OwnS ad n c h w W) {a:Addr} (ha:∀ x,ad=some x→x.block≠a.block) (v:Value):OwnS ad n c h w (W.setCell a v):=by
 rcases o with o | ⟨b,h1,h2,h3,h4⟩
 ·exact .inl o
 ·exact .inr ⟨b,h1,h2,h3.other (ha _ h1) v,h4⟩

theorem OwnS.sound {ad:Option Addr} {n c:Nat} {h:Nat→Int} {w W:World} (o:OwnS ad n c h w W):Sound ad n c:=by
 rcases o with ⟨rfl,rfl,rfl⟩ | ⟨b,rfl,_,_,hc⟩
 ·exact ⟨Nat.le_refl _,fun _=>rfl⟩
 ·exact ⟨hc,fun h=>by cases h⟩

theorem run_append_nothing {P:Program} (w:World) (t ty e:TypeId) (i:TypeInfo) (ht:P.underlying t=some (.slice e)) (hi:P.info? e=some i) (hsize:i.size=1) (ad:Option Addr) (c:Nat):
  (Builtin.append_ #[t,t] ty #[.slice none 0 0,.slice ad 0 c]).run P w=.ok (.slice none 0 0) w:=by
 cases ad with
 | none=>simp [Builtin.append_,run_underlying ht,sizeOf,typeInfo,hi,Builtin.lenOf,Builtin.firstCells]
 | some a=>simp [Builtin.append_,run_underlying ht,sizeOf,typeInfo,hi,Builtin.lenOf,Builtin.firstCells,hsize,loadCells,loadCellsFrom]

theorem run_append_copy {P:Program} (w:World) (t ty e:TypeId) (i:TypeInfo) (z:Value) (bytes:Nat) (ht:P.underlying t=some (.slice e)) (hi:P.info? e=some i) (hz:i.zero=some z) (hsize:i.size=1) (hby:i.bytes=bytes)
  (ad:Option Addr) (n c:Nat) (g:Nat→Int) (hr:Reads ad n g w) (h63:n≤maxLen) (hbytes:n*bytes≤140737488355328):
  ∃ ad' c' w',(Builtin.append_ #[t,t] ty #[.slice none 0 0,.slice ad n c]).run P w=.ok (.slice ad' n c') w'∧OwnS ad' n c' g w w'∧(∀ w0,Grown w0 w→Grown w0 w'):=by
 by_cases h0:n=0
 ·subst h0
  exact ⟨none,0,w,run_append_nothing w t ty e i ht hi hsize ad c,.inl ⟨rfl,rfl,rfl⟩,fun _ h=>h⟩
 ·obtain ⟨b,off,rfl,hl,hc⟩:∃ b off,ad=some ⟨b,off,none⟩∧b<w.heap.size∧∀ i,i<n→w.cell? ⟨b,off+i,none⟩=some (.int .u32 (g i)):=by
   rcases hr.2 with h | h
   ·exact absurd h h0
   ·exact h
  have hlen:((List.range n).map fun i=>Value.int .u32 (g i)).length=n*i.size:=by simp [hsize]
  have hnews:∀ j v,((List.range n).map fun i=>Value.int .u32 (g i))[j]?=some v→w.cell? ((⟨b,off,none⟩:Addr).add j)=some v:=by
   intro j v hj
   rw [List.getElem?_map] at hj
   by_cases hjn:j<n
   ·rw [List.getElem?_range hjn] at hj
    simp at hj
    subst hj
    rw [Addr.add_lit]
    exact hc j hjn
   ·rw [List.getElem?_eq_none (by simp;omega)] at hj
    simp at hj
  have h2:=run_append_nil (P:=P) w t ty e i z ht hi hz ⟨b,off,none⟩ n c _ hlen hnews (by omega) (by simp only [maxLen] at h63;omega) (by rw [hby];omega)
  refine ⟨_,_,_,h2,.inr ⟨w.heap.size,rfl,Nat.le_refl _,⟨by simp,fun t ht=>?_,fun t=>?_⟩,grownCap_ge _ _ _ _⟩,fun w0 h=>Grown.alloc (Grown.drew h) _ _⟩
  ·rw [show w.heap.size=w.drew.heap.size from rfl,World.cell?_alloc_at (hn:=rfl)]
   rw [Array.getElem?_append_left (by simp;omega)]
   simp [ht]
  ·exact World.frozen?_alloc_new _ _ _ _

theorem step_append_copy {P:Program} {ops:Array Oper} {o:Oper} {a:Act} {w:World} {K:Act→World→Prop} {Q:Exit→Act→World→Prop} {E:Prop} (hgd:o.guard=none) (s x:Operand) (t:TypeId)
  (ho:o.op=.call { callee:=.builtin .append,args:=#[s,x],argTypes:=#[t,t] })
  (e:TypeId) (i:TypeInfo) (z:Value) (bytes:Nat) (ht:P.underlying t=some (.slice e)) (hi:P.info? e=some i) (hz:i.zero=some z) (hsize:i.size=1) (hby:i.bytes=bytes)
  (hs:a.eval s=.slice none 0 0) (ad:Option Addr) (n c:Nat) (g:Nat→Int) (hx:a.eval x=.slice ad n c) (hr:Reads ad n g w) (h63:n≤maxLen) (hbytes:n*bytes≤140737488355328)
  (h:∀ ad' c' w',OwnS ad' n c' g w w'→(∀ w0,Grown w0 w→Grown w0 w')→K (a.put o.dst (.slice ad' n c')) w'):if Region.wanted o (yielded ops a.tmps)=true then Oper.wp P o a w K Q else E:=by
 have hw:Region.wanted o (yielded ops a.tmps)=true:=by simp [Region.wanted,hgd]
 rw [if_pos hw]
 obtain ⟨ad',c',w',hr,h2,h3⟩:=run_append_copy (P:=P) w t o.type e i z bytes ht hi hz hsize hby ad n c g hr h63 hbytes
 unfold Oper.wp execOp
 simp only [ho,resolve,invoke,builtin,Sem.run_bind,Sem.run_pure,Result.andThen_ok,List.map_toArray,List.map_cons,List.map_nil,hs,hx,hr]
 exact h ad' c' w' h2 h3

theorem wpList_append_copy {P:Program} {ops:Array Oper} {rest:List Oper} {o:Oper} {a:Act} {w:World} {Q:Exit→Act→World→Prop} (hgd:o.guard=none) (s x:Operand) (t:TypeId)
  (ho:o.op=.call { callee:=.builtin .append,args:=#[s,x],argTypes:=#[t,t] })
  (e:TypeId) (i:TypeInfo) (z:Value) (bytes:Nat) (ht:P.underlying t=some (.slice e)) (hi:P.info? e=some i) (hz:i.zero=some z) (hsize:i.size=1) (hby:i.bytes=bytes)
  (hs:a.eval s=.slice none 0 0) (ad:Option Addr) (n c:Nat) (g:Nat→Int) (hx:a.eval x=.slice ad n c) (hr:Reads ad n g w) (h63:n≤maxLen) (hbytes:n*bytes≤140737488355328)
  (h:∀ ad' c' w',OwnS ad' n c' g w w'→(∀ w0,Grown w0 w→Grown w0 w')→wpList P ops Q rest (a.put o.dst (.slice ad' n c')) w'):wpList P ops Q (o::rest) a w:=by
 refine wpList_plain hgd fun _ hK=>?_
 obtain ⟨ad',c',w',hr,h2,h3⟩:=run_append_copy (P:=P) w t o.type e i z bytes ht hi hz hsize hby ad n c g hr h63 hbytes
 unfold Oper.wp execOp
 simp only [ho,resolve,invoke,builtin,Sem.run_bind,Sem.run_pure,Result.andThen_ok,List.map_toArray,List.map_cons,List.map_nil,hs,hx,hr]
 exact hK _ _ (h ad' c' w' h2 h3)

theorem run_make_cap {P:Program} (t e:TypeId) (z:Value) (bytes:Nat) (ht:P.underlying t=some (.slice e)) (hinfo:(P.info? e).map (fun i=>(i.zero,i.size,i.bytes))=some (some z,1,bytes)) (hz1:z.cells=#[z])
  (kl kc:IntKind) (n:Nat) (hbytes:bytes*n≤281474976710656) (h63:n≤9223372036854775807) (w:World):
  (Instr.makeSlice t (.int kl 0) (.int kc (n:Int))).run P w=.ok (.slice (some ⟨w.heap.size,0,none⟩) 0 n) (w.alloc (.cells (madeCells #[z] n) e)):=by
 obtain ⟨i,hi,hzz⟩:=Option.map_eq_some_iff.1 hinfo
 simp only [Prod.mk.injEq] at hzz
 obtain ⟨hz,hs,hb⟩:=hzz
 have hb':(i.bytes:Int)*(n:Int)≤281474976710656:=by
  have h:((i.bytes*n:Nat):Int)≤281474976710656:=by rw [hb];omega
  rwa [Int.natCast_mul] at h
 have hr:=run_make (P:=P) w t e i z ht hi hz kl kc 0 n (Int.le_refl _) (by omega) hb' (by omega)
 simp only [Int.toNat_natCast,hs,Nat.mul_one,hz1] at hr
 exact hr

theorem owns_cap (w:World) (base n:Nat) (z:Value) (e:TypeId) (hb:base≤w.heap.size) (hn:n≤maxLen):(w.alloc (.cells (madeCells #[z] n) e)).ownsRow base e 1 (.slice (some ⟨w.heap.size,0,none⟩) 0 n) 0 []:=
 ⟨rfl,.inr ⟨w.heap.size,n,madeCells #[z] n,rfl,hb,heap_alloc_new w _,Nat.zero_le _,hn,by simp [madeCells],by simp⟩⟩

def wordsL (k:Nat) (G:Nat→Int):List Value:=(List.range k).map fun i=>Value.int .u32 (G i)

theorem wordsL_next (k:Nat) (G:Nat→Int):wordsL (k+1) G=wordsL k G++[.int .u32 (G k)]:=by unfold wordsL;rw [List.range_succ,List.map_append];rfl

theorem wordsL_at (k:Nat) (G:Nat→Int) (i:Nat) (hi:i<k):(wordsL k G)[i]?=some (.int .u32 (G i)):=by unfold wordsL;rw [List.getElem?_map,List.getElem?_range hi];rfl

theorem owns_told {w W:World} {base:Nat} {e:TypeId} {v:Value} {n:Nat} {G:Nat→Int} (h:W.ownsRow base e 1 v n (wordsL n G)) (hb:w.heap.size≤base):
  ∃ ad c,v=.slice ad n c∧OwnS ad n c G w W∧(∀ x,ad=some x→base≤x.block):=by
 rcases h.2 with ⟨rfl,rfl⟩ | ⟨g,cap,cur,rfl,hg,hh,hc,_⟩
 ·exact ⟨none,0,rfl,.inl ⟨rfl,rfl,rfl⟩,fun x hx=>by cases hx⟩
 ·refine ⟨some ⟨g,0,none⟩,cap,rfl,.inr ⟨g,rfl,by omega,⟨(Array.getElem?_eq_some_iff.1 hh).1,fun t ht=>?_,fun t=>?_⟩,hc⟩,fun x hx=>by cases hx;exact hg⟩
  ·have:=h.cells (g:=g) rfl t _ (wordsL_at n G t ht)
   have ha:(⟨g,0,none⟩:Addr).add t=⟨g,t,none⟩:=by unfold Addr.add;split <;> simp_all
   rw [ha] at this
   exact this
  ·unfold World.frozen?
   rw [hh]
   simp

theorem rowed_new (w:World) (M:Nat) (t:TypeId):Rowed w.heap.size M (fun _=>0) (w.alloc (.cells (madeCells #[.int .u32 0] M) t)):=by
 refine ⟨by simp,fun j hj=>?_,fun j=>World.frozen?_alloc_new _ _ _ _⟩
 rw [World.cell?_alloc_at (hn:=rfl)]
 simp [madeCells,hj,Nat.mod_one]

theorem rowed_new2 (w:World) (M:Nat) (t:TypeId) (cs:Array Value) (t':TypeId):Rowed (w.heap.size+1) M (fun _=>0) ((w.alloc (.cells cs t')).alloc (.cells (madeCells #[.int .u32 0] M) t)):=by
 have h:=rowed_new (w.alloc (.cells cs t')) M t
 simp only [World.size_alloc] at h
 exact h

structure P1 (w:World) (B nb ob M:Nat) (a0 a1 a2 a3 m n fv:Value) (G:Nat→Int) (k:Nat) (W:World):Prop where
 g:Grown w W
 t1:TenAt B a0 a1 a2 a3 W
 t3:TenAt (B+1) (.int .i64 0) (.int .i64 0) (.int .i64 0) (.slice none 0 0) W
 t4:TenAt ob m n fv (.slice (some ⟨nb,0,none⟩) M M) W
 f:Filled nb M G k W
 o:B+1<nb
 o2:B+1<ob
 ne:nb≠ob
 s:w.heap.size≤B

theorem P1.grown {w:World} {B nb ob M:Nat} {a0 a1 a2 a3 m n fv:Value} {G:Nat→Int} {k:Nat} {W:World} {W':World} (h:P1 w B nb ob M a0 a1 a2 a3 m n fv G k W) (g:Grown W W'):P1 w B nb ob M a0 a1 a2 a3 m n fv G k W':=
 ⟨grown_trans h.g g,h.t1.grown g,h.t3.grown g,h.t4.grown g,h.f.grown g,h.o,h.o2,h.ne,h.s⟩

theorem P1.set {w:World} {B nb ob M:Nat} {a0 a1 a2 a3 m n fv:Value} {G:Nat→Int} {k:Nat} {W:World} (h:P1 w B nb ob M a0 a1 a2 a3 m n fv G k W) (hk:k<M):P1 w B nb ob M a0 a1 a2 a3 m n fv G (k+1) (W.setCell ⟨nb,k,none⟩ (.int .u32 (G k))):=
 ⟨Grown.setCell h.g (by have:=h.o;have:=h.s;show w.heap.size≤nb;omega) _,h.t1.set (by have:=h.o;show B≠nb;omega) _,h.t3.set (by have:=h.o;show B+1≠nb;omega) _,
  h.t4.set (by have:=h.ne;show ob≠nb;omega) _,h.f.set hk,h.o,h.o2,h.ne,h.s⟩

theorem P1.upd {w:World} {B nb ob M:Nat} {a0 a1 a2 a3 m n fv:Value} {G:Nat→Int} {k:Nat} {W:World} {G':Nat→Int} (h:P1 w B nb ob M a0 a1 a2 a3 m n fv G M W) {j:Nat} (hj:j<M) {v:Int} (e1:G' j=v) (e2:∀ t,t≠j→G' t=G t):P1 w B nb ob M a0 a1 a2 a3 m n fv G' M (W.setCell ⟨nb,j,none⟩ (.int .u32 v)):=
 ⟨Grown.setCell h.g (by have:=h.o;have:=h.s;show w.heap.size≤nb;omega) _,h.t1.set (by have:=h.o;show B≠nb;omega) _,h.t3.set (by have:=h.o;show B+1≠nb;omega) _,
  h.t4.set (by have:=h.ne;show ob≠nb;omega) _,h.f.upd hj e1 e2,h.o,h.o2,h.ne,h.s⟩

def ProdOut (P:Nat→World→Prop) (m n:Nat) (i:Value) (wr:World):Prop:=∃ I:Nat,I≤m∧i=.int .i64 I∧P (I*n) wr

def ProdIn (P:Nat→World→Prop) (n d:Nat) (j:Value) (wr:World):Prop:=∃ J:Nat,J≤n∧j=.int .i64 J∧P (d+J) wr

structure PS (w:World) (B nb ob M:Nat) (a0 a1 a2 a3 b0 b1 b2 b3 m n fv:Value) (G:Nat→Int) (k:Nat) (W:World):Prop where
 g:Grown w W
 t1:TenAt B a0 a1 a2 a3 W
 t2:TenAt (B+1) b0 b1 b2 b3 W
 t3:TenAt (B+1+1) (.int .i64 0) (.int .i64 0) (.int .i64 0) (.slice none 0 0) W
 t4:TenAt ob m n fv (.slice (some ⟨nb,0,none⟩) M M) W
 f:Filled nb M G k W
 o:B+1+1<nb
 o2:B+1+1<ob
 ne:nb≠ob
 s:w.heap.size≤B

theorem PS.grown {w:World} {B nb ob M:Nat} {a0 a1 a2 a3 b0 b1 b2 b3 m n fv:Value} {G:Nat→Int} {k:Nat} {W:World} {W':World} (h:PS w B nb ob M a0 a1 a2 a3 b0 b1 b2 b3 m n fv G k W) (g:Grown W W'):PS w B nb ob M a0 a1 a2 a3 b0 b1 b2 b3 m n fv G k W':=
 ⟨grown_trans h.g g,h.t1.grown g,h.t2.grown g,h.t3.grown g,h.t4.grown g,h.f.grown g,h.o,h.o2,h.ne,h.s⟩

theorem PS.set {w:World} {B nb ob M:Nat} {a0 a1 a2 a3 b0 b1 b2 b3 m n fv:Value} {G:Nat→Int} {k:Nat} {W:World} (h:PS w B nb ob M a0 a1 a2 a3 b0 b1 b2 b3 m n fv G k W) (hk:k<M):PS w B nb ob M a0 a1 a2 a3 b0 b1 b2 b3 m n fv G (k+1) (W.setCell ⟨nb,k,none⟩ (.int .u32 (G k))):=
 ⟨Grown.setCell h.g (by have:=h.o;have:=h.s;show w.heap.size≤nb;omega) _,h.t1.set (by have:=h.o;show B≠nb;omega) _,h.t2.set (by have:=h.o;show B+1≠nb;omega) _,h.t3.set (by have:=h.o;show B+1+1≠nb;omega) _,
  h.t4.set (by have:=h.ne;show ob≠nb;omega) _,h.f.set hk,h.o,h.o2,h.ne,h.s⟩
end Go.Proofs.YteifobleigfbaaaGreat
