/- Rows of the call's own: appended to, read; blocks of cells. No program. -/
import Derived.Test.YteifobleigfbaaaGreatWorld
namespace Go.Proofs.YteifobleigfbaaaGreat
open Go Go.RowKit
set_option linter.unusedVariables false
set_option linter.unusedSimpArgs false

/-- append([]uint32(nil), l...): a row of the call's own. -/
theorem run_append_row {P : Program} (w : World) (t ty e : TypeId) (i : TypeInfo) (z : Value) (bytes : Nat) (ht : P.underlying t = some (.slice e)) (hi : P.info? e = some i) (hz : i.zero = some z) (hsize : i.size = 1) (hby : i.bytes = bytes) (hzs : z.cells.size = 1)
    (base : Nat) (ad : Option Addr) (n c : Nat) (g : Nat → Int) (hr : Reads ad n g w) (h63 : n ≤ maxLen) (hbytes : n * bytes ≤ 140737488355328) (hbase : base ≤ w.heap.size) :
    ∃ v' w', (Builtin.append_ #[t, t] ty #[.slice none 0 0, .slice ad n c]).run P w = .ok v' w' ∧ w'.ownsRow base e 1 v' n (wordsL n g) ∧ w.heap.size ≤ w'.heap.size ∧ (∀ w0, Grown w0 w → Grown w0 w') := by
  by_cases h0 : n = 0
  · subst h0
    exact ⟨.slice none 0 0, w, run_append_nothing w t ty e i ht hi hsize ad c, World.ownsRow_nil _ _ _ _, Nat.le_refl _, fun _ h => h⟩
  · obtain ⟨b, off, rfl, hl, hc⟩ : ∃ b off, ad = some ⟨b, off, none⟩ ∧ b < w.heap.size ∧ ∀ i, i < n → w.cell? ⟨b, off + i, none⟩ = some (.int .u32 (g i)) := by
      rcases hr.2 with h | h
      · exact absurd h h0
      · exact h
    have hlen : (wordsL n g).length = n * 1 := by simp [wordsL]
    have hnews : ∀ j v, (wordsL n g)[j]? = some v → w.cell? ((⟨b, off, none⟩ : Addr).add j) = some v := by
      intro j v hj
      unfold wordsL at hj
      rw [List.getElem?_map] at hj
      by_cases hjn : j < n
      · rw [List.getElem?_range hjn] at hj
        simp at hj
        subst hj
        rw [Addr.add_lit]
        exact hc j hjn
      · rw [List.getElem?_eq_none (by simp; omega)] at hj
        simp at hj
    have hone : ∀ u ∈ wordsL n g, u.oneCell' = true := by
      intro u hu
      unfold wordsL at hu
      obtain ⟨j, _, rfl⟩ := List.mem_map.1 hu
      rfl
    obtain ⟨g', c', w', hrun, own, grow, at', lt⟩ := run_append_lies (P := P) w t ty base e i z 1 bytes ht hi hz hsize hby hzs (by decide) (.slice none 0 0) 0 [] (World.ownsRow_nil _ _ _ _) ⟨b, off, none⟩ n c (wordsL n g) hlen hnews hone (by omega) (by simp only [maxLen] at h63 ⊢; omega) (by rw [Nat.zero_add]; exact hbytes) hbase _ rfl
    have h2 := run_append_nil (P := P) w t ty e i z ht hi hz ⟨b, off, none⟩ n c (wordsL n g) (by rw [hsize]; exact hlen) hnews (by omega) (by simp only [maxLen] at h63; omega) (by rw [hby]; omega)
    have hg : ∀ w0, Grown w0 w → Grown w0 w' := by
      have hrun' := hrun
      rw [h2] at hrun'
      injection hrun' with _ e2
      subst e2
      exact fun w0 h => Grown.alloc (Grown.drew h) _ _
    rw [Nat.zero_add] at hrun own
    rw [List.nil_append] at own
    exact ⟨_, w', hrun, own, (hg w (Grown.refl w)).2.2, hg⟩

/-- .. in the list of a region's last operations: for the walk (at_builtin). -/
theorem wpList_append_row {P : Program} {ops : Array Oper} {rest : List Oper} {o : Oper} {a : Act} {w : World} {Q : Exit → Act → World → Prop} (hgd : o.guard = none) (s x : Operand) (t : TypeId)
    (ho : o.op = .call { callee := .builtin .append, args := #[s, x], argTypes := #[t, t] })
    (e : TypeId) (i : TypeInfo) (z : Value) (bytes : Nat) (ht : P.underlying t = some (.slice e)) (hi : P.info? e = some i) (hz : i.zero = some z) (hsize : i.size = 1) (hby : i.bytes = bytes) (hzs : z.cells.size = 1)
    (hs : a.eval s = .slice none 0 0) (base : Nat) (ad : Option Addr) (n c : Nat) (g : Nat → Int) (hx : a.eval x = .slice ad n c) (hr : Reads ad n g w) (h63 : n ≤ maxLen) (hbytes : n * bytes ≤ 140737488355328) (hbase : base ≤ w.heap.size)
    (h : ∀ v' w', w'.ownsRow base e 1 v' n (wordsL n g) → w.heap.size ≤ w'.heap.size → (∀ w0, Grown w0 w → Grown w0 w') → wpList P ops Q rest (a.put o.dst v') w') : wpList P ops Q (o :: rest) a w := by
  refine wpList_plain hgd fun _ hK => ?_
  obtain ⟨v', w', hrun, h2, h3, h4⟩ := run_append_row (P := P) w t o.type e i z bytes ht hi hz hsize hby hzs base ad n c g hr h63 hbytes hbase
  unfold Oper.wp execOp
  simp only [ho, resolve, invoke, builtin, Sem.run_bind, Sem.run_pure, Result.andThen_ok, List.map_toArray, List.map_cons, List.map_nil, hs, hx, hrun]
  exact hK _ _ (h v' w' h2 h3 h4)

/-- A list with one number more. -/
def snocG (n : Nat) (g : Nat → Int) (x : Int) (i : Nat) : Int := if i < n then g i else x

theorem words_snoc (n : Nat) (g : Nat → Int) (x : Int) : wordsL n g ++ [.int .u32 x] = wordsL (n + 1) (snocG n g x) := by
  rw [wordsL_next]
  congr 1
  · unfold wordsL
    refine List.map_congr_left fun i hi => ?_
    have := List.mem_range.1 hi
    unfold snocG
    rw [if_pos this]
  · unfold snocG
    rw [if_neg (Nat.lt_irrefl n)]

theorem snoc_bd (n : Nat) (g : Nat → Int) (x : Int) (h : ∀ i, i < n → 0 ≤ g i ∧ g i ≤ 4294967295) (x0 : 0 ≤ x) (x1 : x ≤ 4294967295) (i : Nat) : 0 ≤ snocG n g x i ∧ snocG n g x i ≤ 4294967295 := by
  unfold snocG
  split
  · exact h i (by assumption)
  · exact ⟨x0, x1⟩

/-- The first k of G's whole numbers. -/
def intsL (k : Nat) (G : Nat → Int) : List Value := (List.range k).map fun i => Value.int .i64 (G i)

theorem intsL_next (k : Nat) (G : Nat → Int) : intsL (k + 1) G = intsL k G ++ [.int .i64 (G k)] := by unfold intsL; rw [List.range_succ, List.map_append]; rfl

/-- What a slice of the call's own that holds G's whole numbers reads as. -/
theorem ints_told {W : World} {base : Nat} {e : TypeId} {v : Value} {n : Nat} {G : Nat → Int} (h : W.ownsRow base e 1 v n (intsL n G)) : ∃ ad c, v = .slice ad n c ∧ (n = 0 ∨ ∃ b off, ad = some ⟨b, off, none⟩ ∧ b < W.heap.size ∧ ∀ i, i < n → W.cell? ⟨b, off + i, none⟩ = some (.int .i64 (G i))) := by
  rcases h.2 with ⟨rfl, rfl⟩ | ⟨g, cap, cur, rfl, hg, hh, hc, _⟩
  · exact ⟨none, 0, rfl, .inl rfl⟩
  · refine ⟨some ⟨g, 0, none⟩, cap, rfl, .inr ⟨g, 0, rfl, (Array.getElem?_eq_some_iff.1 hh).1, fun i hi => ?_⟩⟩
    have := h.cells (g := g) rfl i (.int .i64 (G i)) (by unfold intsL; rw [List.getElem?_map, List.getElem?_range hi]; rfl)
    have ha : (⟨g, 0, none⟩ : Addr).add i = ⟨g, i, none⟩ := by unfold Addr.add; split <;> simp_all
    rw [ha] at this
    rw [Nat.zero_add]
    exact this

/-- A block's cells. -/
structure RowAt (b : Nat) (cs : Array Value) (W : World) : Prop where
  lies : b < W.heap.size
  cell : ∀ j v, cs[j]? = some v → W.cell? ⟨b, j, none⟩ = some v

theorem RowAt.grown {b : Nat} {cs : Array Value} {W W' : World} (h : RowAt b cs W) (g : Grown W W') : RowAt b cs W' := ⟨Nat.lt_of_lt_of_le h.lies g.2.2, fun j v e => grown_cell g (h.cell j v e) h.lies⟩

theorem row_new (w : World) (cs : Array Value) (t : TypeId) : RowAt w.heap.size cs (w.alloc (.cells cs t)) := ⟨by simp, fun j v e => by rw [World.cell?_alloc_at (hn := rfl)]; exact e⟩

def Stay.row (b : Nat) (cs : Array Value) : Stay := ⟨RowAt b cs, fun h g => h.grown g⟩

theorem Lot.row {fs : List Stay} {W : World} (h : Lot fs W) (i : Nat) {b : Nat} {cs : Array Value} (e : fs[i]? = some (Stay.row b cs)) : RowAt b cs W := h.at i e

/-- All four cells of a tensor's block written anew. -/
theorem TenAt.four {b : Nat} {v0 v1 v2 v3 : Value} {W : World} (h : TenAt b v0 v1 v2 v3 W) (u0 u1 u2 u3 : Value) : TenAt b u0 u1 u2 u3 ((((W.setCell ⟨b, 0, none⟩ u0).setCell ⟨b, 1, none⟩ u1).setCell ⟨b, 2, none⟩ u2).setCell ⟨b, 3, none⟩ u3) := by
  obtain ⟨h0, h1, h2, h3, h4, h5, h6, h7, h8⟩ := h
  have z : ∀ (W : World) a x u, (W.setCell a u).frozen? x = W.frozen? x := fun W a x u => World.frozen?_setCell _ _ _ _
  refine ⟨by simpa [World.setCell] using h0, ?_, ?_, ?_, ?_, by rw [z, z, z, z]; exact h5, by rw [z, z, z, z]; exact h6, by rw [z, z, z, z]; exact h7, by rw [z, z, z, z]; exact h8⟩
  · rw [World.cell?_setCell_other (h := by simp), World.cell?_setCell_other (h := by simp), World.cell?_setCell_other (h := by simp), World.cell?_setCell_same (h := h1)]
  · rw [World.cell?_setCell_other (h := by simp), World.cell?_setCell_other (h := by simp), World.cell?_setCell_same (h := by rw [World.cell?_setCell_other (h := by simp)]; exact h2)]
  · rw [World.cell?_setCell_other (h := by simp), World.cell?_setCell_same (h := by rw [World.cell?_setCell_other (h := by simp), World.cell?_setCell_other (h := by simp)]; exact h3)]
  · rw [World.cell?_setCell_same (h := by rw [World.cell?_setCell_other (h := by simp), World.cell?_setCell_other (h := by simp), World.cell?_setCell_other (h := by simp)]; exact h4)]

end Go.Proofs.YteifobleigfbaaaGreat
