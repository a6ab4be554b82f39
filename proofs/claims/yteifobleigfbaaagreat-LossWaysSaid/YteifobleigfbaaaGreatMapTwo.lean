/- A map literal of two, keyed by true and false, and what is looked up in it. No program. -/
import Derived.Test.YteifobleigfbaaaGreatWorld
import Derived.Maps.OwnOps
namespace Go.Proofs.YteifobleigfbaaaGreat
open Go Go.RowKit Go.Maps Go.ChangeMaps Go.MapKept
set_option linter.unusedVariables false
set_option linter.unusedSimpArgs false

theorem grown_setMap {w W : World} (h : Grown w W) {b : Nat} (hb : w.heap.size ≤ b) {es es' : Array MapEntry} {c c' : Nat} (hW : W.heap[b]? = some (.map es c)) : Grown w (setBlock W b (.map es' c')) := by
  obtain ⟨⟨h1, h2, h3⟩, hf, hs⟩ := h
  refine ⟨⟨h1, h2, fun i hi => ?_⟩, fun x => ?_, by simpa [setBlock] using hs⟩
  · have e : (setBlock W b (.map es' c')).heap[i]? = W.heap[i]? := heap_setBlock_other hW _ (by omega)
    rw [e]
    exact h3 i hi
  · rw [← hf x]
    by_cases c : x.block = b
    · unfold World.frozen?
      rw [c, heap_setBlock_same hW _, hW]
    · exact World.frozen?_of_block (w := W) (heap_setBlock_other hW _ c)

theorem map_two (P : Program) (t k e : TypeId) (ht : P.underlying t = some (.map k e)) (hk : P.underlying k = some .bool) (he : P.underlying e = some (.int .i64)) (hz : ∀ w, (zeroValue e).run P w = .ok (.int .i64 0) w) (W : World) :
    ∃ V1 V2, (Instr.mapUpdate t (.map (some W.heap.size)) (.bool true) (.int .i64 1)).run P (W.alloc (.map #[] 0)) = .ok () V1 ∧ (Instr.mapUpdate t (.map (some W.heap.size)) (.bool false) (.int .i64 0)).run P V1 = .ok () V2
      ∧ (∀ d : Bool, (Instr.lookup t (.map (some W.heap.size)) (.bool d) false).run P V2 = .ok (.int .i64 (if d then 1 else 0)) V2) ∧ ∀ w, Grown w W → Grown w V2 := by
  have K := bool_keyed hk
  have p1 := plainElem_int (H := Unit) he (a := 1) (by decide)
  have p0 := plainElem_int (H := Unit) he (a := 0) (by decide)
  obtain ⟨es0, c0, hb0, F0, hs0, hD0⟩ := World.ownsMap_made W P k (plainElem (H := Unit) P e)
  obtain ⟨es1, c1, hr1, F1, hp1, -⟩ := Maps.fit_store (R' := plainElem (H := Unit) P e) K ht hb0 F0 (Nat.lt_of_le_of_lt hs0 (by decide)) (fun _ _ _ _ h => h) (keyOf_bool_mk hk true) p1
  have hb1 : (setBlock (W.alloc (.map #[] 0)) W.heap.size (.map es1 c1)).heap[W.heap.size]? = some (.map es1 c1) := heap_setBlock_same hb0 _
  have hs1 : es1.size ≤ 1 := by
    have e1 : es1.size = ((es1.toList.map (Go.WideElems.rg P k (plainElem (H := Unit) P e))).foldr DataW.insert []).length := by rw [length_sorted]; simp
    rw [e1, hp1]
    unfold putKey
    rw [length_insert]
    have e2 := List.length_filter_le (notKey (.bool true)) ((es0.toList.map (Go.WideElems.rg P k (plainElem (H := Unit) P e))).foldr DataW.insert [])
    rw [length_sorted] at e2
    simp at e2
    omega
  obtain ⟨es2, c2, hr2, F2, hp2, -⟩ := Maps.fit_store (R' := plainElem (H := Unit) P e) K ht hb1 F1 (Nat.lt_of_le_of_lt hs1 (by decide)) (fun _ _ _ _ h => h) (keyOf_bool_mk hk false) p0
  have hb2 : (setBlock (setBlock (W.alloc (.map #[] 0)) W.heap.size (.map es1 c1)) W.heap.size (.map es2 c2)).heap[W.heap.size]? = some (.map es2 c2) := heap_setBlock_same hb1 _
  have hown : (setBlock (setBlock (W.alloc (.map #[] 0)) W.heap.size (.map es1 c1)) W.heap.size (.map es2 c2)).ownsMap P k (plainElem (H := Unit) P e) W.heap.size es2.size (((DataW.map []).put (.bool true) (.lit (.int .i64 1))).put (.bool false) (.lit (.int .i64 0))) :=
    ⟨es2, c2, hb2, F2, Nat.le_refl _, by rw [hD0, DataW.put_eq, ← hp1, DataW.put_eq, ← hp2]⟩
  refine ⟨_, _, hr1, hr2, fun d => ?_, fun w h => ?_⟩
  · obtain ⟨c, hrun, hat, -⟩ := hown.lookup_int K ht he (hz _) (keyOf_bool_mk hk d)
    have : c = if d then 1 else 0 := by
      cases d
      · have e1 : (((DataW.map []).put (.bool true) (.lit (.int .i64 1))).put (.bool false) (.lit (.int .i64 0)) : DataW Unit).atKey (.bool false) (.lit (.int .i64 0)) = .lit (.int .i64 0) := rfl
        rw [e1] at hat
        injection hat with hat
        injection hat with _ hat
        exact hat.symm
      · have e1 : (((DataW.map []).put (.bool true) (.lit (.int .i64 1))).put (.bool false) (.lit (.int .i64 0)) : DataW Unit).atKey (.bool true) (.lit (.int .i64 0)) = .lit (.int .i64 1) := rfl
        rw [e1] at hat
        injection hat with hat
        injection hat with _ hat
        exact hat.symm
    rw [← this]
    exact hrun
  · have h0 : Grown w (W.alloc (.map #[] 0)) := by
      refine ⟨World.keptBut_trans h.1 (World.keptBut_alloc _ _ _), fun a => Eq.trans ?_ (h.2.1 a), Nat.le_trans h.2.2 (by show W.heap.size ≤ (W.heap.push _).size; simp)⟩
      unfold World.frozen? World.alloc
      dsimp only
      rw [Array.getElem?_push]
      by_cases c : a.block = W.heap.size
      · rw [if_pos c, c, Array.getElem?_eq_none (Nat.le_refl _)]
      · rw [if_neg c]
    exact grown_setMap (grown_setMap h0 h.2.2 hb0) h.2.2 hb1
end Go.Proofs.YteifobleigfbaaaGreat
