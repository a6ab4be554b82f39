/- Blocks of wide numbers, limb by limb (no program here). -/
import Derived.Test.YtdaikgeellpolaaWorld
import Derived.Test.YtdaikgeellpolaaCarry
namespace Go.Proofs.Ytdaikgeellpolaa
open Go.RowKit
set_option linter.unusedVariables false
set_option linter.unusedSimpArgs false

/-- A limb of the sum where it is done, of the first number else. -/
def mixL (V S k i : Nat) : Int := if i < k then limb S i else limb V i
def mixO (n : Bool) (V S k : Nat) : Array Value := #[.bool n, .int .u64 (mixL V S k 0), .int .u64 (mixL V S k 1), .int .u64 (mixL V S k 2), .int .u64 (mixL V S k 3), .int .u64 (mixL V S k 4), .int .u64 (mixL V S k 5), .int .u64 (mixL V S k 6), .int .u64 (mixL V S k 7), .int .u64 (mixL V S k 8), .int .u64 (mixL V S k 9)]
def wideO (n : Bool) (V : Nat) : Array Value := #[.bool n, .int .u64 (limb V 0), .int .u64 (limb V 1), .int .u64 (limb V 2), .int .u64 (limb V 3), .int .u64 (limb V 4), .int .u64 (limb V 5), .int .u64 (limb V 6), .int .u64 (limb V 7), .int .u64 (limb V 8), .int .u64 (limb V 9)]
def nilO : Array Value := #[.bool false, .int .u64 0, .int .u64 0, .int .u64 0, .int .u64 0, .int .u64 0, .int .u64 0, .int .u64 0, .int .u64 0, .int .u64 0, .int .u64 0]
theorem set_drewN (w : World) (d : Nat) (a : Addr) (v : Value) : (w.drewN d).setCell a v = (w.setCell a v).drewN d := by
  induction d with
  | zero => rfl
  | succ d ih =>
    show ((w.drewN d).drew).setCell a v = ((w.setCell a v).drewN d).drew
    rw [World.setCell_drew, ih]
theorem size_alloc (w : World) (o : Obj) : (w.alloc o).heap.size = w.heap.size + 1 := by simp
theorem set3 (w : World) (A B C : Array Value) (t : TypeId) (d i : Nat) (v : Value) :
    ((((w.alloc (.cells A t)).alloc (.cells B t)).alloc (.cells C t)).drewN d).setCell ⟨w.heap.size, i, none⟩ v
      = (((w.alloc (.cells (A.setIfInBounds i v) t)).alloc (.cells B t)).alloc (.cells C t)).drewN d := by
  rw [set_drewN, World.setCell_alloc_past _ _ _ _ (by rw [size_alloc, size_alloc]; omega), World.setCell_alloc_past _ _ _ _ (by rw [size_alloc]; omega), World.setCell_alloc_at _ _ _ _ _ rfl]
theorem mixL_done (V S k : Nat) : mixL V S (k + 1) k = limb S k := by unfold mixL; rw [if_pos (by omega)]
theorem mixL_same (V S k i : Nat) (h : i ≠ k) : mixL V S (k + 1) i = mixL V S k i := by
  unfold mixL
  by_cases c : i < k
  · rw [if_pos c, if_pos (by omega)]
  · rw [if_neg c, if_neg (by omega)]
/-- One limb more is done. -/
theorem mix_next (n : Bool) (V S k : Nat) (hk : k < 10) (x : Int) (hx : x = limb S k) : (mixO n V S k).setIfInBounds (k + 1) (.int .u64 x) = mixO n V S (k + 1) := by
  subst hx
  have hk' : k = 0 ∨ k = 1 ∨ k = 2 ∨ k = 3 ∨ k = 4 ∨ k = 5 ∨ k = 6 ∨ k = 7 ∨ k = 8 ∨ k = 9 := by omega
  rcases hk' with rfl | rfl | rfl | rfl | rfl | rfl | rfl | rfl | rfl | rfl <;> simp [mixO, mixL]
theorem mix_start (n : Bool) (V S : Nat) : mixO n V S 0 = wideO n V := by simp [mixO, mixL, wideO]
theorem mix_end (n : Bool) (V S : Nat) : mixO n V S 10 = wideO n S := by simp [mixO, mixL, wideO]
theorem round_world (w : World) (n m : Bool) (V W S k : Nat) (t : TypeId) (d : Nat) (x : Int) (hk : k < 10) (hx : x = limb S k) :
    ((((w.alloc (.cells (mixO n V S k) t)).alloc (.cells (wideO m W) t)).alloc (.cells nilO t)).drewN d).setCell ⟨w.heap.size, k + 1, none⟩ (.int .u64 x)
      = (((w.alloc (.cells (mixO n V S (k + 1)) t)).alloc (.cells (wideO m W) t)).alloc (.cells nilO t)).drewN d := by
  rw [set3, mix_next n V S k hk x hx]
theorem round_world5 (w : World) (n m : Bool) (V W S k : Nat) (E F : Array Value) (t : TypeId) (d : Nat) (x : Int) (hk : k < 10) (hx : x = limb S k) :
    ((((((w.alloc (.cells (mixO n V S k) t)).alloc (.cells (wideO m W) t)).alloc (.cells nilO t)).alloc (.cells E t)).alloc (.cells F t)).drewN d).setCell ⟨w.heap.size, k + 1, none⟩ (.int .u64 x)
      = (((((w.alloc (.cells (mixO n V S (k + 1)) t)).alloc (.cells (wideO m W) t)).alloc (.cells nilO t)).alloc (.cells E t)).alloc (.cells F t)).drewN d := by
  rw [set_drewN, World.setCell_alloc_past _ _ _ _ (by simp only [size_alloc]; omega), World.setCell_alloc_past _ _ _ _ (by simp only [size_alloc]; omega), World.setCell_alloc_past _ _ _ _ (by simp only [size_alloc]; omega), World.setCell_alloc_past _ _ _ _ (by rw [size_alloc]; omega), World.setCell_alloc_at _ _ _ _ _ rfl, mix_next n V S k hk x hx]
theorem is_u64 {a b : Int} (h : a = b) : Value.int .u64 a = .int .u64 b := by rw [h]
/-- One result, in memory. -/
theorem results_one {fn : Func} {p : Tmp} {ty : TypeId} (h : fn.results = #[.cell p ty]) (tmps : Array Value) (P : Program) (w : World) :
    (results fn tmps).run P w = ((asAddr (tmps.getD p undef)).run P w).andThen fun a w₁ => (loadVar ty a).run P w₁ := by
  simp only [results, h]
  simp [Sem.run_bind, Result.andThen]
/-- What is carried, as the round finds it. -/
theorem car_is {P : Prop} {t : Int} (h : P ↔ t = 1) (ht : t = 0 ∨ t = 1) : (P → (1 : Int) = t) ∧ (¬ P → (0 : Int) = t) :=
  ⟨fun p => (h.1 p).symm, fun p => (ht.resolve_right (fun g => p (h.2 g))).symm⟩
end Go.Proofs.Ytdaikgeellpolaa
