/- When two arrays of four words are the same (for the walk). -/
import Derived.Test.YtjedegeajkpmaaaRows
import Derived.Test.YtjedegeajkpmaaaWorld
import Derived.ChangeKeysEq
import Derived.Laws.Small
namespace Go.Proofs.Ytjedegeajkpmaaa
open Go.RowKit
set_option linter.unusedVariables false
set_option linter.unusedSimpArgs false

theorem und_four : Try.prog.underlying 24 = some (.array 4 22) := Try.underlying24

theorem und_word : Try.prog.underlying 22 = some (.int .u32) := Try.underlying22

theorem plain_word : Try.prog.plainKey 22 = true := by unfold Program.plainKey; rw [und_word]

theorem info_word : ∃ i, Try.prog.info? 22 = some i ∧ Try.prog.cellsOf 22 = 1 := by
  refine ⟨_, rfl, ?_⟩
  rfl

theorem run_eq_word (d : Nat) (a b : Int) (w : World) : (Op.equalIn (d + 1) 22 (.int .u32 a) (.int .u32 b)).run Try.prog w = .ok (a == b) w := by
  simp [Op.equalIn, run_underlying und_word]

theorem run_eq_four (a b c d a' b' c' d' : Int) (w : World) :
    (Op.equalIn 10000 24 (.agg #[.int .u32 a, .int .u32 b, .int .u32 c, .int .u32 d]) (.agg #[.int .u32 a', .int .u32 b', .int .u32 c', .int .u32 d'])).run Try.prog w
      = .ok (a == a' && (b == b' && (c == c' && d == d'))) w := by
  show (Op.equalIn (9998 + 1 + 1) _ _ _).run _ w = _
  generalize 9998 = D
  obtain ⟨i, hi, hc⟩ := info_word
  have hs := fun w => run_sizeOf (P := Try.prog) w hi
  rw [hc] at hs
  have hp : ∀ (xs : Array Value) (off : Nat) (v : Value) (w : World), xs[off]? = some v → (part 22 xs off).run Try.prog w = .ok v w := fun xs off v w h => run_part_plain w plain_word h
  unfold Op.equalIn
  rw [Sem.run_bind, run_underlying und_four]
  simp only [Result.andThen_ok, Sem.run_bind, hs]
  rw [Std.Legacy.Range.forIn_eq_forIn_range']
  rw [show List.range' ([0:4] : Std.Legacy.Range).start ([0:4] : Std.Legacy.Range).size ([0:4] : Std.Legacy.Range).step = [0, 1, 2, 3] from rfl]
  have p0 : ∀ (x y z u : Int) w, (part 22 #[.int .u32 x, .int .u32 y, .int .u32 z, .int .u32 u] 0).run Try.prog w = .ok (.int .u32 x) w := fun x y z u w => hp _ _ _ w rfl
  have p1 : ∀ (x y z u : Int) w, (part 22 #[.int .u32 x, .int .u32 y, .int .u32 z, .int .u32 u] 1).run Try.prog w = .ok (.int .u32 y) w := fun x y z u w => hp _ _ _ w rfl
  have p2 : ∀ (x y z u : Int) w, (part 22 #[.int .u32 x, .int .u32 y, .int .u32 z, .int .u32 u] 2).run Try.prog w = .ok (.int .u32 z) w := fun x y z u w => hp _ _ _ w rfl
  have p3 : ∀ (x y z u : Int) w, (part 22 #[.int .u32 x, .int .u32 y, .int .u32 z, .int .u32 u] 3).run Try.prog w = .ok (.int .u32 u) w := fun x y z u w => hp _ _ _ w rfl
  simp only [List.forIn_cons, List.forIn_nil, Sem.run_bind, Result.andThen_ok, Nat.mul_one, p0, p1, p2, p3, run_eq_word]
  by_cases h0 : a = a' <;> by_cases h1 : b = b' <;> by_cases h2 : c = c' <;> by_cases h3 : d = d' <;> simp [h0, h1, h2, h3, p0, p1, p2, p3, run_eq_word]
end Go.Proofs.Ytjedegeajkpmaaa
