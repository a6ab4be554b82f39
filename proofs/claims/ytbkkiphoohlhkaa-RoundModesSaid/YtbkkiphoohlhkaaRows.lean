/-
  No cell of these rows narrows 'for every input' (looked for: loops, veiled, ifaces, maps, wideKeys, modest, calm, conditions, laid).
  DERIVED. THE GIVEN ROWS OF THIS SEAT. 5 by the template 'for every input the law returns true; each argument reads behind the call as it read before'; 0 by the template 'total and deterministic' (their statements: YtbkkiphoohlhkaaTotals.lean).
  GIVEN WITH THE SEED: the statements are not yours to turn. If you find one false, say at which input.
  Laid BY PROGRAM, IN A SANDBOX (cutbox-rows.mjs): the forced cells as the released guide's own fill.sh prints them over the translation 521caaada90d2f68… (all of the seat's roots in one cut). By AI agents, Wed Nov 11 2026. No macro, syntax, notation, axiom, sorry.
-/
import Derived.Test.YtbkkiphoohlhkaaChecked
import GoSem.Claim
import GoSem.ClaimJoined
import GoSem.ClaimMapViews
import Derived.JoinedTies
import Derived.KernelRfl
namespace Go.Proofs.Ytbkkiphoohlhkaa
/- THE CELL 'sum', in the pinned program and in every row, IS THE sha256 OF THE DUMP (.gsa) THAT YtbkkiphoohlhkaaProg.lean LOADS. Nothing in Lean hashes anything: it is a label: what it is worth is what the hold of that sum in a sandbox is worth. -/
noncomputable def Try.pinned : Pinned := { name := "ytbkkiphoohlhkaa", sum := "521caaada90d2f684beb6172fad5119b2c68cee48fd39b4ff2bc136a4fe23025", checked := Try.checked }
namespace Rows
def none {H : Type} : Left H := { results := [], args := [] }

/-- 'anneallaw3.RoundTells': WHATEVER THE INPUT: true; the input reads as it did. -/
def roundTellsSpec : ChangeSpec := { name := "roundTells", fn := fun _ => fun
  | [d1, d2, d3, d4, d5, d6, d7, d8] => { results := [.lit (.bool true)], args := [d1, d2, d3, d4, d5, d6, d7, d8] }
  | _ => none }
def roundTellsRow : OpenClaim := { program := "ytbkkiphoohlhkaa", sum := "521caaada90d2f684beb6172fad5119b2c68cee48fd39b4ff2bc136a4fe23025", func := "anneal/anneallaw3.RoundTells", spec := "roundTells", apart := false }
def RoundTellsSaid : Prop := roundTellsRow.holds Try.pinned (OpenSpec.ofChange roundTellsSpec)

/-- ITS FALSE NEIGHBOUR: 'it returns false'. Refute it at one input. -/
def roundTellsWrong : ChangeSpec := { name := "roundTells", fn := fun _ => fun
  | [d1, d2, d3, d4, d5, d6, d7, d8] => { results := [.lit (.bool false)], args := [d1, d2, d3, d4, d5, d6, d7, d8] }
  | _ => none }
def RoundTellsWrongFalsely : Prop := roundTellsRow.holds Try.pinned (OpenSpec.ofChange roundTellsWrong)

/-- 'anneallaw3.RoundModes': WHATEVER THE INPUT: true; the input reads as it did. -/
def roundModesSpec : ChangeSpec := { name := "roundModes", fn := fun _ => fun
  | [d1, d2, d3, d4, d5] => { results := [.lit (.bool true)], args := [d1, d2, d3, d4, d5] }
  | _ => none }
def roundModesRow : OpenClaim := { program := "ytbkkiphoohlhkaa", sum := "521caaada90d2f684beb6172fad5119b2c68cee48fd39b4ff2bc136a4fe23025", func := "anneal/anneallaw3.RoundModes", spec := "roundModes", apart := false }
def RoundModesSaid : Prop := roundModesRow.holds Try.pinned (OpenSpec.ofChange roundModesSpec)

/-- ITS FALSE NEIGHBOUR: 'it returns false'. Refute it at one input. -/
def roundModesWrong : ChangeSpec := { name := "roundModes", fn := fun _ => fun
  | [d1, d2, d3, d4, d5] => { results := [.lit (.bool false)], args := [d1, d2, d3, d4, d5] }
  | _ => none }
def RoundModesWrongFalsely : Prop := roundModesRow.holds Try.pinned (OpenSpec.ofChange roundModesWrong)

/-- 'anneallaw3.RoundExact': WHATEVER THE INPUT: true; the input reads as it did. -/
def roundExactSpec : ChangeSpec := { name := "roundExact", fn := fun _ => fun
  | [d1, d2, d3, d4] => { results := [.lit (.bool true)], args := [d1, d2, d3, d4] }
  | _ => none }
def roundExactRow : OpenClaim := { program := "ytbkkiphoohlhkaa", sum := "521caaada90d2f684beb6172fad5119b2c68cee48fd39b4ff2bc136a4fe23025", func := "anneal/anneallaw3.RoundExact", spec := "roundExact", apart := false }
def RoundExactSaid : Prop := roundExactRow.holds Try.pinned (OpenSpec.ofChange roundExactSpec)

/-- ITS FALSE NEIGHBOUR: 'it returns false'. Refute it at one input. -/
def roundExactWrong : ChangeSpec := { name := "roundExact", fn := fun _ => fun
  | [d1, d2, d3, d4] => { results := [.lit (.bool false)], args := [d1, d2, d3, d4] }
  | _ => none }
def RoundExactWrongFalsely : Prop := roundExactRow.holds Try.pinned (OpenSpec.ofChange roundExactWrong)

/-- 'anneallaw3.RoundOrder': WHATEVER THE INPUT: true; the input reads as it did. -/
def roundOrderSpec : ChangeSpec := { name := "roundOrder", fn := fun _ => fun
  | [d1, d2, d3, d4, d5, d6, d7] => { results := [.lit (.bool true)], args := [d1, d2, d3, d4, d5, d6, d7] }
  | _ => none }
def roundOrderRow : OpenClaim := { program := "ytbkkiphoohlhkaa", sum := "521caaada90d2f684beb6172fad5119b2c68cee48fd39b4ff2bc136a4fe23025", func := "anneal/anneallaw3.RoundOrder", spec := "roundOrder", apart := false }
def RoundOrderSaid : Prop := roundOrderRow.holds Try.pinned (OpenSpec.ofChange roundOrderSpec)

/-- ITS FALSE NEIGHBOUR: 'it returns false'. Refute it at one input. -/
def roundOrderWrong : ChangeSpec := { name := "roundOrder", fn := fun _ => fun
  | [d1, d2, d3, d4, d5, d6, d7] => { results := [.lit (.bool false)], args := [d1, d2, d3, d4, d5, d6, d7] }
  | _ => none }
def RoundOrderWrongFalsely : Prop := roundOrderRow.holds Try.pinned (OpenSpec.ofChange roundOrderWrong)

/-- 'anneallaw3.RoundTiny': WHATEVER THE INPUT: true; the input reads as it did. -/
def roundTinySpec : ChangeSpec := { name := "roundTiny", fn := fun _ => fun
  | [d1, d2, d3] => { results := [.lit (.bool true)], args := [d1, d2, d3] }
  | _ => none }
def roundTinyRow : OpenClaim := { program := "ytbkkiphoohlhkaa", sum := "521caaada90d2f684beb6172fad5119b2c68cee48fd39b4ff2bc136a4fe23025", func := "anneal/anneallaw3.RoundTiny", spec := "roundTiny", apart := false }
def RoundTinySaid : Prop := roundTinyRow.holds Try.pinned (OpenSpec.ofChange roundTinySpec)

/-- ITS FALSE NEIGHBOUR: 'it returns false'. Refute it at one input. -/
def roundTinyWrong : ChangeSpec := { name := "roundTiny", fn := fun _ => fun
  | [d1, d2, d3] => { results := [.lit (.bool false)], args := [d1, d2, d3] }
  | _ => none }
def RoundTinyWrongFalsely : Prop := roundTinyRow.holds Try.pinned (OpenSpec.ofChange roundTinyWrong)

/- THE SECOND FORM. 'bulk': how many values and letters a reading holds, each counted each time it is reached (what is shared counts as often as it is met; a slice's spare places count too). A statement '..UptoSaid' is the law's where the arguments, and the package variables that the reading takes, are together of bulk at most 1048576: NARROWER than '..Said'. Prove '..Said' where nothing that the law and all that it calls make is longer than what came in: it says more and counts as full. Else prove '..UptoSaid'. A law counts once. -/
mutual
def uptoBulk {H : Type} : DataW H → Nat
  | .lit (.string bytes) => bytes.length + 1
  | .lit _ => 1
  | .nil => 1
  | .ptr d => uptoBulk d + 1
  | .slice elems spare => uptoBulkAll elems + uptoBulkAll spare + 1
  | .agg parts => uptoBulkAll parts + 1
  | .iface _ d => uptoBulk d + 1
  | .map entries => uptoBulkEntries entries + 1
  | .held _ => 1
def uptoBulkAll {H : Type} : List (DataW H) → Nat
  | [] => 0
  | d :: r => uptoBulk d + uptoBulkAll r
def uptoBulkEntries {H : Type} : List (Lit × DataW H) → Nat
  | [] => 0
  | x :: r => uptoBulkEntry x + uptoBulkEntries r
def uptoBulkEntry {H : Type} : Lit × DataW H → Nat
  | (.string bytes, d) => bytes.length + uptoBulk d + 1
  | (_, d) => uptoBulk d + 1
 end
def uptoSmall : (H : Type) → List (DataW H) → Bool := fun _ ds => decide (uptoBulkAll ds ≤ 1048576)
def OpenSpec.upto (s : _root_.Go.ChangeSpec) : _root_.Go.OpenSpec := { _root_.Go.OpenSpec.ofChange s with cond := some uptoSmall }

/-- 'anneallaw3.RoundTells', WHERE WHAT IT READS IS OF BULK AT MOST 1048576: true; the input reads as it did. -/
def roundTellsUptoRow : OpenClaim := { program := "ytbkkiphoohlhkaa", sum := "521caaada90d2f684beb6172fad5119b2c68cee48fd39b4ff2bc136a4fe23025", func := "anneal/anneallaw3.RoundTells", spec := "roundTells", apart := false, narrowed := true }
def RoundTellsUptoSaid : Prop := roundTellsUptoRow.holds Try.pinned (OpenSpec.upto roundTellsSpec)

/-- 'anneallaw3.RoundModes', WHERE WHAT IT READS IS OF BULK AT MOST 1048576: true; the input reads as it did. -/
def roundModesUptoRow : OpenClaim := { program := "ytbkkiphoohlhkaa", sum := "521caaada90d2f684beb6172fad5119b2c68cee48fd39b4ff2bc136a4fe23025", func := "anneal/anneallaw3.RoundModes", spec := "roundModes", apart := false, narrowed := true }
def RoundModesUptoSaid : Prop := roundModesUptoRow.holds Try.pinned (OpenSpec.upto roundModesSpec)

/-- 'anneallaw3.RoundExact', WHERE WHAT IT READS IS OF BULK AT MOST 1048576: true; the input reads as it did. -/
def roundExactUptoRow : OpenClaim := { program := "ytbkkiphoohlhkaa", sum := "521caaada90d2f684beb6172fad5119b2c68cee48fd39b4ff2bc136a4fe23025", func := "anneal/anneallaw3.RoundExact", spec := "roundExact", apart := false, narrowed := true }
def RoundExactUptoSaid : Prop := roundExactUptoRow.holds Try.pinned (OpenSpec.upto roundExactSpec)

/-- 'anneallaw3.RoundOrder', WHERE WHAT IT READS IS OF BULK AT MOST 1048576: true; the input reads as it did. -/
def roundOrderUptoRow : OpenClaim := { program := "ytbkkiphoohlhkaa", sum := "521caaada90d2f684beb6172fad5119b2c68cee48fd39b4ff2bc136a4fe23025", func := "anneal/anneallaw3.RoundOrder", spec := "roundOrder", apart := false, narrowed := true }
def RoundOrderUptoSaid : Prop := roundOrderUptoRow.holds Try.pinned (OpenSpec.upto roundOrderSpec)

/-- 'anneallaw3.RoundTiny', WHERE WHAT IT READS IS OF BULK AT MOST 1048576: true; the input reads as it did. -/
def roundTinyUptoRow : OpenClaim := { program := "ytbkkiphoohlhkaa", sum := "521caaada90d2f684beb6172fad5119b2c68cee48fd39b4ff2bc136a4fe23025", func := "anneal/anneallaw3.RoundTiny", spec := "roundTiny", apart := false, narrowed := true }
def RoundTinyUptoSaid : Prop := roundTinyUptoRow.holds Try.pinned (OpenSpec.upto roundTinySpec)

end Rows
end Go.Proofs.Ytbkkiphoohlhkaa
