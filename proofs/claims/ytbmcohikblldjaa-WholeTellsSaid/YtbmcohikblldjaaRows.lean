/-
  No cell of these rows narrows 'for every input' (looked for: loops, veiled, ifaces, maps, wideKeys, modest, calm, conditions, laid).
  DERIVED. THE GIVEN ROWS OF THIS SEAT. 4 by the template 'for every input the law returns true; each argument reads behind the call as it read before'; 0 by the template 'total and deterministic' (their statements: YtbmcohikblldjaaTotals.lean).
  GIVEN WITH THE SEED: the statements are not yours to turn. If you find one false, say at which input.
  Laid BY PROGRAM, IN A SANDBOX (cutbox-rows.mjs): the forced cells as the released guide's own fill.sh prints them over the translation 4024554dcd0530e0… (all of the seat's roots in one cut). By AI agents, Wed Nov 11 2026. No macro, syntax, notation, axiom, sorry.
-/
import Derived.Test.YtbmcohikblldjaaChecked
import GoSem.Claim
import GoSem.ClaimJoined
import GoSem.ClaimMapViews
import Derived.JoinedTies
import Derived.KernelRfl
namespace Go.Proofs.Ytbmcohikblldjaa
/- THE CELL 'sum', in the pinned program and in every row, IS THE sha256 OF THE DUMP (.gsa) THAT YtbmcohikblldjaaProg.lean LOADS. Nothing in Lean hashes anything: it is a label: what it is worth is what the hold of that sum in a sandbox is worth. -/
noncomputable def Try.pinned : Pinned := { name := "ytbmcohikblldjaa", sum := "4024554dcd0530e0cae2110ea1dac9196f67b40ecdbf3015ebed4d8a12fa76df", checked := Try.checked }
namespace Rows
def none {H : Type} : Left H := { results := [], args := [] }

/-- 'anneallaw8.WholeTells': WHATEVER THE INPUT: true; the input reads as it did. -/
def wholeTellsSpec : ChangeSpec := { name := "wholeTells", fn := fun _ => fun
  | [d1, d2, d3, d4, d5, d6, d7] => { results := [.lit (.bool true)], args := [d1, d2, d3, d4, d5, d6, d7] }
  | _ => none }
def wholeTellsRow : OpenClaim := { program := "ytbmcohikblldjaa", sum := "4024554dcd0530e0cae2110ea1dac9196f67b40ecdbf3015ebed4d8a12fa76df", func := "anneal/anneallaw8.WholeTells", spec := "wholeTells", apart := false }
def WholeTellsSaid : Prop := wholeTellsRow.holds Try.pinned (OpenSpec.ofChange wholeTellsSpec)

/-- ITS FALSE NEIGHBOUR: 'it returns false'. Refute it at one input. -/
def wholeTellsWrong : ChangeSpec := { name := "wholeTells", fn := fun _ => fun
  | [d1, d2, d3, d4, d5, d6, d7] => { results := [.lit (.bool false)], args := [d1, d2, d3, d4, d5, d6, d7] }
  | _ => none }
def WholeTellsWrongFalsely : Prop := wholeTellsRow.holds Try.pinned (OpenSpec.ofChange wholeTellsWrong)

/-- 'anneallaw8.WholeBack': WHATEVER THE INPUT: true; the input reads as it did. -/
def wholeBackSpec : ChangeSpec := { name := "wholeBack", fn := fun _ => fun
  | [d1, d2, d3, d4] => { results := [.lit (.bool true)], args := [d1, d2, d3, d4] }
  | _ => none }
def wholeBackRow : OpenClaim := { program := "ytbmcohikblldjaa", sum := "4024554dcd0530e0cae2110ea1dac9196f67b40ecdbf3015ebed4d8a12fa76df", func := "anneal/anneallaw8.WholeBack", spec := "wholeBack", apart := false }
def WholeBackSaid : Prop := wholeBackRow.holds Try.pinned (OpenSpec.ofChange wholeBackSpec)

/-- ITS FALSE NEIGHBOUR: 'it returns false'. Refute it at one input. -/
def wholeBackWrong : ChangeSpec := { name := "wholeBack", fn := fun _ => fun
  | [d1, d2, d3, d4] => { results := [.lit (.bool false)], args := [d1, d2, d3, d4] }
  | _ => none }
def WholeBackWrongFalsely : Prop := wholeBackRow.holds Try.pinned (OpenSpec.ofChange wholeBackWrong)

/-- 'anneallaw8.WholeScales': WHATEVER THE INPUT: true; the input reads as it did. -/
def wholeScalesSpec : ChangeSpec := { name := "wholeScales", fn := fun _ => fun
  | [d1, d2, d3, d4] => { results := [.lit (.bool true)], args := [d1, d2, d3, d4] }
  | _ => none }
def wholeScalesRow : OpenClaim := { program := "ytbmcohikblldjaa", sum := "4024554dcd0530e0cae2110ea1dac9196f67b40ecdbf3015ebed4d8a12fa76df", func := "anneal/anneallaw8.WholeScales", spec := "wholeScales", apart := false }
def WholeScalesSaid : Prop := wholeScalesRow.holds Try.pinned (OpenSpec.ofChange wholeScalesSpec)

/-- ITS FALSE NEIGHBOUR: 'it returns false'. Refute it at one input. -/
def wholeScalesWrong : ChangeSpec := { name := "wholeScales", fn := fun _ => fun
  | [d1, d2, d3, d4] => { results := [.lit (.bool false)], args := [d1, d2, d3, d4] }
  | _ => none }
def WholeScalesWrongFalsely : Prop := wholeScalesRow.holds Try.pinned (OpenSpec.ofChange wholeScalesWrong)

/-- 'anneallaw8.WholeSides': WHATEVER THE INPUT: true; the input reads as it did. -/
def wholeSidesSpec : ChangeSpec := { name := "wholeSides", fn := fun _ => fun
  | [d1, d2] => { results := [.lit (.bool true)], args := [d1, d2] }
  | _ => none }
def wholeSidesRow : OpenClaim := { program := "ytbmcohikblldjaa", sum := "4024554dcd0530e0cae2110ea1dac9196f67b40ecdbf3015ebed4d8a12fa76df", func := "anneal/anneallaw8.WholeSides", spec := "wholeSides", apart := false }
def WholeSidesSaid : Prop := wholeSidesRow.holds Try.pinned (OpenSpec.ofChange wholeSidesSpec)

/-- ITS FALSE NEIGHBOUR: 'it returns false'. Refute it at one input. -/
def wholeSidesWrong : ChangeSpec := { name := "wholeSides", fn := fun _ => fun
  | [d1, d2] => { results := [.lit (.bool false)], args := [d1, d2] }
  | _ => none }
def WholeSidesWrongFalsely : Prop := wholeSidesRow.holds Try.pinned (OpenSpec.ofChange wholeSidesWrong)

/- THE SECOND FORM. 'bulk': how many values and letters a reading holds, each counted each time it is reached (what is shared counts as often as it is met; a slice's spare places count too). A statement '..UptoSaid' is the law's where the arguments, and the package variables that the reading takes, are together of bulk at most 1048576: NARROWER than '..Said'. Prove '..Said' where nothing that the law and all that it calls make is longer than what came in: it says more and counts as full. Else prove '..UptoSaid'. A law counts once. -/
mutual
def uptoBulk {H : Type} : DataW H → Nat
  | .lit (.string bytes) => bytes.length + 1
  | .lit _ => 1
  | .nil => 1
  | .ptr d => uptoBulk d + 1
  | .slice elems spare => uptoBulkAll elems + uptoBulkAll spare + 1
  | .agg parts => uptoBulkAll parts + 1
  | .iface _ d => uptoBulk d + 1
  | .map entries => uptoBulkEntries entries + 1
  | .held _ => 1
def uptoBulkAll {H : Type} : List (DataW H) → Nat
  | [] => 0
  | d :: r => uptoBulk d + uptoBulkAll r
def uptoBulkEntries {H : Type} : List (Lit × DataW H) → Nat
  | [] => 0
  | x :: r => uptoBulkEntry x + uptoBulkEntries r
def uptoBulkEntry {H : Type} : Lit × DataW H → Nat
  | (.string bytes, d) => bytes.length + uptoBulk d + 1
  | (_, d) => uptoBulk d + 1
 end
def uptoSmall : (H : Type) → List (DataW H) → Bool := fun _ ds => decide (uptoBulkAll ds ≤ 1048576)
def OpenSpec.upto (s : _root_.Go.ChangeSpec) : _root_.Go.OpenSpec := { _root_.Go.OpenSpec.ofChange s with cond := some uptoSmall }

/-- 'anneallaw8.WholeTells', WHERE WHAT IT READS IS OF BULK AT MOST 1048576: true; the input reads as it did. -/
def wholeTellsUptoRow : OpenClaim := { program := "ytbmcohikblldjaa", sum := "4024554dcd0530e0cae2110ea1dac9196f67b40ecdbf3015ebed4d8a12fa76df", func := "anneal/anneallaw8.WholeTells", spec := "wholeTells", apart := false, narrowed := true }
def WholeTellsUptoSaid : Prop := wholeTellsUptoRow.holds Try.pinned (OpenSpec.upto wholeTellsSpec)

/-- 'anneallaw8.WholeBack', WHERE WHAT IT READS IS OF BULK AT MOST 1048576: true; the input reads as it did. -/
def wholeBackUptoRow : OpenClaim := { program := "ytbmcohikblldjaa", sum := "4024554dcd0530e0cae2110ea1dac9196f67b40ecdbf3015ebed4d8a12fa76df", func := "anneal/anneallaw8.WholeBack", spec := "wholeBack", apart := false, narrowed := true }
def WholeBackUptoSaid : Prop := wholeBackUptoRow.holds Try.pinned (OpenSpec.upto wholeBackSpec)

/-- 'anneallaw8.WholeScales', WHERE WHAT IT READS IS OF BULK AT MOST 1048576: true; the input reads as it did. -/
def wholeScalesUptoRow : OpenClaim := { program := "ytbmcohikblldjaa", sum := "4024554dcd0530e0cae2110ea1dac9196f67b40ecdbf3015ebed4d8a12fa76df", func := "anneal/anneallaw8.WholeScales", spec := "wholeScales", apart := false, narrowed := true }
def WholeScalesUptoSaid : Prop := wholeScalesUptoRow.holds Try.pinned (OpenSpec.upto wholeScalesSpec)

/-- 'anneallaw8.WholeSides', WHERE WHAT IT READS IS OF BULK AT MOST 1048576: true; the input reads as it did. -/
def wholeSidesUptoRow : OpenClaim := { program := "ytbmcohikblldjaa", sum := "4024554dcd0530e0cae2110ea1dac9196f67b40ecdbf3015ebed4d8a12fa76df", func := "anneal/anneallaw8.WholeSides", spec := "wholeSides", apart := false, narrowed := true }
def WholeSidesUptoSaid : Prop := wholeSidesUptoRow.holds Try.pinned (OpenSpec.upto wholeSidesSpec)

end Rows
end Go.Proofs.Ytbmcohikblldjaa
