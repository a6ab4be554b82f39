/-
  No cell of these rows narrows 'for every input' (looked for: loops, veiled, ifaces, maps, wideKeys, modest, calm, conditions, laid).
  DERIVED. THE GIVEN ROWS OF THIS SEAT. 4 by the template 'for every input the law returns true; each argument reads behind the call as it read before'; 0 by the template 'total and deterministic' (their statements: YtjedegeajkpmaaaTotals.lean).
  GIVEN WITH THE SEED: the statements are not yours to turn. If you find one false, say at which input.
  Laid BY PROGRAM, IN A SANDBOX (cutbox-rows.mjs): the forced cells as the released guide's own fill.sh prints them over the translation fc6114082ad5405f… (all of the seat's roots in one cut). By AI agents, Wed Nov 11 2026. No macro, syntax, notation, axiom, sorry.
-/
import Derived.Test.YtjedegeajkpmaaaChecked
import GoSem.Claim
import GoSem.ClaimJoined
import GoSem.ClaimMapViews
import Derived.JoinedTies
import Derived.KernelRfl
namespace Go.Proofs.Ytjedegeajkpmaaa
/- THE CELL 'sum', in the pinned program and in every row, IS THE sha256 OF THE DUMP (.gsa) THAT YtjedegeajkpmaaaProg.lean LOADS. Nothing in Lean hashes anything: it is a label: what it is worth is what the hold of that sum in a sandbox is worth. -/
noncomputable def Try.pinned : Pinned := { name := "ytjedegeajkpmaaa", sum := "fc6114082ad5405f49db9841d89cd0412ac1a9973c560107f105f734e6f555ac", checked := Try.checked }
namespace Rows
def none {H : Type} : Left H := { results := [], args := [] }

/-- 'anneallaw10.PhiloxTells': WHATEVER THE INPUT: true; the input reads as it did. -/
def philoxTellsSpec : ChangeSpec := { name := "philoxTells", fn := fun _ => fun
  | [d1, d2, d3, d4, d5, d6, d7] => { results := [.lit (.bool true)], args := [d1, d2, d3, d4, d5, d6, d7] }
  | _ => none }
def philoxTellsRow : OpenClaim := { program := "ytjedegeajkpmaaa", sum := "fc6114082ad5405f49db9841d89cd0412ac1a9973c560107f105f734e6f555ac", func := "anneal/anneallaw10.PhiloxTells", spec := "philoxTells", apart := false }
def PhiloxTellsSaid : Prop := philoxTellsRow.holds Try.pinned (OpenSpec.ofChange philoxTellsSpec)

/-- ITS FALSE NEIGHBOUR: 'it returns false'. Refute it at one input. -/
def philoxTellsWrong : ChangeSpec := { name := "philoxTells", fn := fun _ => fun
  | [d1, d2, d3, d4, d5, d6, d7] => { results := [.lit (.bool false)], args := [d1, d2, d3, d4, d5, d6, d7] }
  | _ => none }
def PhiloxTellsWrongFalsely : Prop := philoxTellsRow.holds Try.pinned (OpenSpec.ofChange philoxTellsWrong)

/-- 'anneallaw10.PhiloxBounds': WHATEVER THE INPUT: true; the input reads as it did. -/
def philoxBoundsSpec : ChangeSpec := { name := "philoxBounds", fn := fun _ => fun
  | [d1, d2, d3, d4, d5] => { results := [.lit (.bool true)], args := [d1, d2, d3, d4, d5] }
  | _ => none }
def philoxBoundsRow : OpenClaim := { program := "ytjedegeajkpmaaa", sum := "fc6114082ad5405f49db9841d89cd0412ac1a9973c560107f105f734e6f555ac", func := "anneal/anneallaw10.PhiloxBounds", spec := "philoxBounds", apart := false }
def PhiloxBoundsSaid : Prop := philoxBoundsRow.holds Try.pinned (OpenSpec.ofChange philoxBoundsSpec)

/-- ITS FALSE NEIGHBOUR: 'it returns false'. Refute it at one input. -/
def philoxBoundsWrong : ChangeSpec := { name := "philoxBounds", fn := fun _ => fun
  | [d1, d2, d3, d4, d5] => { results := [.lit (.bool false)], args := [d1, d2, d3, d4, d5] }
  | _ => none }
def PhiloxBoundsWrongFalsely : Prop := philoxBoundsRow.holds Try.pinned (OpenSpec.ofChange philoxBoundsWrong)

/-- 'anneallaw10.PhiloxWords': WHATEVER THE INPUT: true; the input reads as it did. -/
def philoxWordsSpec : ChangeSpec := { name := "philoxWords", fn := fun _ => fun
  | [d1, d2, d3] => { results := [.lit (.bool true)], args := [d1, d2, d3] }
  | _ => none }
def philoxWordsRow : OpenClaim := { program := "ytjedegeajkpmaaa", sum := "fc6114082ad5405f49db9841d89cd0412ac1a9973c560107f105f734e6f555ac", func := "anneal/anneallaw10.PhiloxWords", spec := "philoxWords", apart := false }
def PhiloxWordsSaid : Prop := philoxWordsRow.holds Try.pinned (OpenSpec.ofChange philoxWordsSpec)

/-- ITS FALSE NEIGHBOUR: 'it returns false'. Refute it at one input. -/
def philoxWordsWrong : ChangeSpec := { name := "philoxWords", fn := fun _ => fun
  | [d1, d2, d3] => { results := [.lit (.bool false)], args := [d1, d2, d3] }
  | _ => none }
def PhiloxWordsWrongFalsely : Prop := philoxWordsRow.holds Try.pinned (OpenSpec.ofChange philoxWordsWrong)

/-- 'anneallaw10.PhiloxTurned': WHATEVER THE INPUT: true; the input reads as it did. -/
def philoxTurnedSpec : ChangeSpec := { name := "philoxTurned", fn := fun _ => fun
  | [d1, d2, d3] => { results := [.lit (.bool true)], args := [d1, d2, d3] }
  | _ => none }
def philoxTurnedRow : OpenClaim := { program := "ytjedegeajkpmaaa", sum := "fc6114082ad5405f49db9841d89cd0412ac1a9973c560107f105f734e6f555ac", func := "anneal/anneallaw10.PhiloxTurned", spec := "philoxTurned", apart := false }
def PhiloxTurnedSaid : Prop := philoxTurnedRow.holds Try.pinned (OpenSpec.ofChange philoxTurnedSpec)

/-- ITS FALSE NEIGHBOUR: 'it returns false'. Refute it at one input. -/
def philoxTurnedWrong : ChangeSpec := { name := "philoxTurned", fn := fun _ => fun
  | [d1, d2, d3] => { results := [.lit (.bool false)], args := [d1, d2, d3] }
  | _ => none }
def PhiloxTurnedWrongFalsely : Prop := philoxTurnedRow.holds Try.pinned (OpenSpec.ofChange philoxTurnedWrong)

/- THE SECOND FORM. 'bulk': how many values and letters a reading holds, each counted each time it is reached (what is shared counts as often as it is met; a slice's spare places count too). A statement '..UptoSaid' is the law's where the arguments, and the package variables that the reading takes, are together of bulk at most 1048576: NARROWER than '..Said'. Prove '..Said' where nothing that the law and all that it calls make is longer than what came in: it says more and counts as full. Else prove '..UptoSaid'. A law counts once. -/
mutual
def uptoBulk {H : Type} : DataW H → Nat
  | .lit (.string bytes) => bytes.length + 1
  | .lit _ => 1
  | .nil => 1
  | .ptr d => uptoBulk d + 1
  | .slice elems spare => uptoBulkAll elems + uptoBulkAll spare + 1
  | .agg parts => uptoBulkAll parts + 1
  | .iface _ d => uptoBulk d + 1
  | .map entries => uptoBulkEntries entries + 1
  | .held _ => 1
def uptoBulkAll {H : Type} : List (DataW H) → Nat
  | [] => 0
  | d :: r => uptoBulk d + uptoBulkAll r
def uptoBulkEntries {H : Type} : List (Lit × DataW H) → Nat
  | [] => 0
  | x :: r => uptoBulkEntry x + uptoBulkEntries r
def uptoBulkEntry {H : Type} : Lit × DataW H → Nat
  | (.string bytes, d) => bytes.length + uptoBulk d + 1
  | (_, d) => uptoBulk d + 1
 end
def uptoSmall : (H : Type) → List (DataW H) → Bool := fun _ ds => decide (uptoBulkAll ds ≤ 1048576)
def OpenSpec.upto (s : _root_.Go.ChangeSpec) : _root_.Go.OpenSpec := { _root_.Go.OpenSpec.ofChange s with cond := some uptoSmall }

/-- 'anneallaw10.PhiloxTells', WHERE WHAT IT READS IS OF BULK AT MOST 1048576: true; the input reads as it did. -/
def philoxTellsUptoRow : OpenClaim := { program := "ytjedegeajkpmaaa", sum := "fc6114082ad5405f49db9841d89cd0412ac1a9973c560107f105f734e6f555ac", func := "anneal/anneallaw10.PhiloxTells", spec := "philoxTells", apart := false, narrowed := true }
def PhiloxTellsUptoSaid : Prop := philoxTellsUptoRow.holds Try.pinned (OpenSpec.upto philoxTellsSpec)

/-- 'anneallaw10.PhiloxBounds', WHERE WHAT IT READS IS OF BULK AT MOST 1048576: true; the input reads as it did. -/
def philoxBoundsUptoRow : OpenClaim := { program := "ytjedegeajkpmaaa", sum := "fc6114082ad5405f49db9841d89cd0412ac1a9973c560107f105f734e6f555ac", func := "anneal/anneallaw10.PhiloxBounds", spec := "philoxBounds", apart := false, narrowed := true }
def PhiloxBoundsUptoSaid : Prop := philoxBoundsUptoRow.holds Try.pinned (OpenSpec.upto philoxBoundsSpec)

/-- 'anneallaw10.PhiloxWords', WHERE WHAT IT READS IS OF BULK AT MOST 1048576: true; the input reads as it did. -/
def philoxWordsUptoRow : OpenClaim := { program := "ytjedegeajkpmaaa", sum := "fc6114082ad5405f49db9841d89cd0412ac1a9973c560107f105f734e6f555ac", func := "anneal/anneallaw10.PhiloxWords", spec := "philoxWords", apart := false, narrowed := true }
def PhiloxWordsUptoSaid : Prop := philoxWordsUptoRow.holds Try.pinned (OpenSpec.upto philoxWordsSpec)

/-- 'anneallaw10.PhiloxTurned', WHERE WHAT IT READS IS OF BULK AT MOST 1048576: true; the input reads as it did. -/
def philoxTurnedUptoRow : OpenClaim := { program := "ytjedegeajkpmaaa", sum := "fc6114082ad5405f49db9841d89cd0412ac1a9973c560107f105f734e6f555ac", func := "anneal/anneallaw10.PhiloxTurned", spec := "philoxTurned", apart := false, narrowed := true }
def PhiloxTurnedUptoSaid : Prop := philoxTurnedUptoRow.holds Try.pinned (OpenSpec.upto philoxTurnedSpec)

end Rows
end Go.Proofs.Ytjedegeajkpmaaa
