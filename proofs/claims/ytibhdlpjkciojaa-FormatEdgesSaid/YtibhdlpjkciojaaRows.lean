/-
  No cell of these rows narrows 'for every input' (looked for: loops, veiled, ifaces, maps, wideKeys, modest, calm, conditions, laid).
  DERIVED. THE GIVEN ROWS OF THIS SEAT. 4 by the template 'for every input the law returns true; each argument reads behind the call as it read before'; 0 by the template 'total and deterministic' (their statements: YtibhdlpjkciojaaTotals.lean).
  GIVEN WITH THE SEED: the statements are not yours to turn. If you find one false, say at which input.
  Laid BY PROGRAM, IN A SANDBOX (cutbox-rows.mjs): the forced cells as the released guide's own fill.sh prints them over the translation 501318106d99a55f… (all of the seat's roots in one cut). By AI agents, Wed Nov 11 2026. No macro, syntax, notation, axiom, sorry.
-/
import Derived.Test.YtibhdlpjkciojaaChecked
import GoSem.Claim
import GoSem.ClaimJoined
import GoSem.ClaimMapViews
import Derived.JoinedTies
import Derived.KernelRfl
namespace Go.Proofs.Ytibhdlpjkciojaa
/- THE CELL 'sum', in the pinned program and in every row, IS THE sha256 OF THE DUMP (.gsa) THAT YtibhdlpjkciojaaProg.lean LOADS. Nothing in Lean hashes anything: it is a label: what it is worth is what the hold of that sum in a sandbox is worth. -/
noncomputable def Try.pinned : Pinned := { name := "ytibhdlpjkciojaa", sum := "501318106d99a55f01f5fd3caf08141f76f13e8889a6a6a7da499cf62f7675dc", checked := Try.checked }
namespace Rows
def none {H : Type} : Left H := { results := [], args := [] }

/-- 'anneallaw2.FormatTells': WHATEVER THE INPUT: true; the input reads as it did. -/
def formatTellsSpec : ChangeSpec := { name := "formatTells", fn := fun _ => fun
  | [d1, d2, d3, d4] => { results := [.lit (.bool true)], args := [d1, d2, d3, d4] }
  | _ => none }
def formatTellsRow : OpenClaim := { program := "ytibhdlpjkciojaa", sum := "501318106d99a55f01f5fd3caf08141f76f13e8889a6a6a7da499cf62f7675dc", func := "anneal/anneallaw2.FormatTells", spec := "formatTells", apart := false }
def FormatTellsSaid : Prop := formatTellsRow.holds Try.pinned (OpenSpec.ofChange formatTellsSpec)

/-- ITS FALSE NEIGHBOUR: 'it returns false'. Refute it at one input. -/
def formatTellsWrong : ChangeSpec := { name := "formatTells", fn := fun _ => fun
  | [d1, d2, d3, d4] => { results := [.lit (.bool false)], args := [d1, d2, d3, d4] }
  | _ => none }
def FormatTellsWrongFalsely : Prop := formatTellsRow.holds Try.pinned (OpenSpec.ofChange formatTellsWrong)

/-- 'anneallaw2.FormatBack': WHATEVER THE INPUT: true; the input reads as it did. -/
def formatBackSpec : ChangeSpec := { name := "formatBack", fn := fun _ => fun
  | [d1, d2] => { results := [.lit (.bool true)], args := [d1, d2] }
  | _ => none }
def formatBackRow : OpenClaim := { program := "ytibhdlpjkciojaa", sum := "501318106d99a55f01f5fd3caf08141f76f13e8889a6a6a7da499cf62f7675dc", func := "anneal/anneallaw2.FormatBack", spec := "formatBack", apart := false }
def FormatBackSaid : Prop := formatBackRow.holds Try.pinned (OpenSpec.ofChange formatBackSpec)

/-- ITS FALSE NEIGHBOUR: 'it returns false'. Refute it at one input. -/
def formatBackWrong : ChangeSpec := { name := "formatBack", fn := fun _ => fun
  | [d1, d2] => { results := [.lit (.bool false)], args := [d1, d2] }
  | _ => none }
def FormatBackWrongFalsely : Prop := formatBackRow.holds Try.pinned (OpenSpec.ofChange formatBackWrong)

/-- 'anneallaw2.FormatEdges': WHATEVER THE INPUT: true; the input reads as it did. -/
def formatEdgesSpec : ChangeSpec := { name := "formatEdges", fn := fun _ => fun
  | [d1, d2, d3] => { results := [.lit (.bool true)], args := [d1, d2, d3] }
  | _ => none }
def formatEdgesRow : OpenClaim := { program := "ytibhdlpjkciojaa", sum := "501318106d99a55f01f5fd3caf08141f76f13e8889a6a6a7da499cf62f7675dc", func := "anneal/anneallaw2.FormatEdges", spec := "formatEdges", apart := false }
def FormatEdgesSaid : Prop := formatEdgesRow.holds Try.pinned (OpenSpec.ofChange formatEdgesSpec)

/-- ITS FALSE NEIGHBOUR: 'it returns false'. Refute it at one input. -/
def formatEdgesWrong : ChangeSpec := { name := "formatEdges", fn := fun _ => fun
  | [d1, d2, d3] => { results := [.lit (.bool false)], args := [d1, d2, d3] }
  | _ => none }
def FormatEdgesWrongFalsely : Prop := formatEdgesRow.holds Try.pinned (OpenSpec.ofChange formatEdgesWrong)

/-- 'anneallaw2.FormatHigh': WHATEVER THE INPUT: true; the input reads as it did. -/
def formatHighSpec : ChangeSpec := { name := "formatHigh", fn := fun _ => fun
  | [d1, d2, d3] => { results := [.lit (.bool true)], args := [d1, d2, d3] }
  | _ => none }
def formatHighRow : OpenClaim := { program := "ytibhdlpjkciojaa", sum := "501318106d99a55f01f5fd3caf08141f76f13e8889a6a6a7da499cf62f7675dc", func := "anneal/anneallaw2.FormatHigh", spec := "formatHigh", apart := false }
def FormatHighSaid : Prop := formatHighRow.holds Try.pinned (OpenSpec.ofChange formatHighSpec)

/-- ITS FALSE NEIGHBOUR: 'it returns false'. Refute it at one input. -/
def formatHighWrong : ChangeSpec := { name := "formatHigh", fn := fun _ => fun
  | [d1, d2, d3] => { results := [.lit (.bool false)], args := [d1, d2, d3] }
  | _ => none }
def FormatHighWrongFalsely : Prop := formatHighRow.holds Try.pinned (OpenSpec.ofChange formatHighWrong)

/- THE SECOND FORM. 'bulk': how many values and letters a reading holds, each counted each time it is reached (what is shared counts as often as it is met; a slice's spare places count too). A statement '..UptoSaid' is the law's where the arguments, and the package variables that the reading takes, are together of bulk at most 1048576: NARROWER than '..Said'. Prove '..Said' where nothing that the law and all that it calls make is longer than what came in: it says more and counts as full. Else prove '..UptoSaid'. A law counts once. -/
mutual
def uptoBulk {H : Type} : DataW H → Nat
  | .lit (.string bytes) => bytes.length + 1
  | .lit _ => 1
  | .nil => 1
  | .ptr d => uptoBulk d + 1
  | .slice elems spare => uptoBulkAll elems + uptoBulkAll spare + 1
  | .agg parts => uptoBulkAll parts + 1
  | .iface _ d => uptoBulk d + 1
  | .map entries => uptoBulkEntries entries + 1
  | .held _ => 1
def uptoBulkAll {H : Type} : List (DataW H) → Nat
  | [] => 0
  | d :: r => uptoBulk d + uptoBulkAll r
def uptoBulkEntries {H : Type} : List (Lit × DataW H) → Nat
  | [] => 0
  | x :: r => uptoBulkEntry x + uptoBulkEntries r
def uptoBulkEntry {H : Type} : Lit × DataW H → Nat
  | (.string bytes, d) => bytes.length + uptoBulk d + 1
  | (_, d) => uptoBulk d + 1
 end
def uptoSmall : (H : Type) → List (DataW H) → Bool := fun _ ds => decide (uptoBulkAll ds ≤ 1048576)
def OpenSpec.upto (s : _root_.Go.ChangeSpec) : _root_.Go.OpenSpec := { _root_.Go.OpenSpec.ofChange s with cond := some uptoSmall }

/-- 'anneallaw2.FormatTells', WHERE WHAT IT READS IS OF BULK AT MOST 1048576: true; the input reads as it did. -/
def formatTellsUptoRow : OpenClaim := { program := "ytibhdlpjkciojaa", sum := "501318106d99a55f01f5fd3caf08141f76f13e8889a6a6a7da499cf62f7675dc", func := "anneal/anneallaw2.FormatTells", spec := "formatTells", apart := false, narrowed := true }
def FormatTellsUptoSaid : Prop := formatTellsUptoRow.holds Try.pinned (OpenSpec.upto formatTellsSpec)

/-- 'anneallaw2.FormatBack', WHERE WHAT IT READS IS OF BULK AT MOST 1048576: true; the input reads as it did. -/
def formatBackUptoRow : OpenClaim := { program := "ytibhdlpjkciojaa", sum := "501318106d99a55f01f5fd3caf08141f76f13e8889a6a6a7da499cf62f7675dc", func := "anneal/anneallaw2.FormatBack", spec := "formatBack", apart := false, narrowed := true }
def FormatBackUptoSaid : Prop := formatBackUptoRow.holds Try.pinned (OpenSpec.upto formatBackSpec)

/-- 'anneallaw2.FormatEdges', WHERE WHAT IT READS IS OF BULK AT MOST 1048576: true; the input reads as it did. -/
def formatEdgesUptoRow : OpenClaim := { program := "ytibhdlpjkciojaa", sum := "501318106d99a55f01f5fd3caf08141f76f13e8889a6a6a7da499cf62f7675dc", func := "anneal/anneallaw2.FormatEdges", spec := "formatEdges", apart := false, narrowed := true }
def FormatEdgesUptoSaid : Prop := formatEdgesUptoRow.holds Try.pinned (OpenSpec.upto formatEdgesSpec)

/-- 'anneallaw2.FormatHigh', WHERE WHAT IT READS IS OF BULK AT MOST 1048576: true; the input reads as it did. -/
def formatHighUptoRow : OpenClaim := { program := "ytibhdlpjkciojaa", sum := "501318106d99a55f01f5fd3caf08141f76f13e8889a6a6a7da499cf62f7675dc", func := "anneal/anneallaw2.FormatHigh", spec := "formatHigh", apart := false, narrowed := true }
def FormatHighUptoSaid : Prop := formatHighUptoRow.holds Try.pinned (OpenSpec.upto formatHighSpec)

end Rows
end Go.Proofs.Ytibhdlpjkciojaa
