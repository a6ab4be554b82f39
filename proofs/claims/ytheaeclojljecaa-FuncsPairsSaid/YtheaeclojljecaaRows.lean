/-
  No cell of these rows narrows 'for every input' (looked for: loops, veiled, ifaces, maps, wideKeys, modest, calm, conditions, laid).
  DERIVED. THE GIVEN ROWS OF THIS SEAT. 3 by the template 'for every input the law returns true; each argument reads behind the call as it read before'; 0 by the template 'total and deterministic' (their statements: YtheaeclojljecaaTotals.lean).
  GIVEN WITH THE SEED: the statements are not yours to turn. If you find one false, say at which input.
  Laid BY PROGRAM, IN A SANDBOX (cutbox-rows.mjs): the forced cells as the released guide's own fill.sh prints them over the translation b957abfbe139f12c… (all of the seat's roots in one cut). By AI agents, Wed Nov 11 2026. No macro, syntax, notation, axiom, sorry.
-/
import Derived.Test.YtheaeclojljecaaChecked
import GoSem.Claim
import GoSem.ClaimJoined
import GoSem.ClaimMapViews
import Derived.JoinedTies
import Derived.KernelRfl
namespace Go.Proofs.Ytheaeclojljecaa
/- THE CELL 'sum', in the pinned program and in every row, IS THE sha256 OF THE DUMP (.gsa) THAT YtheaeclojljecaaProg.lean LOADS. Nothing in Lean hashes anything: it is a label: what it is worth is what the hold of that sum in a sandbox is worth. -/
noncomputable def Try.pinned : Pinned := { name := "ytheaeclojljecaa", sum := "b957abfbe139f12cd859496af7dda8e1868b182790a832ae382b089f095224af", checked := Try.checked }
namespace Rows
def none {H : Type} : Left H := { results := [], args := [] }

/-- 'anneallaw12.FuncsEdges': WHATEVER THE INPUT: true; the input reads as it did. -/
def funcsEdgesSpec : ChangeSpec := { name := "funcsEdges", fn := fun _ => fun
  | [d1, d2] => { results := [.lit (.bool true)], args := [d1, d2] }
  | _ => none }
def funcsEdgesRow : OpenClaim := { program := "ytheaeclojljecaa", sum := "b957abfbe139f12cd859496af7dda8e1868b182790a832ae382b089f095224af", func := "anneal/anneallaw12.FuncsEdges", spec := "funcsEdges", unfollowed := true, recurses := true, apart := false }
def FuncsEdgesSaid : Prop := funcsEdgesRow.holds Try.pinned (OpenSpec.ofChange funcsEdgesSpec)

/-- ITS FALSE NEIGHBOUR: 'it returns false'. Refute it at one input. -/
def funcsEdgesWrong : ChangeSpec := { name := "funcsEdges", fn := fun _ => fun
  | [d1, d2] => { results := [.lit (.bool false)], args := [d1, d2] }
  | _ => none }
def FuncsEdgesWrongFalsely : Prop := funcsEdgesRow.holds Try.pinned (OpenSpec.ofChange funcsEdgesWrong)

/-- 'anneallaw12.FuncsSigns': WHATEVER THE INPUT: true; the input reads as it did. -/
def funcsSignsSpec : ChangeSpec := { name := "funcsSigns", fn := fun _ => fun
  | [d] => { results := [.lit (.bool true)], args := [d] }
  | _ => none }
def funcsSignsRow : OpenClaim := { program := "ytheaeclojljecaa", sum := "b957abfbe139f12cd859496af7dda8e1868b182790a832ae382b089f095224af", func := "anneal/anneallaw12.FuncsSigns", spec := "funcsSigns", unfollowed := true, recurses := true, apart := false }
def FuncsSignsSaid : Prop := funcsSignsRow.holds Try.pinned (OpenSpec.ofChange funcsSignsSpec)

/-- ITS FALSE NEIGHBOUR: 'it returns false'. Refute it at one input. -/
def funcsSignsWrong : ChangeSpec := { name := "funcsSigns", fn := fun _ => fun
  | [d] => { results := [.lit (.bool false)], args := [d] }
  | _ => none }
def FuncsSignsWrongFalsely : Prop := funcsSignsRow.holds Try.pinned (OpenSpec.ofChange funcsSignsWrong)

/-- 'anneallaw12.FuncsPairs': WHATEVER THE INPUT: true; the input reads as it did. -/
def funcsPairsSpec : ChangeSpec := { name := "funcsPairs", fn := fun _ => fun
  | [d] => { results := [.lit (.bool true)], args := [d] }
  | _ => none }
def funcsPairsRow : OpenClaim := { program := "ytheaeclojljecaa", sum := "b957abfbe139f12cd859496af7dda8e1868b182790a832ae382b089f095224af", func := "anneal/anneallaw12.FuncsPairs", spec := "funcsPairs", unfollowed := true, recurses := true, apart := false }
def FuncsPairsSaid : Prop := funcsPairsRow.holds Try.pinned (OpenSpec.ofChange funcsPairsSpec)

/-- ITS FALSE NEIGHBOUR: 'it returns false'. Refute it at one input. -/
def funcsPairsWrong : ChangeSpec := { name := "funcsPairs", fn := fun _ => fun
  | [d] => { results := [.lit (.bool false)], args := [d] }
  | _ => none }
def FuncsPairsWrongFalsely : Prop := funcsPairsRow.holds Try.pinned (OpenSpec.ofChange funcsPairsWrong)

/- THE SECOND FORM. 'bulk': how many values and letters a reading holds, each counted each time it is reached (what is shared counts as often as it is met; a slice's spare places count too). A statement '..UptoSaid' is the law's where the arguments, and the package variables that the reading takes, are together of bulk at most 1048576: NARROWER than '..Said'. Prove '..Said' where nothing that the law and all that it calls make is longer than what came in: it says more and counts as full. Else prove '..UptoSaid'. A law counts once. -/
mutual
def uptoBulk {H : Type} : DataW H → Nat
  | .lit (.string bytes) => bytes.length + 1
  | .lit _ => 1
  | .nil => 1
  | .ptr d => uptoBulk d + 1
  | .slice elems spare => uptoBulkAll elems + uptoBulkAll spare + 1
  | .agg parts => uptoBulkAll parts + 1
  | .iface _ d => uptoBulk d + 1
  | .map entries => uptoBulkEntries entries + 1
  | .held _ => 1
def uptoBulkAll {H : Type} : List (DataW H) → Nat
  | [] => 0
  | d :: r => uptoBulk d + uptoBulkAll r
def uptoBulkEntries {H : Type} : List (Lit × DataW H) → Nat
  | [] => 0
  | x :: r => uptoBulkEntry x + uptoBulkEntries r
def uptoBulkEntry {H : Type} : Lit × DataW H → Nat
  | (.string bytes, d) => bytes.length + uptoBulk d + 1
  | (_, d) => uptoBulk d + 1
 end
def uptoSmall : (H : Type) → List (DataW H) → Bool := fun _ ds => decide (uptoBulkAll ds ≤ 1048576)
def OpenSpec.upto (s : _root_.Go.ChangeSpec) : _root_.Go.OpenSpec := { _root_.Go.OpenSpec.ofChange s with cond := some uptoSmall }

/-- 'anneallaw12.FuncsEdges', WHERE WHAT IT READS IS OF BULK AT MOST 1048576: true; the input reads as it did. -/
def funcsEdgesUptoRow : OpenClaim := { program := "ytheaeclojljecaa", sum := "b957abfbe139f12cd859496af7dda8e1868b182790a832ae382b089f095224af", func := "anneal/anneallaw12.FuncsEdges", spec := "funcsEdges", unfollowed := true, recurses := true, apart := false, narrowed := true }
def FuncsEdgesUptoSaid : Prop := funcsEdgesUptoRow.holds Try.pinned (OpenSpec.upto funcsEdgesSpec)

/-- 'anneallaw12.FuncsSigns', WHERE WHAT IT READS IS OF BULK AT MOST 1048576: true; the input reads as it did. -/
def funcsSignsUptoRow : OpenClaim := { program := "ytheaeclojljecaa", sum := "b957abfbe139f12cd859496af7dda8e1868b182790a832ae382b089f095224af", func := "anneal/anneallaw12.FuncsSigns", spec := "funcsSigns", unfollowed := true, recurses := true, apart := false, narrowed := true }
def FuncsSignsUptoSaid : Prop := funcsSignsUptoRow.holds Try.pinned (OpenSpec.upto funcsSignsSpec)

/-- 'anneallaw12.FuncsPairs', WHERE WHAT IT READS IS OF BULK AT MOST 1048576: true; the input reads as it did. -/
def funcsPairsUptoRow : OpenClaim := { program := "ytheaeclojljecaa", sum := "b957abfbe139f12cd859496af7dda8e1868b182790a832ae382b089f095224af", func := "anneal/anneallaw12.FuncsPairs", spec := "funcsPairs", unfollowed := true, recurses := true, apart := false, narrowed := true }
def FuncsPairsUptoSaid : Prop := funcsPairsUptoRow.holds Try.pinned (OpenSpec.upto funcsPairsSpec)

end Rows
end Go.Proofs.Ytheaeclojljecaa
