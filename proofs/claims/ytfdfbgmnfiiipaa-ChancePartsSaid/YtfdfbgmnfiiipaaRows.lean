/-
  No cell of these rows narrows 'for every input' (looked for: loops, veiled, ifaces, maps, wideKeys, modest, calm, conditions, laid).
  DERIVED. THE GIVEN ROWS OF THIS SEAT. 4 by the template 'for every input the law returns true; each argument reads behind the call as it read before'; 0 by the template 'total and deterministic' (their statements: YtfdfbgmnfiiipaaTotals.lean).
  GIVEN WITH THE SEED: the statements are not yours to turn. If you find one false, say at which input.
  Laid BY PROGRAM, IN A SANDBOX (cutbox-rows.mjs): the forced cells as the released guide's own fill.sh prints them over the translation 6d3ad26ee4ee5741… (all of the seat's roots in one cut). By AI agents, Wed Nov 11 2026. No macro, syntax, notation, axiom, sorry.
-/
import Derived.Test.YtfdfbgmnfiiipaaChecked
import GoSem.Claim
import GoSem.ClaimJoined
import GoSem.ClaimMapViews
import Derived.JoinedTies
import Derived.KernelRfl
namespace Go.Proofs.Ytfdfbgmnfiiipaa
/- THE CELL 'sum', in the pinned program and in every row, IS THE sha256 OF THE DUMP (.gsa) THAT YtfdfbgmnfiiipaaProg.lean LOADS. Nothing in Lean hashes anything: it is a label: what it is worth is what the hold of that sum in a sandbox is worth. -/
noncomputable def Try.pinned : Pinned := { name := "ytfdfbgmnfiiipaa", sum := "6d3ad26ee4ee5741271dbc772464c6fa431e0f405c80d704dd9195b3d0eaba06", checked := Try.checked }
namespace Rows
def none {H : Type} : Left H := { results := [], args := [] }

/-- 'anneallaw11.ChanceTells': WHATEVER THE INPUT: true; the input reads as it did. -/
def chanceTellsSpec : ChangeSpec := { name := "chanceTells", fn := fun _ => fun
  | [d1, d2, d3, d4] => { results := [.lit (.bool true)], args := [d1, d2, d3, d4] }
  | _ => none }
def chanceTellsRow : OpenClaim := { program := "ytfdfbgmnfiiipaa", sum := "6d3ad26ee4ee5741271dbc772464c6fa431e0f405c80d704dd9195b3d0eaba06", func := "anneal/anneallaw11.ChanceTells", spec := "chanceTells", apart := false }
def ChanceTellsSaid : Prop := chanceTellsRow.holds Try.pinned (OpenSpec.ofChange chanceTellsSpec)

/-- ITS FALSE NEIGHBOUR: 'it returns false'. Refute it at one input. -/
def chanceTellsWrong : ChangeSpec := { name := "chanceTells", fn := fun _ => fun
  | [d1, d2, d3, d4] => { results := [.lit (.bool false)], args := [d1, d2, d3, d4] }
  | _ => none }
def ChanceTellsWrongFalsely : Prop := chanceTellsRow.holds Try.pinned (OpenSpec.ofChange chanceTellsWrong)

/-- 'anneallaw11.ChanceBetween': WHATEVER THE INPUT: true; the input reads as it did. -/
def chanceBetweenSpec : ChangeSpec := { name := "chanceBetween", fn := fun _ => fun
  | [d1, d2, d3, d4] => { results := [.lit (.bool true)], args := [d1, d2, d3, d4] }
  | _ => none }
def chanceBetweenRow : OpenClaim := { program := "ytfdfbgmnfiiipaa", sum := "6d3ad26ee4ee5741271dbc772464c6fa431e0f405c80d704dd9195b3d0eaba06", func := "anneal/anneallaw11.ChanceBetween", spec := "chanceBetween", unfollowed := true, recurses := true, apart := false }
def ChanceBetweenSaid : Prop := chanceBetweenRow.holds Try.pinned (OpenSpec.ofChange chanceBetweenSpec)

/-- ITS FALSE NEIGHBOUR: 'it returns false'. Refute it at one input. -/
def chanceBetweenWrong : ChangeSpec := { name := "chanceBetween", fn := fun _ => fun
  | [d1, d2, d3, d4] => { results := [.lit (.bool false)], args := [d1, d2, d3, d4] }
  | _ => none }
def ChanceBetweenWrongFalsely : Prop := chanceBetweenRow.holds Try.pinned (OpenSpec.ofChange chanceBetweenWrong)

/-- 'anneallaw11.ChanceExact': WHATEVER THE INPUT: true; the input reads as it did. -/
def chanceExactSpec : ChangeSpec := { name := "chanceExact", fn := fun _ => fun
  | [d1, d2, d3] => { results := [.lit (.bool true)], args := [d1, d2, d3] }
  | _ => none }
def chanceExactRow : OpenClaim := { program := "ytfdfbgmnfiiipaa", sum := "6d3ad26ee4ee5741271dbc772464c6fa431e0f405c80d704dd9195b3d0eaba06", func := "anneal/anneallaw11.ChanceExact", spec := "chanceExact", apart := false }
def ChanceExactSaid : Prop := chanceExactRow.holds Try.pinned (OpenSpec.ofChange chanceExactSpec)

/-- ITS FALSE NEIGHBOUR: 'it returns false'. Refute it at one input. -/
def chanceExactWrong : ChangeSpec := { name := "chanceExact", fn := fun _ => fun
  | [d1, d2, d3] => { results := [.lit (.bool false)], args := [d1, d2, d3] }
  | _ => none }
def ChanceExactWrongFalsely : Prop := chanceExactRow.holds Try.pinned (OpenSpec.ofChange chanceExactWrong)

/-- 'anneallaw11.ChanceParts': WHATEVER THE INPUT: true; the input reads as it did. -/
def chancePartsSpec : ChangeSpec := { name := "chanceParts", fn := fun _ => fun
  | [d1, d2, d3] => { results := [.lit (.bool true)], args := [d1, d2, d3] }
  | _ => none }
def chancePartsRow : OpenClaim := { program := "ytfdfbgmnfiiipaa", sum := "6d3ad26ee4ee5741271dbc772464c6fa431e0f405c80d704dd9195b3d0eaba06", func := "anneal/anneallaw11.ChanceParts", spec := "chanceParts", apart := false }
def ChancePartsSaid : Prop := chancePartsRow.holds Try.pinned (OpenSpec.ofChange chancePartsSpec)

/-- ITS FALSE NEIGHBOUR: 'it returns false'. Refute it at one input. -/
def chancePartsWrong : ChangeSpec := { name := "chanceParts", fn := fun _ => fun
  | [d1, d2, d3] => { results := [.lit (.bool false)], args := [d1, d2, d3] }
  | _ => none }
def ChancePartsWrongFalsely : Prop := chancePartsRow.holds Try.pinned (OpenSpec.ofChange chancePartsWrong)

/- THE SECOND FORM. 'bulk': how many values and letters a reading holds, each counted each time it is reached (what is shared counts as often as it is met; a slice's spare places count too). A statement '..UptoSaid' is the law's where the arguments, and the package variables that the reading takes, are together of bulk at most 1048576: NARROWER than '..Said'. Prove '..Said' where nothing that the law and all that it calls make is longer than what came in: it says more and counts as full. Else prove '..UptoSaid'. A law counts once. -/
mutual
def uptoBulk {H : Type} : DataW H → Nat
  | .lit (.string bytes) => bytes.length + 1
  | .lit _ => 1
  | .nil => 1
  | .ptr d => uptoBulk d + 1
  | .slice elems spare => uptoBulkAll elems + uptoBulkAll spare + 1
  | .agg parts => uptoBulkAll parts + 1
  | .iface _ d => uptoBulk d + 1
  | .map entries => uptoBulkEntries entries + 1
  | .held _ => 1
def uptoBulkAll {H : Type} : List (DataW H) → Nat
  | [] => 0
  | d :: r => uptoBulk d + uptoBulkAll r
def uptoBulkEntries {H : Type} : List (Lit × DataW H) → Nat
  | [] => 0
  | x :: r => uptoBulkEntry x + uptoBulkEntries r
def uptoBulkEntry {H : Type} : Lit × DataW H → Nat
  | (.string bytes, d) => bytes.length + uptoBulk d + 1
  | (_, d) => uptoBulk d + 1
 end
def uptoSmall : (H : Type) → List (DataW H) → Bool := fun _ ds => decide (uptoBulkAll ds ≤ 1048576)
def OpenSpec.upto (s : _root_.Go.ChangeSpec) : _root_.Go.OpenSpec := { _root_.Go.OpenSpec.ofChange s with cond := some uptoSmall }

/-- 'anneallaw11.ChanceTells', WHERE WHAT IT READS IS OF BULK AT MOST 1048576: true; the input reads as it did. -/
def chanceTellsUptoRow : OpenClaim := { program := "ytfdfbgmnfiiipaa", sum := "6d3ad26ee4ee5741271dbc772464c6fa431e0f405c80d704dd9195b3d0eaba06", func := "anneal/anneallaw11.ChanceTells", spec := "chanceTells", apart := false, narrowed := true }
def ChanceTellsUptoSaid : Prop := chanceTellsUptoRow.holds Try.pinned (OpenSpec.upto chanceTellsSpec)

/-- 'anneallaw11.ChanceBetween', WHERE WHAT IT READS IS OF BULK AT MOST 1048576: true; the input reads as it did. -/
def chanceBetweenUptoRow : OpenClaim := { program := "ytfdfbgmnfiiipaa", sum := "6d3ad26ee4ee5741271dbc772464c6fa431e0f405c80d704dd9195b3d0eaba06", func := "anneal/anneallaw11.ChanceBetween", spec := "chanceBetween", unfollowed := true, recurses := true, apart := false, narrowed := true }
def ChanceBetweenUptoSaid : Prop := chanceBetweenUptoRow.holds Try.pinned (OpenSpec.upto chanceBetweenSpec)

/-- 'anneallaw11.ChanceExact', WHERE WHAT IT READS IS OF BULK AT MOST 1048576: true; the input reads as it did. -/
def chanceExactUptoRow : OpenClaim := { program := "ytfdfbgmnfiiipaa", sum := "6d3ad26ee4ee5741271dbc772464c6fa431e0f405c80d704dd9195b3d0eaba06", func := "anneal/anneallaw11.ChanceExact", spec := "chanceExact", apart := false, narrowed := true }
def ChanceExactUptoSaid : Prop := chanceExactUptoRow.holds Try.pinned (OpenSpec.upto chanceExactSpec)

/-- 'anneallaw11.ChanceParts', WHERE WHAT IT READS IS OF BULK AT MOST 1048576: true; the input reads as it did. -/
def chancePartsUptoRow : OpenClaim := { program := "ytfdfbgmnfiiipaa", sum := "6d3ad26ee4ee5741271dbc772464c6fa431e0f405c80d704dd9195b3d0eaba06", func := "anneal/anneallaw11.ChanceParts", spec := "chanceParts", apart := false, narrowed := true }
def ChancePartsUptoSaid : Prop := chancePartsUptoRow.holds Try.pinned (OpenSpec.upto chancePartsSpec)

end Rows
end Go.Proofs.Ytfdfbgmnfiiipaa
