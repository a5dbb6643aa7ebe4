/-
  No cell of these rows narrows 'for every input' (looked for: loops, veiled, ifaces, maps, wideKeys, modest, calm, conditions, laid).
  DERIVED. THE GIVEN ROWS OF THIS SEAT. 6 by the template 'for every input the law returns true; each argument reads behind the call as it read before'; 0 by the template 'total and deterministic' (their statements: YtgmmhhackiimcaaTotals.lean).
  GIVEN WITH THE SEED: the statements are not yours to turn. If you find one false, say at which input.
  Laid BY PROGRAM, IN A SANDBOX (cutbox-rows.mjs): the forced cells as the released guide's own fill.sh prints them over the translation 5bd1960358dc52e7… (all of the seat's roots in one cut). By AI agents, Wed Nov 11 2026. No macro, syntax, notation, axiom, sorry.
-/
import Derived.Test.YtgmmhhackiimcaaChecked
import GoSem.Claim
import GoSem.ClaimJoined
import GoSem.ClaimMapViews
import Derived.JoinedTies
import Derived.KernelRfl
namespace Go.Proofs.Ytgmmhhackiimcaa
/- THE CELL 'sum', in the pinned program and in every row, IS THE sha256 OF THE DUMP (.gsa) THAT YtgmmhhackiimcaaProg.lean LOADS. Nothing in Lean hashes anything: it is a label: what it is worth is what the hold of that sum in a sandbox is worth. -/
noncomputable def Try.pinned : Pinned := { name := "ytgmmhhackiimcaa", sum := "5bd1960358dc52e7cbb2e0ae8a6b1dde81d4d450b907ac103ed14bd540e0c5a5", checked := Try.checked }
namespace Rows
def none {H : Type} : Left H := { results := [], args := [] }

/-- 'cellplanelaw04.TopoValid': WHATEVER THE INPUT: true; the input reads as it did. -/
def topoValidSpec : ChangeSpec := { name := "topoValid", fn := fun _ => fun
  | [d1, d2, d3, d4] => { results := [.lit (.bool true)], args := [d1, d2, d3, d4] }
  | _ => none }
def topoValidRow : OpenClaim := { program := "ytgmmhhackiimcaa", sum := "5bd1960358dc52e7cbb2e0ae8a6b1dde81d4d450b907ac103ed14bd540e0c5a5", func := "cellplane/cellplanelaw04.TopoValid", spec := "topoValid", apart := false }
def TopoValidSaid : Prop := topoValidRow.holds Try.pinned (OpenSpec.ofChange topoValidSpec)

/-- ITS FALSE NEIGHBOUR: 'it returns false'. Refute it at one input. -/
def topoValidWrong : ChangeSpec := { name := "topoValid", fn := fun _ => fun
  | [d1, d2, d3, d4] => { results := [.lit (.bool false)], args := [d1, d2, d3, d4] }
  | _ => none }
def TopoValidWrongFalsely : Prop := topoValidRow.holds Try.pinned (OpenSpec.ofChange topoValidWrong)

/-- 'cellplanelaw04.TopoCells': WHATEVER THE INPUT: true; the input reads as it did. -/
def topoCellsSpec : ChangeSpec := { name := "topoCells", fn := fun _ => fun
  | [d1, d2, d3, d4] => { results := [.lit (.bool true)], args := [d1, d2, d3, d4] }
  | _ => none }
def topoCellsRow : OpenClaim := { program := "ytgmmhhackiimcaa", sum := "5bd1960358dc52e7cbb2e0ae8a6b1dde81d4d450b907ac103ed14bd540e0c5a5", func := "cellplane/cellplanelaw04.TopoCells", spec := "topoCells", apart := false }
def TopoCellsSaid : Prop := topoCellsRow.holds Try.pinned (OpenSpec.ofChange topoCellsSpec)

/-- ITS FALSE NEIGHBOUR: 'it returns false'. Refute it at one input. -/
def topoCellsWrong : ChangeSpec := { name := "topoCells", fn := fun _ => fun
  | [d1, d2, d3, d4] => { results := [.lit (.bool false)], args := [d1, d2, d3, d4] }
  | _ => none }
def TopoCellsWrongFalsely : Prop := topoCellsRow.holds Try.pinned (OpenSpec.ofChange topoCellsWrong)

/-- 'cellplanelaw04.TopoSurvives': WHATEVER THE INPUT: true; the input reads as it did. -/
def topoSurvivesSpec : ChangeSpec := { name := "topoSurvives", fn := fun _ => fun
  | [d1, d2] => { results := [.lit (.bool true)], args := [d1, d2] }
  | _ => none }
def topoSurvivesRow : OpenClaim := { program := "ytgmmhhackiimcaa", sum := "5bd1960358dc52e7cbb2e0ae8a6b1dde81d4d450b907ac103ed14bd540e0c5a5", func := "cellplane/cellplanelaw04.TopoSurvives", spec := "topoSurvives", apart := false }
def TopoSurvivesSaid : Prop := topoSurvivesRow.holds Try.pinned (OpenSpec.ofChange topoSurvivesSpec)

/-- ITS FALSE NEIGHBOUR: 'it returns false'. Refute it at one input. -/
def topoSurvivesWrong : ChangeSpec := { name := "topoSurvives", fn := fun _ => fun
  | [d1, d2] => { results := [.lit (.bool false)], args := [d1, d2] }
  | _ => none }
def TopoSurvivesWrongFalsely : Prop := topoSurvivesRow.holds Try.pinned (OpenSpec.ofChange topoSurvivesWrong)

/-- 'cellplanelaw04.TopoPartition': WHATEVER THE INPUT: true; the input reads as it did. -/
def topoPartitionSpec : ChangeSpec := { name := "topoPartition", fn := fun _ => fun
  | [d] => { results := [.lit (.bool true)], args := [d] }
  | _ => none }
def topoPartitionRow : OpenClaim := { program := "ytgmmhhackiimcaa", sum := "5bd1960358dc52e7cbb2e0ae8a6b1dde81d4d450b907ac103ed14bd540e0c5a5", func := "cellplane/cellplanelaw04.TopoPartition", spec := "topoPartition", apart := false }
def TopoPartitionSaid : Prop := topoPartitionRow.holds Try.pinned (OpenSpec.ofChange topoPartitionSpec)

/-- ITS FALSE NEIGHBOUR: 'it returns false'. Refute it at one input. -/
def topoPartitionWrong : ChangeSpec := { name := "topoPartition", fn := fun _ => fun
  | [d] => { results := [.lit (.bool false)], args := [d] }
  | _ => none }
def TopoPartitionWrongFalsely : Prop := topoPartitionRow.holds Try.pinned (OpenSpec.ofChange topoPartitionWrong)

/-- 'cellplanelaw04.TopoAlive': WHATEVER THE INPUT: true; the input reads as it did. -/
def topoAliveSpec : ChangeSpec := { name := "topoAlive", fn := fun _ => fun
  | [d1, d2] => { results := [.lit (.bool true)], args := [d1, d2] }
  | _ => none }
def topoAliveRow : OpenClaim := { program := "ytgmmhhackiimcaa", sum := "5bd1960358dc52e7cbb2e0ae8a6b1dde81d4d450b907ac103ed14bd540e0c5a5", func := "cellplane/cellplanelaw04.TopoAlive", spec := "topoAlive", apart := false }
def TopoAliveSaid : Prop := topoAliveRow.holds Try.pinned (OpenSpec.ofChange topoAliveSpec)

/-- ITS FALSE NEIGHBOUR: 'it returns false'. Refute it at one input. -/
def topoAliveWrong : ChangeSpec := { name := "topoAlive", fn := fun _ => fun
  | [d1, d2] => { results := [.lit (.bool false)], args := [d1, d2] }
  | _ => none }
def TopoAliveWrongFalsely : Prop := topoAliveRow.holds Try.pinned (OpenSpec.ofChange topoAliveWrong)

/-- 'cellplanelaw04.TopoMajority': WHATEVER THE INPUT: true; the input reads as it did. -/
def topoMajoritySpec : ChangeSpec := { name := "topoMajority", fn := fun _ => fun
  | [d1, d2, d3] => { results := [.lit (.bool true)], args := [d1, d2, d3] }
  | _ => none }
def topoMajorityRow : OpenClaim := { program := "ytgmmhhackiimcaa", sum := "5bd1960358dc52e7cbb2e0ae8a6b1dde81d4d450b907ac103ed14bd540e0c5a5", func := "cellplane/cellplanelaw04.TopoMajority", spec := "topoMajority", apart := false }
def TopoMajoritySaid : Prop := topoMajorityRow.holds Try.pinned (OpenSpec.ofChange topoMajoritySpec)

/-- ITS FALSE NEIGHBOUR: 'it returns false'. Refute it at one input. -/
def topoMajorityWrong : ChangeSpec := { name := "topoMajority", fn := fun _ => fun
  | [d1, d2, d3] => { results := [.lit (.bool false)], args := [d1, d2, d3] }
  | _ => none }
def TopoMajorityWrongFalsely : Prop := topoMajorityRow.holds Try.pinned (OpenSpec.ofChange topoMajorityWrong)

/- THE SECOND FORM. 'bulk': how many values and letters a reading holds, each counted each time it is reached (what is shared counts as often as it is met; a slice's spare places count too). A statement '..UptoSaid' is the law's where the arguments, and the package variables that the reading takes, are together of bulk at most 1048576: NARROWER than '..Said'. Prove '..Said' where nothing that the law and all that it calls make is longer than what came in: it says more and counts as full. Else prove '..UptoSaid'. A law counts once. -/
mutual
def uptoBulk {H : Type} : DataW H → Nat
  | .lit (.string bytes) => bytes.length + 1
  | .lit _ => 1
  | .nil => 1
  | .ptr d => uptoBulk d + 1
  | .slice elems spare => uptoBulkAll elems + uptoBulkAll spare + 1
  | .agg parts => uptoBulkAll parts + 1
  | .iface _ d => uptoBulk d + 1
  | .map entries => uptoBulkEntries entries + 1
  | .held _ => 1
def uptoBulkAll {H : Type} : List (DataW H) → Nat
  | [] => 0
  | d :: r => uptoBulk d + uptoBulkAll r
def uptoBulkEntries {H : Type} : List (Lit × DataW H) → Nat
  | [] => 0
  | x :: r => uptoBulkEntry x + uptoBulkEntries r
def uptoBulkEntry {H : Type} : Lit × DataW H → Nat
  | (.string bytes, d) => bytes.length + uptoBulk d + 1
  | (_, d) => uptoBulk d + 1
 end
def uptoSmall : (H : Type) → List (DataW H) → Bool := fun _ ds => decide (uptoBulkAll ds ≤ 1048576)
def OpenSpec.upto (s : _root_.Go.ChangeSpec) : _root_.Go.OpenSpec := { _root_.Go.OpenSpec.ofChange s with cond := some uptoSmall }

/-- 'cellplanelaw04.TopoValid', WHERE WHAT IT READS IS OF BULK AT MOST 1048576: true; the input reads as it did. -/
def topoValidUptoRow : OpenClaim := { program := "ytgmmhhackiimcaa", sum := "5bd1960358dc52e7cbb2e0ae8a6b1dde81d4d450b907ac103ed14bd540e0c5a5", func := "cellplane/cellplanelaw04.TopoValid", spec := "topoValid", apart := false, narrowed := true }
def TopoValidUptoSaid : Prop := topoValidUptoRow.holds Try.pinned (OpenSpec.upto topoValidSpec)

/-- 'cellplanelaw04.TopoCells', WHERE WHAT IT READS IS OF BULK AT MOST 1048576: true; the input reads as it did. -/
def topoCellsUptoRow : OpenClaim := { program := "ytgmmhhackiimcaa", sum := "5bd1960358dc52e7cbb2e0ae8a6b1dde81d4d450b907ac103ed14bd540e0c5a5", func := "cellplane/cellplanelaw04.TopoCells", spec := "topoCells", apart := false, narrowed := true }
def TopoCellsUptoSaid : Prop := topoCellsUptoRow.holds Try.pinned (OpenSpec.upto topoCellsSpec)

/-- 'cellplanelaw04.TopoSurvives', WHERE WHAT IT READS IS OF BULK AT MOST 1048576: true; the input reads as it did. -/
def topoSurvivesUptoRow : OpenClaim := { program := "ytgmmhhackiimcaa", sum := "5bd1960358dc52e7cbb2e0ae8a6b1dde81d4d450b907ac103ed14bd540e0c5a5", func := "cellplane/cellplanelaw04.TopoSurvives", spec := "topoSurvives", apart := false, narrowed := true }
def TopoSurvivesUptoSaid : Prop := topoSurvivesUptoRow.holds Try.pinned (OpenSpec.upto topoSurvivesSpec)

/-- 'cellplanelaw04.TopoPartition', WHERE WHAT IT READS IS OF BULK AT MOST 1048576: true; the input reads as it did. -/
def topoPartitionUptoRow : OpenClaim := { program := "ytgmmhhackiimcaa", sum := "5bd1960358dc52e7cbb2e0ae8a6b1dde81d4d450b907ac103ed14bd540e0c5a5", func := "cellplane/cellplanelaw04.TopoPartition", spec := "topoPartition", apart := false, narrowed := true }
def TopoPartitionUptoSaid : Prop := topoPartitionUptoRow.holds Try.pinned (OpenSpec.upto topoPartitionSpec)

/-- 'cellplanelaw04.TopoAlive', WHERE WHAT IT READS IS OF BULK AT MOST 1048576: true; the input reads as it did. -/
def topoAliveUptoRow : OpenClaim := { program := "ytgmmhhackiimcaa", sum := "5bd1960358dc52e7cbb2e0ae8a6b1dde81d4d450b907ac103ed14bd540e0c5a5", func := "cellplane/cellplanelaw04.TopoAlive", spec := "topoAlive", apart := false, narrowed := true }
def TopoAliveUptoSaid : Prop := topoAliveUptoRow.holds Try.pinned (OpenSpec.upto topoAliveSpec)

/-- 'cellplanelaw04.TopoMajority', WHERE WHAT IT READS IS OF BULK AT MOST 1048576: true; the input reads as it did. -/
def topoMajorityUptoRow : OpenClaim := { program := "ytgmmhhackiimcaa", sum := "5bd1960358dc52e7cbb2e0ae8a6b1dde81d4d450b907ac103ed14bd540e0c5a5", func := "cellplane/cellplanelaw04.TopoMajority", spec := "topoMajority", apart := false, narrowed := true }
def TopoMajorityUptoSaid : Prop := topoMajorityUptoRow.holds Try.pinned (OpenSpec.upto topoMajoritySpec)

end Rows
end Go.Proofs.Ytgmmhhackiimcaa
