/-
  No cell of these rows narrows 'for every input' (looked for: loops, veiled, ifaces, maps, wideKeys, modest, calm, conditions, laid).
  DERIVED. THE GIVEN ROWS OF THIS SEAT. 5 by the template 'for every input the law returns true; each argument reads behind the call as it read before'; 0 by the template 'total and deterministic' (their statements: YtcpdgbncekdicaaGreatTotals.lean).
  GIVEN WITH THE SEED: the statements are not yours to turn. If you find one false, say at which input.
  Laid BY PROGRAM, IN A SANDBOX (cutbox-rows.mjs): the forced cells as the released guide's own fill.sh prints them over the translation 5efc456f4ab92415… (all of the seat's roots in one cut). By AI agents, Wed Nov 11 2026. No macro, syntax, notation, axiom, sorry.
-/
import Derived.Test.YtcpdgbncekdicaaGreatChecked
import GoSem.Claim
import GoSem.ClaimJoined
import GoSem.ClaimMapViews
import Derived.JoinedTies
import Derived.KernelRfl
namespace Go.Proofs.YtcpdgbncekdicaaGreat
/- THE CELL 'sum', in the pinned program and in every row, IS THE sha256 OF THE DUMP (.gsa) THAT YtcpdgbncekdicaaGreatProg.lean LOADS. Nothing in Lean hashes anything: it is a label: what it is worth is what the hold of that sum in a sandbox is worth. -/
noncomputable def Tryz.pinned : Pinned := { name := "ytcpdgbncekdicaagreat", sum := "5efc456f4ab9241598ac93c5aee5c03368af1a110518150a72653d5a10906bf5", checked := Tryz.checked }
namespace Rows
def none {H : Type} : Left H := { results := [], args := [] }

/-- 'cellplanelaw09.ReplicaNew': WHATEVER THE INPUT: true; the input reads as it did. -/
def replicaNewSpec : ChangeSpec := { name := "replicaNew", fn := fun _ => fun
  | [d1, d2] => { results := [.lit (.bool true)], args := [d1, d2] }
  | _ => none }
def replicaNewRow : OpenClaim := { program := "ytcpdgbncekdicaagreat", sum := "5efc456f4ab9241598ac93c5aee5c03368af1a110518150a72653d5a10906bf5", func := "cellplane/cellplanelaw09.ReplicaNew", spec := "replicaNew", unfollowed := true, recurses := true, apart := false }
def ReplicaNewSaid : Prop := replicaNewRow.holds Tryz.pinned (OpenSpec.ofChange replicaNewSpec)

/-- ITS FALSE NEIGHBOUR: 'it returns false'. Refute it at one input. -/
def replicaNewWrong : ChangeSpec := { name := "replicaNew", fn := fun _ => fun
  | [d1, d2] => { results := [.lit (.bool false)], args := [d1, d2] }
  | _ => none }
def ReplicaNewWrongFalsely : Prop := replicaNewRow.holds Tryz.pinned (OpenSpec.ofChange replicaNewWrong)

/-- 'cellplanelaw09.ReplicaElected': WHATEVER THE INPUT: true; the input reads as it did. -/
def replicaElectedSpec : ChangeSpec := { name := "replicaElected", fn := fun _ => fun
  | [d1, d2] => { results := [.lit (.bool true)], args := [d1, d2] }
  | _ => none }
def replicaElectedRow : OpenClaim := { program := "ytcpdgbncekdicaagreat", sum := "5efc456f4ab9241598ac93c5aee5c03368af1a110518150a72653d5a10906bf5", func := "cellplane/cellplanelaw09.ReplicaElected", spec := "replicaElected", unfollowed := true, recurses := true, apart := false }
def ReplicaElectedSaid : Prop := replicaElectedRow.holds Tryz.pinned (OpenSpec.ofChange replicaElectedSpec)

/-- ITS FALSE NEIGHBOUR: 'it returns false'. Refute it at one input. -/
def replicaElectedWrong : ChangeSpec := { name := "replicaElected", fn := fun _ => fun
  | [d1, d2] => { results := [.lit (.bool false)], args := [d1, d2] }
  | _ => none }
def ReplicaElectedWrongFalsely : Prop := replicaElectedRow.holds Tryz.pinned (OpenSpec.ofChange replicaElectedWrong)

/-- 'cellplanelaw09.ReplicaVotes': WHATEVER THE INPUT: true; the input reads as it did. -/
def replicaVotesSpec : ChangeSpec := { name := "replicaVotes", fn := fun _ => fun
  | [d1, d2] => { results := [.lit (.bool true)], args := [d1, d2] }
  | _ => none }
def replicaVotesRow : OpenClaim := { program := "ytcpdgbncekdicaagreat", sum := "5efc456f4ab9241598ac93c5aee5c03368af1a110518150a72653d5a10906bf5", func := "cellplane/cellplanelaw09.ReplicaVotes", spec := "replicaVotes", unfollowed := true, recurses := true, apart := false }
def ReplicaVotesSaid : Prop := replicaVotesRow.holds Tryz.pinned (OpenSpec.ofChange replicaVotesSpec)

/-- ITS FALSE NEIGHBOUR: 'it returns false'. Refute it at one input. -/
def replicaVotesWrong : ChangeSpec := { name := "replicaVotes", fn := fun _ => fun
  | [d1, d2] => { results := [.lit (.bool false)], args := [d1, d2] }
  | _ => none }
def ReplicaVotesWrongFalsely : Prop := replicaVotesRow.holds Tryz.pinned (OpenSpec.ofChange replicaVotesWrong)

/-- 'cellplanelaw09.ReplicaStores': WHATEVER THE INPUT: true; the input reads as it did. -/
def replicaStoresSpec : ChangeSpec := { name := "replicaStores", fn := fun _ => fun
  | [d1, d2, d3] => { results := [.lit (.bool true)], args := [d1, d2, d3] }
  | _ => none }
def replicaStoresRow : OpenClaim := { program := "ytcpdgbncekdicaagreat", sum := "5efc456f4ab9241598ac93c5aee5c03368af1a110518150a72653d5a10906bf5", func := "cellplane/cellplanelaw09.ReplicaStores", spec := "replicaStores", unfollowed := true, recurses := true, apart := false }
def ReplicaStoresSaid : Prop := replicaStoresRow.holds Tryz.pinned (OpenSpec.ofChange replicaStoresSpec)

/-- ITS FALSE NEIGHBOUR: 'it returns false'. Refute it at one input. -/
def replicaStoresWrong : ChangeSpec := { name := "replicaStores", fn := fun _ => fun
  | [d1, d2, d3] => { results := [.lit (.bool false)], args := [d1, d2, d3] }
  | _ => none }
def ReplicaStoresWrongFalsely : Prop := replicaStoresRow.holds Tryz.pinned (OpenSpec.ofChange replicaStoresWrong)

/-- 'cellplanelaw09.ReplicaCopies': WHATEVER THE INPUT: true; the input reads as it did. -/
def replicaCopiesSpec : ChangeSpec := { name := "replicaCopies", fn := fun _ => fun
  | [d1, d2, d3] => { results := [.lit (.bool true)], args := [d1, d2, d3] }
  | _ => none }
def replicaCopiesRow : OpenClaim := { program := "ytcpdgbncekdicaagreat", sum := "5efc456f4ab9241598ac93c5aee5c03368af1a110518150a72653d5a10906bf5", func := "cellplane/cellplanelaw09.ReplicaCopies", spec := "replicaCopies", unfollowed := true, recurses := true, apart := false }
def ReplicaCopiesSaid : Prop := replicaCopiesRow.holds Tryz.pinned (OpenSpec.ofChange replicaCopiesSpec)

/-- ITS FALSE NEIGHBOUR: 'it returns false'. Refute it at one input. -/
def replicaCopiesWrong : ChangeSpec := { name := "replicaCopies", fn := fun _ => fun
  | [d1, d2, d3] => { results := [.lit (.bool false)], args := [d1, d2, d3] }
  | _ => none }
def ReplicaCopiesWrongFalsely : Prop := replicaCopiesRow.holds Tryz.pinned (OpenSpec.ofChange replicaCopiesWrong)

/- THE SECOND FORM. 'bulk': how many values and letters a reading holds, each counted each time it is reached (what is shared counts as often as it is met; a slice's spare places count too). A statement '..UptoSaid' is the law's where the arguments, and the package variables that the reading takes, are together of bulk at most 1048576: NARROWER than '..Said'. Prove '..Said' where nothing that the law and all that it calls make is longer than what came in: it says more and counts as full. Else prove '..UptoSaid'. A law counts once. -/
mutual
def uptoBulk {H : Type} : DataW H → Nat
  | .lit (.string bytes) => bytes.length + 1
  | .lit _ => 1
  | .nil => 1
  | .ptr d => uptoBulk d + 1
  | .slice elems spare => uptoBulkAll elems + uptoBulkAll spare + 1
  | .agg parts => uptoBulkAll parts + 1
  | .iface _ d => uptoBulk d + 1
  | .map entries => uptoBulkEntries entries + 1
  | .held _ => 1
def uptoBulkAll {H : Type} : List (DataW H) → Nat
  | [] => 0
  | d :: r => uptoBulk d + uptoBulkAll r
def uptoBulkEntries {H : Type} : List (Lit × DataW H) → Nat
  | [] => 0
  | x :: r => uptoBulkEntry x + uptoBulkEntries r
def uptoBulkEntry {H : Type} : Lit × DataW H → Nat
  | (.string bytes, d) => bytes.length + uptoBulk d + 1
  | (_, d) => uptoBulk d + 1
 end
def uptoSmall : (H : Type) → List (DataW H) → Bool := fun _ ds => decide (uptoBulkAll ds ≤ 1048576)
def OpenSpec.upto (s : _root_.Go.ChangeSpec) : _root_.Go.OpenSpec := { _root_.Go.OpenSpec.ofChange s with cond := some uptoSmall }

/-- 'cellplanelaw09.ReplicaNew', WHERE WHAT IT READS IS OF BULK AT MOST 1048576: true; the input reads as it did. -/
def replicaNewUptoRow : OpenClaim := { program := "ytcpdgbncekdicaagreat", sum := "5efc456f4ab9241598ac93c5aee5c03368af1a110518150a72653d5a10906bf5", func := "cellplane/cellplanelaw09.ReplicaNew", spec := "replicaNew", unfollowed := true, recurses := true, apart := false, narrowed := true }
def ReplicaNewUptoSaid : Prop := replicaNewUptoRow.holds Tryz.pinned (OpenSpec.upto replicaNewSpec)

/-- 'cellplanelaw09.ReplicaElected', WHERE WHAT IT READS IS OF BULK AT MOST 1048576: true; the input reads as it did. -/
def replicaElectedUptoRow : OpenClaim := { program := "ytcpdgbncekdicaagreat", sum := "5efc456f4ab9241598ac93c5aee5c03368af1a110518150a72653d5a10906bf5", func := "cellplane/cellplanelaw09.ReplicaElected", spec := "replicaElected", unfollowed := true, recurses := true, apart := false, narrowed := true }
def ReplicaElectedUptoSaid : Prop := replicaElectedUptoRow.holds Tryz.pinned (OpenSpec.upto replicaElectedSpec)

/-- 'cellplanelaw09.ReplicaVotes', WHERE WHAT IT READS IS OF BULK AT MOST 1048576: true; the input reads as it did. -/
def replicaVotesUptoRow : OpenClaim := { program := "ytcpdgbncekdicaagreat", sum := "5efc456f4ab9241598ac93c5aee5c03368af1a110518150a72653d5a10906bf5", func := "cellplane/cellplanelaw09.ReplicaVotes", spec := "replicaVotes", unfollowed := true, recurses := true, apart := false, narrowed := true }
def ReplicaVotesUptoSaid : Prop := replicaVotesUptoRow.holds Tryz.pinned (OpenSpec.upto replicaVotesSpec)

/-- 'cellplanelaw09.ReplicaStores', WHERE WHAT IT READS IS OF BULK AT MOST 1048576: true; the input reads as it did. -/
def replicaStoresUptoRow : OpenClaim := { program := "ytcpdgbncekdicaagreat", sum := "5efc456f4ab9241598ac93c5aee5c03368af1a110518150a72653d5a10906bf5", func := "cellplane/cellplanelaw09.ReplicaStores", spec := "replicaStores", unfollowed := true, recurses := true, apart := false, narrowed := true }
def ReplicaStoresUptoSaid : Prop := replicaStoresUptoRow.holds Tryz.pinned (OpenSpec.upto replicaStoresSpec)

/-- 'cellplanelaw09.ReplicaCopies', WHERE WHAT IT READS IS OF BULK AT MOST 1048576: true; the input reads as it did. -/
def replicaCopiesUptoRow : OpenClaim := { program := "ytcpdgbncekdicaagreat", sum := "5efc456f4ab9241598ac93c5aee5c03368af1a110518150a72653d5a10906bf5", func := "cellplane/cellplanelaw09.ReplicaCopies", spec := "replicaCopies", unfollowed := true, recurses := true, apart := false, narrowed := true }
def ReplicaCopiesUptoSaid : Prop := replicaCopiesUptoRow.holds Tryz.pinned (OpenSpec.upto replicaCopiesSpec)

end Rows
end Go.Proofs.YtcpdgbncekdicaaGreat
