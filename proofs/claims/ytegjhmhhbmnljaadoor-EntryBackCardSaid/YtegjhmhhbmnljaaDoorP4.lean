/-
  topo: which configurations are valid, by the reference.
-/
import Derived.Test.YtegjhmhhbmnljaaDoorP3
namespace Go.Proofs.YtegjhmhhbmnljaaDoor
open Go.Lift

/-- A bool that all elements ahead of a place have kept. -/
def KeptTo {α : Type} (g : Bool) (p : α → Bool) (l : List α) (i : Nat) (b : Bool) : Prop := b = (g && (l.take i).all p)
theorem KeptTo.zero {α : Type} (g : Bool) (p : α → Bool) (l : List α) : KeptTo g p l 0 g := by simp [KeptTo]
theorem KeptTo.succ {α : Type} {g : Bool} {p : α → Bool} {l : List α} {i : Nat} {b : Bool} {x : α} (h : KeptTo g p l i b) (hx : l[i]? = some x) : KeptTo g p l (i + 1) (b && p x) := by
  unfold KeptTo at *
  rw [List.take_add_one, hx, h, List.all_append]; simp [Bool.and_assoc]
theorem KeptTo.whole {α : Type} {g : Bool} {p : α → Bool} {l : List α} {b : Bool} (h : KeptTo g p l l.length b) : b = (g && l.all p) := by unfold KeptTo at h; rwa [List.take_length] at h

def g0B (C : GConfig) : Bool := decide (C.Replicas.length % 2 = 1) && (standB C C.Replicas && (standB C C.Observers && (inB C.Blast 1 16 && (inB C.Lease 1 1000 && (inB C.Bake 0 10000 && decide (low0 C.Versions = 0))))))
def zP (C : GConfig) (z : GZone) : Bool := exB z.Region C.Regions
def cP (C : GConfig) (c : GCell) : Bool := exB c.Zone C.Zones.length && inB c.Capacity 1 4194304
def vr1 (C : GConfig) (i : Nat × Bool) : St := mkSt [(1, .ptr 0 0 0), (3, .bool i.2), (4, .int .i64 i.1)] [(0, cfgO C)] 1
def vr2 (C : GConfig) (i : Nat × Bool) : St := mkSt [(1, .ptr 0 0 0), (3, .bool i.2), (5, .int .i64 i.1)] [(0, cfgO C)] 1
def vr3 (C : GConfig) (i : Nat × Bool) : St := mkSt [(1, .ptr 0 0 0), (3, .bool i.2), (6, .int .i64 i.1)] [(0, cfgO C)] 1

theorem validT_good {C : GConfig} (h1 : limitsB C = true) {b : Bool} (hb : b = ((((g0B C && C.Zones.all (zP C)) && C.Cells.all (cP C)) && C.Versions.all versionB))) : validT C = if b = true then 0 else 1 := by
  rw [validT_eq, if_pos h1]
  have : (decide (C.Replicas.length % 2 = 1) && (zonesFitB C && (cellsFitB C && (standB C C.Replicas && (standB C C.Observers && (versionsFitB C.Versions && boundsB C)))))) = b := by
    rw [hb]
    have e1 : C.Zones.all (zP C) = zonesFitB C := rfl
    have e2 : C.Cells.all (cP C) = cellsFitB C := rfl
    rw [e1, e2]
    unfold g0B versionsFitB boundsB
    generalize zonesFitB C = a
    generalize cellsFitB C = b
    generalize standB C C.Replicas = c
    generalize standB C C.Observers = d
    generalize C.Versions.all versionB = e
    generalize decide (low0 C.Versions = 0) = f
    generalize inB C.Blast 1 16 = g
    generalize inB C.Lease 1 1000 = h
    generalize inB C.Bake 0 10000 = i
    generalize decide (C.Replicas.length % 2 = 1) = j
    clear h1 hb e1 e2
    revert a b c d e f g h i j
    decide
  rw [this]

end Go.Proofs.YtegjhmhhbmnljaaDoor
