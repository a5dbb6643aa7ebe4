/-
  entry: what the statement lays in the table of names.
-/
import Derived.Test.YtegjhmhhbmnljaaDoorE7
import Derived.Test.YtegjhmhhbmnljaaDoorTie
import Derived.Test.YtegjhmhhbmnljaaDoorCards
import Derived.LaidMore
import Derived.OpenShut
import Derived.MakeChecks
import Derived.Stop.Joined
import Derived.ProofKit
import Derived.SevenTiedAt
namespace Go.Proofs.YtegjhmhhbmnljaaDoor
open Go.Lift Go.ChangeShapes Go.WideShapes Go.ChangeAt Go.WideMaps Go.WideElems Go.RowKit

/-- A table of strings that reads as a datum. -/
theorem strs_of_trod {H : Type} {P : Program} {t e : TypeId} {n : Nat} (hu : P.underlying t = some (.array n e)) (he : P.underlying e = some .string) (hc : P.cellsOf e = 1) {eh : TypeId × Value → H} {W : World} {b0 : Nat} {sp : Nat → Bool} {held : Bool} {fuel : Nat} {cs : List Value} {d : DataW H} {ps : List MemPlace}
    (hd : DataW.trod eh P W b0 sp held fuel t cs = some (d, ps)) (ss : List (List UInt8)) (hs : d = .agg (ss.map fun s => .lit (Lit.string s))) : ∀ (i : Nat) (s : List UInt8), ss[i]? = some s → ∃ b : ByteArray, cs[i]? = some (.string b) ∧ b.data.toList = s := by
  obtain ⟨xs, m, rfl, hx, hlen, hn, hel⟩ := DataW.trod_array hu hd
  intro i s hi
  simp only [Prod.mk.injEq] at hx
  rw [hs] at hx
  have hx1 := hx.1
  simp only [DataW.agg.injEq] at hx1
  have hin : i < xs.length := by
    have h1 := congrArg List.length hx1
    simp at h1
    rw [← h1]; exact (List.getElem?_eq_some_iff.1 hi).1
  have h1 := hel i (by omega)
  rw [List.getElem?_eq_getElem hin, hc] at h1
  obtain ⟨b, e1, e2, _⟩ := DataW.trod_string he h1
  refine ⟨b, ?_, ?_⟩
  · have h3 := congrArg (fun l : List Value => l[0]?) e1
    simp only [List.getElem?_take, List.getElem?_drop] at h3
    simpa using h3
  · have h3 := congrArg (fun l : List (DataW H) => l[i]?) hx1
    simp only [List.getElem?_map, hi, List.getElem?_eq_getElem hin, Option.map_some, Option.some.injEq] at h3
    rw [e2] at h3
    simpa using h3.symm

def laidL : List (String × DataW Unit) := [("cellplane/entry.names", Rows.laid_cellplane_entry_names)]
theorem gNames : Tryd.prog.globalNamed "cellplane/entry.names" = some 0 := by kernel_rfl
theorem tNames : (Tryd.prog.globals[0]?).map (·.type) = some 74 := by kernel_rfl
theorem cString : Tryd.prog.cellsOf 9 = 1 := by kernel_rfl
theorem glob_laid {W : World} (h : laidMetH Tryd.prog laidL W) : GlobAt W (fun b => b < W.heap.size) := by
  rw [MakeChecks.laidMetH_plain _ _ _ (by kernel_rfl)] at h
  obtain ⟨ps, ⟨g0, t0, cs0, f0, p0, q0, hg0, ht0, hv0, hd0, _, _⟩, _, _⟩ := h
  obtain rfl := Option.some.inj (gNames.symm.trans hg0)
  obtain rfl := Option.some.inj (tNames.symm.trans ht0)
  have hs := strs_of_trod Tryd.underlying74 Tryd.underlying9 cString hd0 (kindNames.map fun s => s.data.toList) (by simp [Rows.laid_cellplane_entry_names, kindNames])
  intro g cs hg j u hu
  have hgc : g = 0 ∧ cs = kindNames.map V.str := by
    by_cases e : g = 0
    · subst e; rw [glb_names] at hg; exact ⟨rfl, (Option.some.inj hg).symm⟩
    · exfalso
      unfold GLB at hg
      split at hg
      · exact e rfl
      · cases hg
  obtain ⟨rfl, rfl⟩ := hgc
  rw [List.getElem?_map] at hu
  cases hk : kindNames[j]? with
  | none => rw [hk] at hu; cases hu
  | some s =>
    rw [hk] at hu; cases hu
    obtain ⟨b, b1, b2⟩ := hs j s.data.toList (by rw [List.getElem?_map, hk]; rfl)
    have hb : b = s := by
      cases b; cases s
      simpa using b2
    subst hb
    have hcell := World.var?_cell hg0 hv0 j
    rw [← Array.getElem?_toList, b1] at hcell
    exact ⟨World.block_lt_of_cell? W _ hcell, .string b, hcell, .str _ _⟩
theorem door_met (os : Os) (args : Array Value) : laidMetH Tryd.prog laidL ((World.doorLaid Tryd.prog 400 os).forCall (fun _ _ => 0) ⟨#[], args, []⟩).memory :=
  laidMetH_of_parts3 (fuel := 8) (laidMet_of_run' 8 (by kernel_rfl) (by kernel_rfl)) (by kernel_rfl) (by kernel_rfl)
end Go.Proofs.YtegjhmhhbmnljaaDoor
