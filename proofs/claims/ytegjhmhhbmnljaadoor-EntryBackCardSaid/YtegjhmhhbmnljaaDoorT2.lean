/-
  How arguments of the program's types read.
-/
import Derived.Test.YtegjhmhhbmnljaaDoorT1
import Derived.Test.YtegjhmhhbmnljaaDoorPLD
set_option maxRecDepth 20000
namespace Go.Proofs.YtegjhmhhbmnljaaDoor
open Go.Lift

theorem laid : laidOutB Tryd.prog = true := by kernel_rfl
theorem own : ownKnob Tryd.prog.godebug = none := by kernel_rfl

theorem bulk_one {H : Type} (d : DataW H) : 1 ≤ Rows.uptoBulk d := by
  cases d with
  | lit l => cases l <;> simp [Rows.uptoBulk]
  | _ => simp [Rows.uptoBulk]
theorem bulk_all {H : Type} : ∀ l : List (DataW H), Rows.uptoBulkAll l = (l.map Rows.uptoBulk).sum
  | [] => by simp [Rows.uptoBulkAll]
  | d :: l => by simp [Rows.uptoBulkAll, bulk_all l]
theorem meas {H : Type} : Meas (Rows.uptoBulk (H := H)) := by
  refine ⟨bulk_one, fun b => by simp [Rows.uptoBulk], fun es sp => ?_, fun ps => ?_⟩
  · simp only [Rows.uptoBulk, bulk_all]; omega
  · simp only [Rows.uptoBulk, bulk_all]; omega
theorem bulk_le {H : Type} {l : List (DataW H)} (h : Rows.uptoSmall H l = true) : Rows.uptoBulkAll l ≤ 1048576 := of_decide_eq_true h
theorem glob0 {W : World} {I : Nat → Prop} (h : ∀ g, GLB g = none) : GlobAt W I := fun g cs hg => by rw [h g] at hg; cases hg
theorem bytes_eq (a b : ByteArray) : (a.toList == b.toList) = decide (a = b) := by
  rw [Bool.eq_iff_iff, beq_iff_eq, decide_eq_true_iff, ByteArray.toList_eq, ByteArray.toList_eq]
  exact ⟨fun h => by cases a; cases b; simp at h; simp [h], fun h => by rw [h]⟩
theorem part_le {H : Type} {d : DataW H} {l : List (DataW H)} (h : d ∈ l) : Rows.uptoBulk d ≤ Rows.uptoBulkAll l := by
  induction l with
  | nil => cases h
  | cons x r ih =>
    simp only [Rows.uptoBulkAll]
    rcases List.mem_cons.1 h with rfl | e
    · omega
    · have := ih e; omega

theorem cells2 : Tryd.prog.cellsOf 2 = 1 := by kernel_rfl
noncomputable def R2 : Reader Tryd.prog 2 Int := rdInt .i64 Tryd.underlying2 cells2
theorem cells3 : Tryd.prog.cellsOf 3 = 1 := by kernel_rfl
noncomputable def R3 : Reader Tryd.prog 3 Int := rdInt .i64 Tryd.underlying3 cells3
theorem cells4 : Tryd.prog.cellsOf 4 = 1 := by kernel_rfl
noncomputable def R4 : Reader Tryd.prog 4 Bool := rdBool Tryd.underlying4 cells4
theorem cells5 : Tryd.prog.cellsOf 5 = 1 := by kernel_rfl
noncomputable def R5 : Reader Tryd.prog 5 UInt8 := rdByte Tryd.underlying5 cells5
theorem cells9 : Tryd.prog.cellsOf 9 = 1 := by kernel_rfl
noncomputable def R9 : Reader Tryd.prog 9 ByteArray := rdStr Tryd.underlying9 cells9
theorem cells12 : Tryd.prog.cellsOf 12 = 1 := by kernel_rfl
noncomputable def R12 : Reader Tryd.prog 12 Int := rdInt .u64 Tryd.underlying12 cells12
theorem cells21 : Tryd.prog.cellsOf 21 = 1 := by kernel_rfl
noncomputable def R21 : Reader Tryd.prog 21 Int := rdInt .i32 Tryd.underlying21 cells21
theorem cells22 : Tryd.prog.cellsOf 22 = 1 := by kernel_rfl
noncomputable def R22 : Reader Tryd.prog 22 (List Int) := rdSlice Tryd.underlying22 cells22 R3
theorem enc22 (a : List Int) : (R22).enc a = [.sl 2 1 (intRow a)] := by
  show [V.sl 2 (Tryd.prog.cellsOf 3) (a.map (R3).enc)] = _
  rw [cells3]
  first | rfl | (congr 1; congr 1; exact congrArg (fun f => a.map f) (funext fun x => rfl))
theorem cells24 : Tryd.prog.cellsOf 24 = 9 := by kernel_rfl
noncomputable def Q24 : FReader Tryd.prog [⟨ "Kind", 3, 0, false, "", "", 0⟩, ⟨ "Tick", 3, 1, false, "", "", 8⟩, ⟨ "Tenant", 3, 2, false, "", "", 16⟩, ⟨ "Cell", 3, 3, false, "", "", 24⟩, ⟨ "Other", 3, 4, false, "", "", 32⟩, ⟨ "Epoch", 3, 5, false, "", "", 40⟩, ⟨ "From", 3, 6, false, "", "", 48⟩, ⟨ "Until", 3, 7, false, "", "", 56⟩, ⟨ "N", 3, 8, false, "", "", 64⟩] 0 (Int × Int × Int × Int × Int × Int × Int × Int × Int × Unit) := frCons (f := ⟨ "Kind", 3, 0, false, "", "", 0⟩) (off := 0) (off' := 1) R3 (frCons (f := ⟨ "Tick", 3, 1, false, "", "", 8⟩) (off := 1) (off' := 2) R3 (frCons (f := ⟨ "Tenant", 3, 2, false, "", "", 16⟩) (off := 2) (off' := 3) R3 (frCons (f := ⟨ "Cell", 3, 3, false, "", "", 24⟩) (off := 3) (off' := 4) R3 (frCons (f := ⟨ "Other", 3, 4, false, "", "", 32⟩) (off := 4) (off' := 5) R3 (frCons (f := ⟨ "Epoch", 3, 5, false, "", "", 40⟩) (off := 5) (off' := 6) R3 (frCons (f := ⟨ "From", 3, 6, false, "", "", 48⟩) (off := 6) (off' := 7) R3 (frCons (f := ⟨ "Until", 3, 7, false, "", "", 56⟩) (off := 7) (off' := 8) R3 (frCons (f := ⟨ "N", 3, 8, false, "", "", 64⟩) (off := 8) (off' := 9) R3 (frNil) rfl (by rw [show Tryd.prog.cellsOf 3 = 1 from cells3])) rfl (by rw [show Tryd.prog.cellsOf 3 = 1 from cells3])) rfl (by rw [show Tryd.prog.cellsOf 3 = 1 from cells3])) rfl (by rw [show Tryd.prog.cellsOf 3 = 1 from cells3])) rfl (by rw [show Tryd.prog.cellsOf 3 = 1 from cells3])) rfl (by rw [show Tryd.prog.cellsOf 3 = 1 from cells3])) rfl (by rw [show Tryd.prog.cellsOf 3 = 1 from cells3])) rfl (by rw [show Tryd.prog.cellsOf 3 = 1 from cells3])) rfl (by rw [show Tryd.prog.cellsOf 3 = 1 from cells3])
noncomputable def R24 : Reader Tryd.prog 24 GEntry := rdStruct Tryd.underlying24 Q24 (by rw [cells24]; simp [Q24, frCons, frNil, cells3]) (fun b => ⟨b.1, b.2.1, b.2.2.1, b.2.2.2.1, b.2.2.2.2.1, b.2.2.2.2.2.1, b.2.2.2.2.2.2.1, b.2.2.2.2.2.2.2.1, b.2.2.2.2.2.2.2.2.1⟩) GEntry.cells (fun b => by
    show _ = (R3).enc b.1 ++ ((R3).enc b.2.1 ++ ((R3).enc b.2.2.1 ++ ((R3).enc b.2.2.2.1 ++ ((R3).enc b.2.2.2.2.1 ++ ((R3).enc b.2.2.2.2.2.1 ++ ((R3).enc b.2.2.2.2.2.2.1 ++ ((R3).enc b.2.2.2.2.2.2.2.1 ++ ((R3).enc b.2.2.2.2.2.2.2.2.1 ++ (([] : List V))))))))))
    
    rfl) (fun a => ⟨⟨a.Kind, a.Tick, a.Tenant, a.Cell, a.Other, a.Epoch, a.From, a.Until, a.N, ()⟩, rfl⟩) GEntry.ok (fun b h => by
    obtain ⟨o0, o1, o2, o3, o4, o5, o6, o7, o8, _⟩ := h
    exact ⟨wf_i64 o0, wf_i64 o1, wf_i64 o2, wf_i64 o3, wf_i64 o4, wf_i64 o5, wf_i64 o6, wf_i64 o7, wf_i64 o8⟩) (fun _ => 0) (fun _ => Nat.zero_le _)
theorem enc24 (a : GEntry) : (R24).enc a = a.cells := rfl
theorem eqV_24 (x y : GEntry) : eqV T 5 24 (vEntry x) (vEntry y) = some (decide (x = y)) := by
  obtain ⟨aKind, aTick, aTenant, aCell, aOther, aEpoch, aFrom, aUntil, aN⟩ := x
  obtain ⟨bKind, bTick, bTenant, bCell, bOther, bEpoch, bFrom, bUntil, bN⟩ := y
  simp [vEntry, GEntry.cells, eqV, eqF]
  try rw [Bool.eq_iff_iff]; simp; try grind
@[simp] theorem eql_24 (x y : GEntry) : aBin T .eql 24 (vEntry x) (vEntry y) = some (.bool (decide (x = y))) := by show (eqV T 5 24 (vEntry x) (vEntry y)).map V.bool = _; rw [eqV_24]; rfl
@[simp] theorem neq_24 (x y : GEntry) : aBin T .neq 24 (vEntry x) (vEntry y) = some (.bool (!decide (x = y))) := by show (eqV T 5 24 (vEntry x) (vEntry y)).map (fun b => V.bool (!b)) = _; rw [eqV_24]; rfl
theorem cells41 : Tryd.prog.cellsOf 41 = 1 := by kernel_rfl
noncomputable def R41 : Reader Tryd.prog 41 (List UInt8) := rdSlice Tryd.underlying41 cells41 R5
theorem enc41 (a : List UInt8) : (R41).enc a = [.sl 2 1 (byteRow a)] := by
  show [V.sl 2 (Tryd.prog.cellsOf 5) (a.map (R5).enc)] = _
  rw [cells5]
  first | rfl | (congr 1; congr 1; exact congrArg (fun f => a.map f) (funext fun x => rfl))
theorem cells43 : Tryd.prog.cellsOf 43 = 1 := by kernel_rfl
noncomputable def R43 : Reader Tryd.prog 43 (List (List UInt8)) := rdSlice Tryd.underlying43 cells43 R41
theorem enc43 (a : List (List UInt8)) : (R43).enc a = [.sl 2 1 (listRow a)] := by
  show [V.sl 2 (Tryd.prog.cellsOf 41) (a.map (R41).enc)] = _
  rw [cells41]
  first | rfl | (congr 1; congr 1; exact congrArg (fun f => a.map f) (funext fun x => enc41 x))
theorem cells44 : Tryd.prog.cellsOf 44 = 1 := by kernel_rfl
noncomputable def R44 : Reader Tryd.prog 44 Int := rdInt .i64 Tryd.underlying44 cells44
theorem cells75 : Tryd.prog.cellsOf 75 = 1 := by kernel_rfl
noncomputable def R75 : Reader Tryd.prog 75 (List ByteArray) := rdSlice Tryd.underlying75 cells75 R9
theorem enc75 (a : List ByteArray) : (R75).enc a = [.sl 2 1 (strRow a)] := by
  show [V.sl 2 (Tryd.prog.cellsOf 9) (a.map (R9).enc)] = _
  rw [cells9]
  first | rfl | (congr 1; congr 1; exact congrArg (fun f => a.map f) (funext fun x => rfl))
theorem cells78 : Tryd.prog.cellsOf 78 = 1 := by kernel_rfl
noncomputable def Q78 : FReader Tryd.prog [⟨ "Region", 3, 0, false, "", "", 0⟩] 0 (Int × Unit) := frCons (f := ⟨ "Region", 3, 0, false, "", "", 0⟩) (off := 0) (off' := 1) R3 (frNil) rfl (by rw [show Tryd.prog.cellsOf 3 = 1 from cells3])
noncomputable def R78 : Reader Tryd.prog 78 GZone := rdStruct Tryd.underlying78 Q78 (by rw [cells78]; simp [Q78, frCons, frNil, cells3]) (fun b => ⟨b.1⟩) GZone.cells (fun b => by
    show _ = (R3).enc b.1 ++ (([] : List V))
    
    rfl) (fun a => ⟨⟨a.Region, ()⟩, rfl⟩) GZone.ok (fun b h => by
    obtain ⟨o0, _⟩ := h
    exact wf_i64 o0) (fun _ => 0) (fun _ => Nat.zero_le _)
theorem enc78 (a : GZone) : (R78).enc a = a.cells := rfl
theorem eqV_78 (x y : GZone) : eqV T 5 78 (vZone x) (vZone y) = some (decide (x = y)) := by
  obtain ⟨aRegion⟩ := x
  obtain ⟨bRegion⟩ := y
  simp [vZone, GZone.cells, eqV, eqF]
  try rw [Bool.eq_iff_iff]; simp; try grind
@[simp] theorem eql_78 (x y : GZone) : aBin T .eql 78 (vZone x) (vZone y) = some (.bool (decide (x = y))) := by show (eqV T 5 78 (vZone x) (vZone y)).map V.bool = _; rw [eqV_78]; rfl
@[simp] theorem neq_78 (x y : GZone) : aBin T .neq 78 (vZone x) (vZone y) = some (.bool (!decide (x = y))) := by show (eqV T 5 78 (vZone x) (vZone y)).map (fun b => V.bool (!b)) = _; rw [eqV_78]; rfl
theorem cells80 : Tryd.prog.cellsOf 80 = 2 := by kernel_rfl
noncomputable def Q80 : FReader Tryd.prog [⟨ "Zone", 3, 0, false, "", "", 0⟩, ⟨ "Capacity", 3, 1, false, "", "", 8⟩] 0 (Int × Int × Unit) := frCons (f := ⟨ "Zone", 3, 0, false, "", "", 0⟩) (off := 0) (off' := 1) R3 (frCons (f := ⟨ "Capacity", 3, 1, false, "", "", 8⟩) (off := 1) (off' := 2) R3 (frNil) rfl (by rw [show Tryd.prog.cellsOf 3 = 1 from cells3])) rfl (by rw [show Tryd.prog.cellsOf 3 = 1 from cells3])
noncomputable def R80 : Reader Tryd.prog 80 GCell := rdStruct Tryd.underlying80 Q80 (by rw [cells80]; simp [Q80, frCons, frNil, cells3]) (fun b => ⟨b.1, b.2.1⟩) GCell.cells (fun b => by
    show _ = (R3).enc b.1 ++ ((R3).enc b.2.1 ++ (([] : List V)))
    
    rfl) (fun a => ⟨⟨a.Zone, a.Capacity, ()⟩, rfl⟩) GCell.ok (fun b h => by
    obtain ⟨o0, o1, _⟩ := h
    exact ⟨wf_i64 o0, wf_i64 o1⟩) (fun _ => 0) (fun _ => Nat.zero_le _)
theorem enc80 (a : GCell) : (R80).enc a = a.cells := rfl
theorem eqV_80 (x y : GCell) : eqV T 5 80 (vCell x) (vCell y) = some (decide (x = y)) := by
  obtain ⟨aZone, aCapacity⟩ := x
  obtain ⟨bZone, bCapacity⟩ := y
  simp [vCell, GCell.cells, eqV, eqF]
  try rw [Bool.eq_iff_iff]; simp; try grind
@[simp] theorem eql_80 (x y : GCell) : aBin T .eql 80 (vCell x) (vCell y) = some (.bool (decide (x = y))) := by show (eqV T 5 80 (vCell x) (vCell y)).map V.bool = _; rw [eqV_80]; rfl
@[simp] theorem neq_80 (x y : GCell) : aBin T .neq 80 (vCell x) (vCell y) = some (.bool (!decide (x = y))) := by show (eqV T 5 80 (vCell x) (vCell y)).map (fun b => V.bool (!b)) = _; rw [eqV_80]; rfl
theorem cells81 : Tryd.prog.cellsOf 81 = 1 := by kernel_rfl
noncomputable def R81 : Reader Tryd.prog 81 Int := rdInt .u64 Tryd.underlying81 cells81
theorem cells83 : Tryd.prog.cellsOf 83 = 7 := by kernel_rfl
noncomputable def Q83 : FReader Tryd.prog [⟨ "Load", 3, 0, false, "", "", 0⟩, ⟨ "Shadow", 3, 1, false, "", "", 8⟩, ⟨ "Priority", 3, 2, false, "", "", 16⟩, ⟨ "Lag", 3, 3, false, "", "", 24⟩, ⟨ "Allowed", 3, 4, false, "", "", 32⟩, ⟨ "Group", 3, 5, false, "", "", 40⟩, ⟨ "Noisy", 4, 6, false, "", "", 48⟩] 0 (Int × Int × Int × Int × Int × Int × Bool × Unit) := frCons (f := ⟨ "Load", 3, 0, false, "", "", 0⟩) (off := 0) (off' := 1) R3 (frCons (f := ⟨ "Shadow", 3, 1, false, "", "", 8⟩) (off := 1) (off' := 2) R3 (frCons (f := ⟨ "Priority", 3, 2, false, "", "", 16⟩) (off := 2) (off' := 3) R3 (frCons (f := ⟨ "Lag", 3, 3, false, "", "", 24⟩) (off := 3) (off' := 4) R3 (frCons (f := ⟨ "Allowed", 3, 4, false, "", "", 32⟩) (off := 4) (off' := 5) R3 (frCons (f := ⟨ "Group", 3, 5, false, "", "", 40⟩) (off := 5) (off' := 6) R3 (frCons (f := ⟨ "Noisy", 4, 6, false, "", "", 48⟩) (off := 6) (off' := 7) R4 (frNil) rfl (by rw [show Tryd.prog.cellsOf 4 = 1 from cells4])) rfl (by rw [show Tryd.prog.cellsOf 3 = 1 from cells3])) rfl (by rw [show Tryd.prog.cellsOf 3 = 1 from cells3])) rfl (by rw [show Tryd.prog.cellsOf 3 = 1 from cells3])) rfl (by rw [show Tryd.prog.cellsOf 3 = 1 from cells3])) rfl (by rw [show Tryd.prog.cellsOf 3 = 1 from cells3])) rfl (by rw [show Tryd.prog.cellsOf 3 = 1 from cells3])
noncomputable def R83 : Reader Tryd.prog 83 GTenant := rdStruct Tryd.underlying83 Q83 (by rw [cells83]; simp [Q83, frCons, frNil, cells3, cells4]) (fun b => ⟨b.1, b.2.1, b.2.2.1, b.2.2.2.1, b.2.2.2.2.1, b.2.2.2.2.2.1, b.2.2.2.2.2.2.1⟩) GTenant.cells (fun b => by
    show _ = (R3).enc b.1 ++ ((R3).enc b.2.1 ++ ((R3).enc b.2.2.1 ++ ((R3).enc b.2.2.2.1 ++ ((R3).enc b.2.2.2.2.1 ++ ((R3).enc b.2.2.2.2.2.1 ++ ((R4).enc b.2.2.2.2.2.2.1 ++ (([] : List V))))))))
    
    rfl) (fun a => ⟨⟨a.Load, a.Shadow, a.Priority, a.Lag, a.Allowed, a.Group, a.Noisy, ()⟩, rfl⟩) GTenant.ok (fun b h => by
    obtain ⟨o0, o1, o2, o3, o4, o5, o6, _⟩ := h
    exact ⟨wf_i64 o0, wf_i64 o1, wf_i64 o2, wf_i64 o3, wf_i64 o4, wf_i64 o5⟩) (fun _ => 0) (fun _ => Nat.zero_le _)
theorem enc83 (a : GTenant) : (R83).enc a = a.cells := rfl
theorem eqV_83 (x y : GTenant) : eqV T 5 83 (vTenant x) (vTenant y) = some (decide (x = y)) := by
  obtain ⟨aLoad, aShadow, aPriority, aLag, aAllowed, aGroup, aNoisy⟩ := x
  obtain ⟨bLoad, bShadow, bPriority, bLag, bAllowed, bGroup, bNoisy⟩ := y
  simp [vTenant, GTenant.cells, eqV, eqF]
  try rw [Bool.eq_iff_iff]; simp; try grind
@[simp] theorem eql_83 (x y : GTenant) : aBin T .eql 83 (vTenant x) (vTenant y) = some (.bool (decide (x = y))) := by show (eqV T 5 83 (vTenant x) (vTenant y)).map V.bool = _; rw [eqV_83]; rfl
@[simp] theorem neq_83 (x y : GTenant) : aBin T .neq 83 (vTenant x) (vTenant y) = some (.bool (!decide (x = y))) := by show (eqV T 5 83 (vTenant x) (vTenant y)).map (fun b => V.bool (!b)) = _; rw [eqV_83]; rfl
theorem cells85 : Tryd.prog.cellsOf 85 = 2 := by kernel_rfl
noncomputable def Q85 : FReader Tryd.prog [⟨ "Low", 3, 0, false, "", "", 0⟩, ⟨ "High", 3, 1, false, "", "", 8⟩] 0 (Int × Int × Unit) := frCons (f := ⟨ "Low", 3, 0, false, "", "", 0⟩) (off := 0) (off' := 1) R3 (frCons (f := ⟨ "High", 3, 1, false, "", "", 8⟩) (off := 1) (off' := 2) R3 (frNil) rfl (by rw [show Tryd.prog.cellsOf 3 = 1 from cells3])) rfl (by rw [show Tryd.prog.cellsOf 3 = 1 from cells3])
noncomputable def R85 : Reader Tryd.prog 85 GVersion := rdStruct Tryd.underlying85 Q85 (by rw [cells85]; simp [Q85, frCons, frNil, cells3]) (fun b => ⟨b.1, b.2.1⟩) GVersion.cells (fun b => by
    show _ = (R3).enc b.1 ++ ((R3).enc b.2.1 ++ (([] : List V)))
    
    rfl) (fun a => ⟨⟨a.Low, a.High, ()⟩, rfl⟩) GVersion.ok (fun b h => by
    obtain ⟨o0, o1, _⟩ := h
    exact ⟨wf_i64 o0, wf_i64 o1⟩) (fun _ => 0) (fun _ => Nat.zero_le _)
theorem enc85 (a : GVersion) : (R85).enc a = a.cells := rfl
theorem eqV_85 (x y : GVersion) : eqV T 5 85 (vVersion x) (vVersion y) = some (decide (x = y)) := by
  obtain ⟨aLow, aHigh⟩ := x
  obtain ⟨bLow, bHigh⟩ := y
  simp [vVersion, GVersion.cells, eqV, eqF]
  try rw [Bool.eq_iff_iff]; simp; try grind
@[simp] theorem eql_85 (x y : GVersion) : aBin T .eql 85 (vVersion x) (vVersion y) = some (.bool (decide (x = y))) := by show (eqV T 5 85 (vVersion x) (vVersion y)).map V.bool = _; rw [eqV_85]; rfl
@[simp] theorem neq_85 (x y : GVersion) : aBin T .neq 85 (vVersion x) (vVersion y) = some (.bool (!decide (x = y))) := by show (eqV T 5 85 (vVersion x) (vVersion y)).map (fun b => V.bool (!b)) = _; rw [eqV_85]; rfl
theorem cells88 : Tryd.prog.cellsOf 88 = 5 := by kernel_rfl
noncomputable def Q88 : FReader Tryd.prog [⟨ "Cell", 3, 0, false, "", "", 0⟩, ⟨ "Epoch", 3, 1, false, "", "", 8⟩, ⟨ "Version", 3, 2, false, "", "", 16⟩, ⟨ "From", 3, 3, false, "", "", 24⟩, ⟨ "Until", 3, 4, false, "", "", 32⟩] 0 (Int × Int × Int × Int × Int × Unit) := frCons (f := ⟨ "Cell", 3, 0, false, "", "", 0⟩) (off := 0) (off' := 1) R3 (frCons (f := ⟨ "Epoch", 3, 1, false, "", "", 8⟩) (off := 1) (off' := 2) R3 (frCons (f := ⟨ "Version", 3, 2, false, "", "", 16⟩) (off := 2) (off' := 3) R3 (frCons (f := ⟨ "From", 3, 3, false, "", "", 24⟩) (off := 3) (off' := 4) R3 (frCons (f := ⟨ "Until", 3, 4, false, "", "", 32⟩) (off := 4) (off' := 5) R3 (frNil) rfl (by rw [show Tryd.prog.cellsOf 3 = 1 from cells3])) rfl (by rw [show Tryd.prog.cellsOf 3 = 1 from cells3])) rfl (by rw [show Tryd.prog.cellsOf 3 = 1 from cells3])) rfl (by rw [show Tryd.prog.cellsOf 3 = 1 from cells3])) rfl (by rw [show Tryd.prog.cellsOf 3 = 1 from cells3])
noncomputable def R88 : Reader Tryd.prog 88 GWindow := rdStruct Tryd.underlying88 Q88 (by rw [cells88]; simp [Q88, frCons, frNil, cells3]) (fun b => ⟨b.1, b.2.1, b.2.2.1, b.2.2.2.1, b.2.2.2.2.1⟩) GWindow.cells (fun b => by
    show _ = (R3).enc b.1 ++ ((R3).enc b.2.1 ++ ((R3).enc b.2.2.1 ++ ((R3).enc b.2.2.2.1 ++ ((R3).enc b.2.2.2.2.1 ++ (([] : List V))))))
    
    rfl) (fun a => ⟨⟨a.Cell, a.Epoch, a.Version, a.From, a.Until, ()⟩, rfl⟩) GWindow.ok (fun b h => by
    obtain ⟨o0, o1, o2, o3, o4, _⟩ := h
    exact ⟨wf_i64 o0, wf_i64 o1, wf_i64 o2, wf_i64 o3, wf_i64 o4⟩) (fun _ => 0) (fun _ => Nat.zero_le _)
theorem enc88 (a : GWindow) : (R88).enc a = a.cells := rfl
theorem eqV_88 (x y : GWindow) : eqV T 5 88 (vWindow x) (vWindow y) = some (decide (x = y)) := by
  obtain ⟨aCell, aEpoch, aVersion, aFrom, aUntil⟩ := x
  obtain ⟨bCell, bEpoch, bVersion, bFrom, bUntil⟩ := y
  simp [vWindow, GWindow.cells, eqV, eqF]
  try rw [Bool.eq_iff_iff]; simp; try grind
@[simp] theorem eql_88 (x y : GWindow) : aBin T .eql 88 (vWindow x) (vWindow y) = some (.bool (decide (x = y))) := by show (eqV T 5 88 (vWindow x) (vWindow y)).map V.bool = _; rw [eqV_88]; rfl
@[simp] theorem neq_88 (x y : GWindow) : aBin T .neq 88 (vWindow x) (vWindow y) = some (.bool (!decide (x = y))) := by show (eqV T 5 88 (vWindow x) (vWindow y)).map (fun b => V.bool (!b)) = _; rw [eqV_88]; rfl
theorem cells90 : Tryd.prog.cellsOf 90 = 12 := by kernel_rfl
noncomputable def Q90 : FReader Tryd.prog [⟨ "Placed", 4, 0, false, "", "", 0⟩, ⟨ "Shed", 4, 1, false, "", "", 1⟩, ⟨ "Home", 3, 2, false, "", "", 8⟩, ⟨ "Standby", 3, 3, false, "", "", 16⟩, ⟨ "Next", 3, 4, false, "", "", 24⟩, ⟨ "Target", 3, 5, false, "", "", 32⟩, ⟨ "Epoch", 3, 6, false, "", "", 40⟩, ⟨ "Window", 88, 7, false, "", "", 48⟩] 0 (Bool × Bool × Int × Int × Int × Int × Int × GWindow × Unit) := frCons (f := ⟨ "Placed", 4, 0, false, "", "", 0⟩) (off := 0) (off' := 1) R4 (frCons (f := ⟨ "Shed", 4, 1, false, "", "", 1⟩) (off := 1) (off' := 2) R4 (frCons (f := ⟨ "Home", 3, 2, false, "", "", 8⟩) (off := 2) (off' := 3) R3 (frCons (f := ⟨ "Standby", 3, 3, false, "", "", 16⟩) (off := 3) (off' := 4) R3 (frCons (f := ⟨ "Next", 3, 4, false, "", "", 24⟩) (off := 4) (off' := 5) R3 (frCons (f := ⟨ "Target", 3, 5, false, "", "", 32⟩) (off := 5) (off' := 6) R3 (frCons (f := ⟨ "Epoch", 3, 6, false, "", "", 40⟩) (off := 6) (off' := 7) R3 (frCons (f := ⟨ "Window", 88, 7, false, "", "", 48⟩) (off := 7) (off' := 12) R88 (frNil) rfl (by rw [show Tryd.prog.cellsOf 88 = 5 from cells88])) rfl (by rw [show Tryd.prog.cellsOf 3 = 1 from cells3])) rfl (by rw [show Tryd.prog.cellsOf 3 = 1 from cells3])) rfl (by rw [show Tryd.prog.cellsOf 3 = 1 from cells3])) rfl (by rw [show Tryd.prog.cellsOf 3 = 1 from cells3])) rfl (by rw [show Tryd.prog.cellsOf 3 = 1 from cells3])) rfl (by rw [show Tryd.prog.cellsOf 4 = 1 from cells4])) rfl (by rw [show Tryd.prog.cellsOf 4 = 1 from cells4])
noncomputable def R90 : Reader Tryd.prog 90 GTenantState := rdStruct Tryd.underlying90 Q90 (by rw [cells90]; simp [Q90, frCons, frNil, cells3, cells4, cells88]) (fun b => ⟨b.1, b.2.1, b.2.2.1, b.2.2.2.1, b.2.2.2.2.1, b.2.2.2.2.2.1, b.2.2.2.2.2.2.1, b.2.2.2.2.2.2.2.1⟩) GTenantState.cells (fun b => by
    show _ = (R4).enc b.1 ++ ((R4).enc b.2.1 ++ ((R3).enc b.2.2.1 ++ ((R3).enc b.2.2.2.1 ++ ((R3).enc b.2.2.2.2.1 ++ ((R3).enc b.2.2.2.2.2.1 ++ ((R3).enc b.2.2.2.2.2.2.1 ++ ((R88).enc b.2.2.2.2.2.2.2.1 ++ (([] : List V)))))))))
    have h7 := enc88 (b.2.2.2.2.2.2.2.1);
    rw [h7]; rfl) (fun a => ⟨⟨a.Placed, a.Shed, a.Home, a.Standby, a.Next, a.Target, a.Epoch, a.Window, ()⟩, rfl⟩) GTenantState.ok (fun b h => by
    obtain ⟨o0, o1, o2, o3, o4, o5, o6, o7, _⟩ := h
    exact ⟨wf_i64 o2, wf_i64 o3, wf_i64 o4, wf_i64 o5, wf_i64 o6, o7⟩) (fun _ => 0) (fun _ => Nat.zero_le _)
theorem enc90 (a : GTenantState) : (R90).enc a = a.cells := rfl
theorem eqV_90 (x y : GTenantState) : eqV T 5 90 (vTenantState x) (vTenantState y) = some (decide (x = y)) := by
  obtain ⟨aPlaced, aShed, aHome, aStandby, aNext, aTarget, aEpoch, ⟨aWindowCell, aWindowEpoch, aWindowVersion, aWindowFrom, aWindowUntil⟩⟩ := x
  obtain ⟨bPlaced, bShed, bHome, bStandby, bNext, bTarget, bEpoch, ⟨bWindowCell, bWindowEpoch, bWindowVersion, bWindowFrom, bWindowUntil⟩⟩ := y
  simp [vTenantState, GTenantState.cells, eqV, eqF]
  try rw [Bool.eq_iff_iff]; simp; try grind
@[simp] theorem eql_90 (x y : GTenantState) : aBin T .eql 90 (vTenantState x) (vTenantState y) = some (.bool (decide (x = y))) := by show (eqV T 5 90 (vTenantState x) (vTenantState y)).map V.bool = _; rw [eqV_90]; rfl
@[simp] theorem neq_90 (x y : GTenantState) : aBin T .neq 90 (vTenantState x) (vTenantState y) = some (.bool (!decide (x = y))) := by show (eqV T 5 90 (vTenantState x) (vTenantState y)).map (fun b => V.bool (!b)) = _; rw [eqV_90]; rfl
theorem cells100 : Tryd.prog.cellsOf 100 = 1 := by kernel_rfl
noncomputable def R100 : Reader Tryd.prog 100 (List GEntry) := rdSlice Tryd.underlying100 cells100 R24
theorem enc100 (a : List GEntry) : (R100).enc a = [.sl 2 9 (GEntry.row a)] := by
  show [V.sl 2 (Tryd.prog.cellsOf 24) (a.map (R24).enc)] = _
  rw [cells24]
  first | rfl | (congr 1; congr 1; exact congrArg (fun f => a.map f) (funext fun x => enc24 x))
theorem cells111 : Tryd.prog.cellsOf 111 = 1 := by kernel_rfl
noncomputable def R111 : Reader Tryd.prog 111 Int := rdInt .u64 Tryd.underlying111 cells111
theorem cells116 : Tryd.prog.cellsOf 116 = 4 := by kernel_rfl
noncomputable def Q116 : FReader Tryd.prog [⟨ "Mode", 3, 0, false, "", "", 0⟩, ⟨ "Running", 3, 1, false, "", "", 8⟩, ⟨ "Wanted", 3, 2, false, "", "", 16⟩, ⟨ "Since", 3, 3, false, "", "", 24⟩] 0 (Int × Int × Int × Int × Unit) := frCons (f := ⟨ "Mode", 3, 0, false, "", "", 0⟩) (off := 0) (off' := 1) R3 (frCons (f := ⟨ "Running", 3, 1, false, "", "", 8⟩) (off := 1) (off' := 2) R3 (frCons (f := ⟨ "Wanted", 3, 2, false, "", "", 16⟩) (off := 2) (off' := 3) R3 (frCons (f := ⟨ "Since", 3, 3, false, "", "", 24⟩) (off := 3) (off' := 4) R3 (frNil) rfl (by rw [show Tryd.prog.cellsOf 3 = 1 from cells3])) rfl (by rw [show Tryd.prog.cellsOf 3 = 1 from cells3])) rfl (by rw [show Tryd.prog.cellsOf 3 = 1 from cells3])) rfl (by rw [show Tryd.prog.cellsOf 3 = 1 from cells3])
noncomputable def R116 : Reader Tryd.prog 116 GCellState := rdStruct Tryd.underlying116 Q116 (by rw [cells116]; simp [Q116, frCons, frNil, cells3]) (fun b => ⟨b.1, b.2.1, b.2.2.1, b.2.2.2.1⟩) GCellState.cells (fun b => by
    show _ = (R3).enc b.1 ++ ((R3).enc b.2.1 ++ ((R3).enc b.2.2.1 ++ ((R3).enc b.2.2.2.1 ++ (([] : List V)))))
    
    rfl) (fun a => ⟨⟨a.Mode, a.Running, a.Wanted, a.Since, ()⟩, rfl⟩) GCellState.ok (fun b h => by
    obtain ⟨o0, o1, o2, o3, _⟩ := h
    exact ⟨wf_i64 o0, wf_i64 o1, wf_i64 o2, wf_i64 o3⟩) (fun _ => 0) (fun _ => Nat.zero_le _)
theorem enc116 (a : GCellState) : (R116).enc a = a.cells := rfl
theorem eqV_116 (x y : GCellState) : eqV T 5 116 (vCellState x) (vCellState y) = some (decide (x = y)) := by
  obtain ⟨aMode, aRunning, aWanted, aSince⟩ := x
  obtain ⟨bMode, bRunning, bWanted, bSince⟩ := y
  simp [vCellState, GCellState.cells, eqV, eqF]
  try rw [Bool.eq_iff_iff]; simp; try grind
@[simp] theorem eql_116 (x y : GCellState) : aBin T .eql 116 (vCellState x) (vCellState y) = some (.bool (decide (x = y))) := by show (eqV T 5 116 (vCellState x) (vCellState y)).map V.bool = _; rw [eqV_116]; rfl
@[simp] theorem neq_116 (x y : GCellState) : aBin T .neq 116 (vCellState x) (vCellState y) = some (.bool (!decide (x = y))) := by show (eqV T 5 116 (vCellState x) (vCellState y)).map (fun b => V.bool (!b)) = _; rw [eqV_116]; rfl
theorem cells27 : Tryd.prog.cellsOf 27 = 1 := by kernel_rfl
noncomputable def R27 : Reader Tryd.prog 27 (List GZone) := rdSlice Tryd.underlying27 cells27 R78
theorem enc27 (a : List GZone) : (R27).enc a = [.sl 2 1 (GZone.row a)] := by
  show [V.sl 2 (Tryd.prog.cellsOf 78) (a.map (R78).enc)] = _
  rw [cells78]
  first | rfl | (congr 1; congr 1; exact congrArg (fun f => a.map f) (funext fun x => enc78 x))
theorem cells28 : Tryd.prog.cellsOf 28 = 1 := by kernel_rfl
noncomputable def R28 : Reader Tryd.prog 28 (List GCell) := rdSlice Tryd.underlying28 cells28 R80
theorem enc28 (a : List GCell) : (R28).enc a = [.sl 2 2 (GCell.row a)] := by
  show [V.sl 2 (Tryd.prog.cellsOf 80) (a.map (R80).enc)] = _
  rw [cells80]
  first | rfl | (congr 1; congr 1; exact congrArg (fun f => a.map f) (funext fun x => enc80 x))
theorem cells29 : Tryd.prog.cellsOf 29 = 1 := by kernel_rfl
noncomputable def R29 : Reader Tryd.prog 29 (List GTenant) := rdSlice Tryd.underlying29 cells29 R83
theorem enc29 (a : List GTenant) : (R29).enc a = [.sl 2 7 (GTenant.row a)] := by
  show [V.sl 2 (Tryd.prog.cellsOf 83) (a.map (R83).enc)] = _
  rw [cells83]
  first | rfl | (congr 1; congr 1; exact congrArg (fun f => a.map f) (funext fun x => enc83 x))
theorem cells30 : Tryd.prog.cellsOf 30 = 1 := by kernel_rfl
noncomputable def R30 : Reader Tryd.prog 30 (List GVersion) := rdSlice Tryd.underlying30 cells30 R85
theorem enc30 (a : List GVersion) : (R30).enc a = [.sl 2 2 (GVersion.row a)] := by
  show [V.sl 2 (Tryd.prog.cellsOf 85) (a.map (R85).enc)] = _
  rw [cells85]
  first | rfl | (congr 1; congr 1; exact congrArg (fun f => a.map f) (funext fun x => enc85 x))
theorem cells32 : Tryd.prog.cellsOf 32 = 10 := by kernel_rfl
noncomputable def Q32 : FReader Tryd.prog [⟨ "Regions", 3, 0, false, "", "", 0⟩, ⟨ "Zones", 27, 1, false, "", "", 8⟩, ⟨ "Cells", 28, 2, false, "", "", 32⟩, ⟨ "Tenants", 29, 3, false, "", "", 56⟩, ⟨ "Versions", 30, 4, false, "", "", 80⟩, ⟨ "Replicas", 22, 5, false, "", "", 104⟩, ⟨ "Observers", 22, 6, false, "", "", 128⟩, ⟨ "Blast", 3, 7, false, "", "", 152⟩, ⟨ "Lease", 3, 8, false, "", "", 160⟩, ⟨ "Bake", 3, 9, false, "", "", 168⟩] 0 (Int × (List GZone) × (List GCell) × (List GTenant) × (List GVersion) × (List Int) × (List Int) × Int × Int × Int × Unit) := frCons (f := ⟨ "Regions", 3, 0, false, "", "", 0⟩) (off := 0) (off' := 1) R3 (frCons (f := ⟨ "Zones", 27, 1, false, "", "", 8⟩) (off := 1) (off' := 2) R27 (frCons (f := ⟨ "Cells", 28, 2, false, "", "", 32⟩) (off := 2) (off' := 3) R28 (frCons (f := ⟨ "Tenants", 29, 3, false, "", "", 56⟩) (off := 3) (off' := 4) R29 (frCons (f := ⟨ "Versions", 30, 4, false, "", "", 80⟩) (off := 4) (off' := 5) R30 (frCons (f := ⟨ "Replicas", 22, 5, false, "", "", 104⟩) (off := 5) (off' := 6) R22 (frCons (f := ⟨ "Observers", 22, 6, false, "", "", 128⟩) (off := 6) (off' := 7) R22 (frCons (f := ⟨ "Blast", 3, 7, false, "", "", 152⟩) (off := 7) (off' := 8) R3 (frCons (f := ⟨ "Lease", 3, 8, false, "", "", 160⟩) (off := 8) (off' := 9) R3 (frCons (f := ⟨ "Bake", 3, 9, false, "", "", 168⟩) (off := 9) (off' := 10) R3 (frNil) rfl (by rw [show Tryd.prog.cellsOf 3 = 1 from cells3])) rfl (by rw [show Tryd.prog.cellsOf 3 = 1 from cells3])) rfl (by rw [show Tryd.prog.cellsOf 3 = 1 from cells3])) rfl (by rw [show Tryd.prog.cellsOf 22 = 1 from cells22])) rfl (by rw [show Tryd.prog.cellsOf 22 = 1 from cells22])) rfl (by rw [show Tryd.prog.cellsOf 30 = 1 from cells30])) rfl (by rw [show Tryd.prog.cellsOf 29 = 1 from cells29])) rfl (by rw [show Tryd.prog.cellsOf 28 = 1 from cells28])) rfl (by rw [show Tryd.prog.cellsOf 27 = 1 from cells27])) rfl (by rw [show Tryd.prog.cellsOf 3 = 1 from cells3])
noncomputable def R32 : Reader Tryd.prog 32 GConfig := rdStruct Tryd.underlying32 Q32 (by rw [cells32]; simp [Q32, frCons, frNil, cells22, cells27, cells28, cells29, cells3, cells30]) (fun b => ⟨b.1, b.2.1, b.2.2.1, b.2.2.2.1, b.2.2.2.2.1, b.2.2.2.2.2.1, b.2.2.2.2.2.2.1, b.2.2.2.2.2.2.2.1, b.2.2.2.2.2.2.2.2.1, b.2.2.2.2.2.2.2.2.2.1⟩) GConfig.cells (fun b => by
    show _ = (R3).enc b.1 ++ ((R27).enc b.2.1 ++ ((R28).enc b.2.2.1 ++ ((R29).enc b.2.2.2.1 ++ ((R30).enc b.2.2.2.2.1 ++ ((R22).enc b.2.2.2.2.2.1 ++ ((R22).enc b.2.2.2.2.2.2.1 ++ ((R3).enc b.2.2.2.2.2.2.2.1 ++ ((R3).enc b.2.2.2.2.2.2.2.2.1 ++ ((R3).enc b.2.2.2.2.2.2.2.2.2.1 ++ (([] : List V)))))))))))
    have h1 := enc27 (b.2.1); have h2 := enc28 (b.2.2.1); have h3 := enc29 (b.2.2.2.1); have h4 := enc30 (b.2.2.2.2.1); have h5 := enc22 (b.2.2.2.2.2.1); have h6 := enc22 (b.2.2.2.2.2.2.1);
    rw [h1, h2, h3, h4, h5, h6]; rfl) (fun a => ⟨⟨a.Regions, a.Zones, a.Cells, a.Tenants, a.Versions, a.Replicas, a.Observers, a.Blast, a.Lease, a.Bake, ()⟩, rfl⟩) GConfig.ok (fun b h => by
    obtain ⟨o0, o1, o2, o3, o4, o5, o6, o7, o8, o9, _⟩ := h
    exact ⟨wf_i64 o0, (fun y hy => o1 y hy), (fun y hy => o2 y hy), (fun y hy => o3 y hy), (fun y hy => o4 y hy), (fun y hy => wf_i64 (o5 y hy)), (fun y hy => wf_i64 (o6 y hy)), wf_i64 o7, wf_i64 o8, wf_i64 o9⟩) (fun _ => 0) (fun _ => Nat.zero_le _)
theorem enc32 (a : GConfig) : (R32).enc a = a.cells := rfl
theorem cells56 : Tryd.prog.cellsOf 56 = 1 := by kernel_rfl
noncomputable def R56 : Reader Tryd.prog 56 (List GTenantState) := rdSlice Tryd.underlying56 cells56 R90
theorem enc56 (a : List GTenantState) : (R56).enc a = [.sl 2 12 (GTenantState.row a)] := by
  show [V.sl 2 (Tryd.prog.cellsOf 90) (a.map (R90).enc)] = _
  rw [cells90]
  first | rfl | (congr 1; congr 1; exact congrArg (fun f => a.map f) (funext fun x => enc90 x))
theorem cells57 : Tryd.prog.cellsOf 57 = 1 := by kernel_rfl
noncomputable def R57 : Reader Tryd.prog 57 (List GCellState) := rdSlice Tryd.underlying57 cells57 R116
theorem enc57 (a : List GCellState) : (R57).enc a = [.sl 2 4 (GCellState.row a)] := by
  show [V.sl 2 (Tryd.prog.cellsOf 116) (a.map (R116).enc)] = _
  rw [cells116]
  first | rfl | (congr 1; congr 1; exact congrArg (fun f => a.map f) (funext fun x => enc116 x))
theorem cells59 : Tryd.prog.cellsOf 59 = 8 := by kernel_rfl
noncomputable def Q59 : FReader Tryd.prog [⟨ "Tick", 3, 0, false, "", "", 0⟩, ⟨ "Count", 3, 1, false, "", "", 8⟩, ⟨ "Tenants", 56, 2, false, "", "", 16⟩, ⟨ "Cells", 57, 3, false, "", "", 40⟩, ⟨ "Proven", 3, 4, false, "", "", 64⟩, ⟨ "Evacuating", 3, 5, false, "", "", 72⟩, ⟨ "Low", 3, 6, false, "", "", 80⟩, ⟨ "High", 3, 7, false, "", "", 88⟩] 0 (Int × Int × (List GTenantState) × (List GCellState) × Int × Int × Int × Int × Unit) := frCons (f := ⟨ "Tick", 3, 0, false, "", "", 0⟩) (off := 0) (off' := 1) R3 (frCons (f := ⟨ "Count", 3, 1, false, "", "", 8⟩) (off := 1) (off' := 2) R3 (frCons (f := ⟨ "Tenants", 56, 2, false, "", "", 16⟩) (off := 2) (off' := 3) R56 (frCons (f := ⟨ "Cells", 57, 3, false, "", "", 40⟩) (off := 3) (off' := 4) R57 (frCons (f := ⟨ "Proven", 3, 4, false, "", "", 64⟩) (off := 4) (off' := 5) R3 (frCons (f := ⟨ "Evacuating", 3, 5, false, "", "", 72⟩) (off := 5) (off' := 6) R3 (frCons (f := ⟨ "Low", 3, 6, false, "", "", 80⟩) (off := 6) (off' := 7) R3 (frCons (f := ⟨ "High", 3, 7, false, "", "", 88⟩) (off := 7) (off' := 8) R3 (frNil) rfl (by rw [show Tryd.prog.cellsOf 3 = 1 from cells3])) rfl (by rw [show Tryd.prog.cellsOf 3 = 1 from cells3])) rfl (by rw [show Tryd.prog.cellsOf 3 = 1 from cells3])) rfl (by rw [show Tryd.prog.cellsOf 3 = 1 from cells3])) rfl (by rw [show Tryd.prog.cellsOf 57 = 1 from cells57])) rfl (by rw [show Tryd.prog.cellsOf 56 = 1 from cells56])) rfl (by rw [show Tryd.prog.cellsOf 3 = 1 from cells3])) rfl (by rw [show Tryd.prog.cellsOf 3 = 1 from cells3])
noncomputable def R59 : Reader Tryd.prog 59 GState := rdStruct Tryd.underlying59 Q59 (by rw [cells59]; simp [Q59, frCons, frNil, cells3, cells56, cells57]) (fun b => ⟨b.1, b.2.1, b.2.2.1, b.2.2.2.1, b.2.2.2.2.1, b.2.2.2.2.2.1, b.2.2.2.2.2.2.1, b.2.2.2.2.2.2.2.1⟩) GState.cells (fun b => by
    show _ = (R3).enc b.1 ++ ((R3).enc b.2.1 ++ ((R56).enc b.2.2.1 ++ ((R57).enc b.2.2.2.1 ++ ((R3).enc b.2.2.2.2.1 ++ ((R3).enc b.2.2.2.2.2.1 ++ ((R3).enc b.2.2.2.2.2.2.1 ++ ((R3).enc b.2.2.2.2.2.2.2.1 ++ (([] : List V)))))))))
    have h2 := enc56 (b.2.2.1); have h3 := enc57 (b.2.2.2.1);
    rw [h2, h3]; rfl) (fun a => ⟨⟨a.Tick, a.Count, a.Tenants, a.Cells, a.Proven, a.Evacuating, a.Low, a.High, ()⟩, rfl⟩) GState.ok (fun b h => by
    obtain ⟨o0, o1, o2, o3, o4, o5, o6, o7, _⟩ := h
    exact ⟨wf_i64 o0, wf_i64 o1, (fun y hy => o2 y hy), (fun y hy => o3 y hy), wf_i64 o4, wf_i64 o5, wf_i64 o6, wf_i64 o7⟩) (fun _ => 0) (fun _ => Nat.zero_le _)
theorem enc59 (a : GState) : (R59).enc a = a.cells := rfl
theorem arg2 {H : Type} {eh : TypeId × Value → H} {w W0 : World} {r : Reach} {b0 : Nat} {v : Value} {d : DataW H} {ps : List MemPlace} (hval : Value.okWide Tryd.prog W0 r b0 2 v) (hd : DataW.Trod eh Tryd.prog w 0 (fun _ => true) true 2 v d ps) (hb : Rows.uptoBulk d ≤ 1048576) : ∃ a : Int, Rd w (fun b => b < w.heap.size) noG ((fun a : Int => V.int .i64 a) a) v ∧ (In64 a) := by
  obtain ⟨a, h0, h1, h2⟩ := (R2).cell (e := fun a : Int => V.int .i64 a) (fun _ => rfl) (fun h => cells_int Tryd.underlying2 h) hval hd
  have h2 := Nat.le_trans (h2 _ meas) hb
  exact ⟨a, h0, wf_i64 h1⟩
theorem sarg2 {H : Type} {eh : TypeId × Value → H} {w W0 : World} {r : Reach} {b0 : Nat} {v : Value} {d : DataW H} {ps : List MemPlace} (hval : Value.okWide Tryd.prog W0 r b0 2 v) (hd : DataW.Trod eh Tryd.prog w 0 (fun _ => true) true 2 v d ps) : ∃ a : Int, Rd w (fun b => b < w.heap.size) noG ((fun a : Int => V.int .i64 a) a) v ∧ (In64 a) := by
  obtain ⟨a, h0, h1, h2⟩ := (R2).cell (e := fun a : Int => V.int .i64 a) (fun _ => rfl) (fun h => cells_int Tryd.underlying2 h) hval hd
  exact ⟨a, h0, wf_i64 h1⟩
theorem arg3 {H : Type} {eh : TypeId × Value → H} {w W0 : World} {r : Reach} {b0 : Nat} {v : Value} {d : DataW H} {ps : List MemPlace} (hval : Value.okWide Tryd.prog W0 r b0 3 v) (hd : DataW.Trod eh Tryd.prog w 0 (fun _ => true) true 3 v d ps) (hb : Rows.uptoBulk d ≤ 1048576) : ∃ a : Int, Rd w (fun b => b < w.heap.size) noG ((fun a : Int => V.int .i64 a) a) v ∧ (In64 a) := by
  obtain ⟨a, h0, h1, h2⟩ := (R3).cell (e := fun a : Int => V.int .i64 a) (fun _ => rfl) (fun h => cells_int Tryd.underlying3 h) hval hd
  have h2 := Nat.le_trans (h2 _ meas) hb
  exact ⟨a, h0, wf_i64 h1⟩
theorem sarg3 {H : Type} {eh : TypeId × Value → H} {w W0 : World} {r : Reach} {b0 : Nat} {v : Value} {d : DataW H} {ps : List MemPlace} (hval : Value.okWide Tryd.prog W0 r b0 3 v) (hd : DataW.Trod eh Tryd.prog w 0 (fun _ => true) true 3 v d ps) : ∃ a : Int, Rd w (fun b => b < w.heap.size) noG ((fun a : Int => V.int .i64 a) a) v ∧ (In64 a) := by
  obtain ⟨a, h0, h1, h2⟩ := (R3).cell (e := fun a : Int => V.int .i64 a) (fun _ => rfl) (fun h => cells_int Tryd.underlying3 h) hval hd
  exact ⟨a, h0, wf_i64 h1⟩
theorem arg4 {H : Type} {eh : TypeId × Value → H} {w W0 : World} {r : Reach} {b0 : Nat} {v : Value} {d : DataW H} {ps : List MemPlace} (hval : Value.okWide Tryd.prog W0 r b0 4 v) (hd : DataW.Trod eh Tryd.prog w 0 (fun _ => true) true 4 v d ps) (hb : Rows.uptoBulk d ≤ 1048576) : ∃ a : Bool, Rd w (fun b => b < w.heap.size) noG ((fun a : Bool => V.bool a) a) v ∧ (True) := by
  obtain ⟨a, h0, h1, h2⟩ := (R4).cell (e := fun a : Bool => V.bool a) (fun _ => rfl) (fun h => cells_bool Tryd.underlying4 h) hval hd
  have h2 := Nat.le_trans (h2 _ meas) hb
  exact ⟨a, h0, trivial⟩
theorem sarg4 {H : Type} {eh : TypeId × Value → H} {w W0 : World} {r : Reach} {b0 : Nat} {v : Value} {d : DataW H} {ps : List MemPlace} (hval : Value.okWide Tryd.prog W0 r b0 4 v) (hd : DataW.Trod eh Tryd.prog w 0 (fun _ => true) true 4 v d ps) : ∃ a : Bool, Rd w (fun b => b < w.heap.size) noG ((fun a : Bool => V.bool a) a) v ∧ (True) := by
  obtain ⟨a, h0, h1, h2⟩ := (R4).cell (e := fun a : Bool => V.bool a) (fun _ => rfl) (fun h => cells_bool Tryd.underlying4 h) hval hd
  exact ⟨a, h0, trivial⟩
theorem arg5 {H : Type} {eh : TypeId × Value → H} {w W0 : World} {r : Reach} {b0 : Nat} {v : Value} {d : DataW H} {ps : List MemPlace} (hval : Value.okWide Tryd.prog W0 r b0 5 v) (hd : DataW.Trod eh Tryd.prog w 0 (fun _ => true) true 5 v d ps) (hb : Rows.uptoBulk d ≤ 1048576) : ∃ a : UInt8, Rd w (fun b => b < w.heap.size) noG ((fun a : UInt8 => V.int .u8 a.toNat) a) v ∧ (True) := by
  obtain ⟨a, h0, h1, h2⟩ := (R5).cell (e := fun a : UInt8 => V.int .u8 a.toNat) (fun _ => rfl) (fun h => cells_int Tryd.underlying5 h) hval hd
  have h2 := Nat.le_trans (h2 _ meas) hb
  exact ⟨a, h0, trivial⟩
theorem sarg5 {H : Type} {eh : TypeId × Value → H} {w W0 : World} {r : Reach} {b0 : Nat} {v : Value} {d : DataW H} {ps : List MemPlace} (hval : Value.okWide Tryd.prog W0 r b0 5 v) (hd : DataW.Trod eh Tryd.prog w 0 (fun _ => true) true 5 v d ps) : ∃ a : UInt8, Rd w (fun b => b < w.heap.size) noG ((fun a : UInt8 => V.int .u8 a.toNat) a) v ∧ (True) := by
  obtain ⟨a, h0, h1, h2⟩ := (R5).cell (e := fun a : UInt8 => V.int .u8 a.toNat) (fun _ => rfl) (fun h => cells_int Tryd.underlying5 h) hval hd
  exact ⟨a, h0, trivial⟩
theorem arg9 {H : Type} {eh : TypeId × Value → H} {w W0 : World} {r : Reach} {b0 : Nat} {v : Value} {d : DataW H} {ps : List MemPlace} (hval : Value.okWide Tryd.prog W0 r b0 9 v) (hd : DataW.Trod eh Tryd.prog w 0 (fun _ => true) true 9 v d ps) (hb : Rows.uptoBulk d ≤ 1048576) : ∃ a : ByteArray, Rd w (fun b => b < w.heap.size) noG ((fun a : ByteArray => V.str a) a) v ∧ (a.size ≤ 1048575) := by
  obtain ⟨a, h0, h1, h2⟩ := (R9).cell (e := fun a : ByteArray => V.str a) (fun _ => rfl) (fun h => cells_str Tryd.underlying9 h) hval hd
  have h2 := Nat.le_trans (h2 _ meas) hb
  exact ⟨a, h0, by have h2 : a.size + 1 ≤ 1048576 := h2; omega⟩
theorem sarg9 {H : Type} {eh : TypeId × Value → H} {w W0 : World} {r : Reach} {b0 : Nat} {v : Value} {d : DataW H} {ps : List MemPlace} (hval : Value.okWide Tryd.prog W0 r b0 9 v) (hd : DataW.Trod eh Tryd.prog w 0 (fun _ => true) true 9 v d ps) : ∃ a : ByteArray, Rd w (fun b => b < w.heap.size) noG ((fun a : ByteArray => V.str a) a) v ∧ (a.size ≤ 9223372036854775807) := by
  obtain ⟨a, h0, h1, h2⟩ := (R9).cell (e := fun a : ByteArray => V.str a) (fun _ => rfl) (fun h => cells_str Tryd.underlying9 h) hval hd
  exact ⟨a, h0, h1⟩
theorem arg12 {H : Type} {eh : TypeId × Value → H} {w W0 : World} {r : Reach} {b0 : Nat} {v : Value} {d : DataW H} {ps : List MemPlace} (hval : Value.okWide Tryd.prog W0 r b0 12 v) (hd : DataW.Trod eh Tryd.prog w 0 (fun _ => true) true 12 v d ps) (hb : Rows.uptoBulk d ≤ 1048576) : ∃ a : Int, Rd w (fun b => b < w.heap.size) noG ((fun a : Int => V.int .u64 a) a) v ∧ (InU64 a) := by
  obtain ⟨a, h0, h1, h2⟩ := (R12).cell (e := fun a : Int => V.int .u64 a) (fun _ => rfl) (fun h => cells_int Tryd.underlying12 h) hval hd
  have h2 := Nat.le_trans (h2 _ meas) hb
  exact ⟨a, h0, wf_u64 h1⟩
theorem sarg12 {H : Type} {eh : TypeId × Value → H} {w W0 : World} {r : Reach} {b0 : Nat} {v : Value} {d : DataW H} {ps : List MemPlace} (hval : Value.okWide Tryd.prog W0 r b0 12 v) (hd : DataW.Trod eh Tryd.prog w 0 (fun _ => true) true 12 v d ps) : ∃ a : Int, Rd w (fun b => b < w.heap.size) noG ((fun a : Int => V.int .u64 a) a) v ∧ (InU64 a) := by
  obtain ⟨a, h0, h1, h2⟩ := (R12).cell (e := fun a : Int => V.int .u64 a) (fun _ => rfl) (fun h => cells_int Tryd.underlying12 h) hval hd
  exact ⟨a, h0, wf_u64 h1⟩
theorem arg22 {H : Type} {eh : TypeId × Value → H} {w W0 : World} {r : Reach} {b0 : Nat} {v : Value} {d : DataW H} {ps : List MemPlace} (hval : Value.okWide Tryd.prog W0 r b0 22 v) (hd : DataW.Trod eh Tryd.prog w 0 (fun _ => true) true 22 v d ps) (hb : Rows.uptoBulk d ≤ 1048576) : ∃ a : List Int, Rd w (fun b => b < w.heap.size) noG ((fun a : List Int => V.sl 2 1 (intRow a)) a) v ∧ (a.length ≤ 1048575 ∧ ∀ x ∈ a, In64 x) := by
  obtain ⟨a, h0, h1, h2⟩ := (R22).cell (e := fun a : List Int => V.sl 2 1 (intRow a)) (enc22) (fun h => cells_slice Tryd.underlying22 h) hval hd
  have h2 := Nat.le_trans (h2 _ meas) hb
  exact ⟨a, h0, ⟨by have := length_le_sum (R3).siz (R3).pos a; have h2 : (a.map (R3).siz).sum + 1 ≤ 1048576 := h2; omega, (fun y hy => wf_i64 (h1 y hy))⟩⟩
theorem sarg22 {H : Type} {eh : TypeId × Value → H} {w W0 : World} {r : Reach} {b0 : Nat} {v : Value} {d : DataW H} {ps : List MemPlace} (hval : Value.okWide Tryd.prog W0 r b0 22 v) (hd : DataW.Trod eh Tryd.prog w 0 (fun _ => true) true 22 v d ps) : ∃ a : List Int, Rd w (fun b => b < w.heap.size) noG ((fun a : List Int => V.sl 2 1 (intRow a)) a) v ∧ (a.length ≤ 9223372036854775807 ∧ ∀ x ∈ a, In64 x) := by
  obtain ⟨a, h0, h1, h2⟩ := (R22).cell (e := fun a : List Int => V.sl 2 1 (intRow a)) (enc22) (fun h => cells_slice Tryd.underlying22 h) hval hd
  exact ⟨a, h0, ⟨by have := Rd.sl_len h0; simpa using this, (fun y hy => wf_i64 (h1 y hy))⟩⟩
theorem arg24 {H : Type} {eh : TypeId × Value → H} {w W0 : World} {r : Reach} {b0 : Nat} {v : Value} {d : DataW H} {ps : List MemPlace} (hval : Value.okWide Tryd.prog W0 r b0 24 v) (hd : DataW.Trod eh Tryd.prog w 0 (fun _ => true) true 24 v d ps) (_hb : Rows.uptoBulk d ≤ 1048576) : ∃ a : GEntry, Rd w (fun b => b < w.heap.size) noG (vEntry a) v ∧ GEntry.ok a := by
  obtain ⟨a, h0, h1, _⟩ := (R24).agg Tryd.underlying24 hval hd
  exact ⟨a, h0, h1⟩
theorem sarg24 {H : Type} {eh : TypeId × Value → H} {w W0 : World} {r : Reach} {b0 : Nat} {v : Value} {d : DataW H} {ps : List MemPlace} (hval : Value.okWide Tryd.prog W0 r b0 24 v) (hd : DataW.Trod eh Tryd.prog w 0 (fun _ => true) true 24 v d ps) : ∃ a : GEntry, Rd w (fun b => b < w.heap.size) noG (vEntry a) v ∧ GEntry.ok a := by
  obtain ⟨a, h0, h1, _⟩ := (R24).agg Tryd.underlying24 hval hd
  exact ⟨a, h0, h1⟩
theorem arg41 {H : Type} {eh : TypeId × Value → H} {w W0 : World} {r : Reach} {b0 : Nat} {v : Value} {d : DataW H} {ps : List MemPlace} (hval : Value.okWide Tryd.prog W0 r b0 41 v) (hd : DataW.Trod eh Tryd.prog w 0 (fun _ => true) true 41 v d ps) (hb : Rows.uptoBulk d ≤ 1048576) : ∃ a : List UInt8, Rd w (fun b => b < w.heap.size) noG ((fun a : List UInt8 => V.sl 2 1 (byteRow a)) a) v ∧ (a.length ≤ 1048575) := by
  obtain ⟨a, h0, h1, h2⟩ := (R41).cell (e := fun a : List UInt8 => V.sl 2 1 (byteRow a)) (enc41) (fun h => cells_slice Tryd.underlying41 h) hval hd
  have h2 := Nat.le_trans (h2 _ meas) hb
  exact ⟨a, h0, by have := length_le_sum (R5).siz (R5).pos a; have h2 : (a.map (R5).siz).sum + 1 ≤ 1048576 := h2; omega⟩
theorem sarg41 {H : Type} {eh : TypeId × Value → H} {w W0 : World} {r : Reach} {b0 : Nat} {v : Value} {d : DataW H} {ps : List MemPlace} (hval : Value.okWide Tryd.prog W0 r b0 41 v) (hd : DataW.Trod eh Tryd.prog w 0 (fun _ => true) true 41 v d ps) : ∃ a : List UInt8, Rd w (fun b => b < w.heap.size) noG ((fun a : List UInt8 => V.sl 2 1 (byteRow a)) a) v ∧ (a.length ≤ 9223372036854775807) := by
  obtain ⟨a, h0, h1, h2⟩ := (R41).cell (e := fun a : List UInt8 => V.sl 2 1 (byteRow a)) (enc41) (fun h => cells_slice Tryd.underlying41 h) hval hd
  exact ⟨a, h0, by have := Rd.sl_len h0; simpa using this⟩
theorem arg43 {H : Type} {eh : TypeId × Value → H} {w W0 : World} {r : Reach} {b0 : Nat} {v : Value} {d : DataW H} {ps : List MemPlace} (hval : Value.okWide Tryd.prog W0 r b0 43 v) (hd : DataW.Trod eh Tryd.prog w 0 (fun _ => true) true 43 v d ps) (hb : Rows.uptoBulk d ≤ 1048576) : ∃ a : List (List UInt8), Rd w (fun b => b < w.heap.size) noG ((fun a : List (List UInt8) => V.sl 2 1 (listRow a)) a) v ∧ (a.length ≤ 1048575 ∧ ∀ x ∈ a, x.length ≤ 1048575) := by
  obtain ⟨a, h0, h1, h2⟩ := (R43).cell (e := fun a : List (List UInt8) => V.sl 2 1 (listRow a)) (enc43) (fun h => cells_slice Tryd.underlying43 h) hval hd
  have h2 := Nat.le_trans (h2 _ meas) hb
  exact ⟨a, h0, ⟨by have := length_le_sum (R41).siz (R41).pos a; have h2 : (a.map (R41).siz).sum + 1 ≤ 1048576 := h2; omega, fun x hx => by have h3 := length_le_sum (R5).siz (R5).pos x; have h4 : (R41).siz x ≤ (a.map (R41).siz).sum := mem_le_sum (List.mem_map_of_mem hx); have h5 : (R41).siz x = (x.map (R5).siz).sum + 1 := rfl; have h2 : (a.map (R41).siz).sum + 1 ≤ 1048576 := h2; omega⟩⟩
theorem sarg43 {H : Type} {eh : TypeId × Value → H} {w W0 : World} {r : Reach} {b0 : Nat} {v : Value} {d : DataW H} {ps : List MemPlace} (hval : Value.okWide Tryd.prog W0 r b0 43 v) (hd : DataW.Trod eh Tryd.prog w 0 (fun _ => true) true 43 v d ps) : ∃ a : List (List UInt8), Rd w (fun b => b < w.heap.size) noG ((fun a : List (List UInt8) => V.sl 2 1 (listRow a)) a) v ∧ (a.length ≤ 9223372036854775807 ∧ ∀ x ∈ a, x.length ≤ 9223372036854775807) := by
  obtain ⟨a, h0, h1, h2⟩ := (R43).cell (e := fun a : List (List UInt8) => V.sl 2 1 (listRow a)) (enc43) (fun h => cells_slice Tryd.underlying43 h) hval hd
  exact ⟨a, h0, ⟨by have := Rd.sl_len h0; simpa using this, fun x hx => rd_list h0 x hx⟩⟩
theorem arg44 {H : Type} {eh : TypeId × Value → H} {w W0 : World} {r : Reach} {b0 : Nat} {v : Value} {d : DataW H} {ps : List MemPlace} (hval : Value.okWide Tryd.prog W0 r b0 44 v) (hd : DataW.Trod eh Tryd.prog w 0 (fun _ => true) true 44 v d ps) (hb : Rows.uptoBulk d ≤ 1048576) : ∃ a : Int, Rd w (fun b => b < w.heap.size) noG ((fun a : Int => V.int .i64 a) a) v ∧ (In64 a) := by
  obtain ⟨a, h0, h1, h2⟩ := (R44).cell (e := fun a : Int => V.int .i64 a) (fun _ => rfl) (fun h => cells_int Tryd.underlying44 h) hval hd
  have h2 := Nat.le_trans (h2 _ meas) hb
  exact ⟨a, h0, wf_i64 h1⟩
theorem sarg44 {H : Type} {eh : TypeId × Value → H} {w W0 : World} {r : Reach} {b0 : Nat} {v : Value} {d : DataW H} {ps : List MemPlace} (hval : Value.okWide Tryd.prog W0 r b0 44 v) (hd : DataW.Trod eh Tryd.prog w 0 (fun _ => true) true 44 v d ps) : ∃ a : Int, Rd w (fun b => b < w.heap.size) noG ((fun a : Int => V.int .i64 a) a) v ∧ (In64 a) := by
  obtain ⟨a, h0, h1, h2⟩ := (R44).cell (e := fun a : Int => V.int .i64 a) (fun _ => rfl) (fun h => cells_int Tryd.underlying44 h) hval hd
  exact ⟨a, h0, wf_i64 h1⟩
theorem arg75 {H : Type} {eh : TypeId × Value → H} {w W0 : World} {r : Reach} {b0 : Nat} {v : Value} {d : DataW H} {ps : List MemPlace} (hval : Value.okWide Tryd.prog W0 r b0 75 v) (hd : DataW.Trod eh Tryd.prog w 0 (fun _ => true) true 75 v d ps) (hb : Rows.uptoBulk d ≤ 1048576) : ∃ a : List ByteArray, Rd w (fun b => b < w.heap.size) noG ((fun a : List ByteArray => V.sl 2 1 (strRow a)) a) v ∧ (a.length ≤ 1048575) := by
  obtain ⟨a, h0, h1, h2⟩ := (R75).cell (e := fun a : List ByteArray => V.sl 2 1 (strRow a)) (enc75) (fun h => cells_slice Tryd.underlying75 h) hval hd
  have h2 := Nat.le_trans (h2 _ meas) hb
  exact ⟨a, h0, by have := length_le_sum (R9).siz (R9).pos a; have h2 : (a.map (R9).siz).sum + 1 ≤ 1048576 := h2; omega⟩
theorem sarg75 {H : Type} {eh : TypeId × Value → H} {w W0 : World} {r : Reach} {b0 : Nat} {v : Value} {d : DataW H} {ps : List MemPlace} (hval : Value.okWide Tryd.prog W0 r b0 75 v) (hd : DataW.Trod eh Tryd.prog w 0 (fun _ => true) true 75 v d ps) : ∃ a : List ByteArray, Rd w (fun b => b < w.heap.size) noG ((fun a : List ByteArray => V.sl 2 1 (strRow a)) a) v ∧ (a.length ≤ 9223372036854775807) := by
  obtain ⟨a, h0, h1, h2⟩ := (R75).cell (e := fun a : List ByteArray => V.sl 2 1 (strRow a)) (enc75) (fun h => cells_slice Tryd.underlying75 h) hval hd
  exact ⟨a, h0, by have := Rd.sl_len h0; simpa using this⟩
theorem arg78 {H : Type} {eh : TypeId × Value → H} {w W0 : World} {r : Reach} {b0 : Nat} {v : Value} {d : DataW H} {ps : List MemPlace} (hval : Value.okWide Tryd.prog W0 r b0 78 v) (hd : DataW.Trod eh Tryd.prog w 0 (fun _ => true) true 78 v d ps) (_hb : Rows.uptoBulk d ≤ 1048576) : ∃ a : GZone, Rd w (fun b => b < w.heap.size) noG (vZone a) v ∧ GZone.ok a := by
  obtain ⟨a, h0, h1, _⟩ := (R78).agg Tryd.underlying78 hval hd
  exact ⟨a, h0, h1⟩
theorem sarg78 {H : Type} {eh : TypeId × Value → H} {w W0 : World} {r : Reach} {b0 : Nat} {v : Value} {d : DataW H} {ps : List MemPlace} (hval : Value.okWide Tryd.prog W0 r b0 78 v) (hd : DataW.Trod eh Tryd.prog w 0 (fun _ => true) true 78 v d ps) : ∃ a : GZone, Rd w (fun b => b < w.heap.size) noG (vZone a) v ∧ GZone.ok a := by
  obtain ⟨a, h0, h1, _⟩ := (R78).agg Tryd.underlying78 hval hd
  exact ⟨a, h0, h1⟩
theorem arg80 {H : Type} {eh : TypeId × Value → H} {w W0 : World} {r : Reach} {b0 : Nat} {v : Value} {d : DataW H} {ps : List MemPlace} (hval : Value.okWide Tryd.prog W0 r b0 80 v) (hd : DataW.Trod eh Tryd.prog w 0 (fun _ => true) true 80 v d ps) (_hb : Rows.uptoBulk d ≤ 1048576) : ∃ a : GCell, Rd w (fun b => b < w.heap.size) noG (vCell a) v ∧ GCell.ok a := by
  obtain ⟨a, h0, h1, _⟩ := (R80).agg Tryd.underlying80 hval hd
  exact ⟨a, h0, h1⟩
theorem sarg80 {H : Type} {eh : TypeId × Value → H} {w W0 : World} {r : Reach} {b0 : Nat} {v : Value} {d : DataW H} {ps : List MemPlace} (hval : Value.okWide Tryd.prog W0 r b0 80 v) (hd : DataW.Trod eh Tryd.prog w 0 (fun _ => true) true 80 v d ps) : ∃ a : GCell, Rd w (fun b => b < w.heap.size) noG (vCell a) v ∧ GCell.ok a := by
  obtain ⟨a, h0, h1, _⟩ := (R80).agg Tryd.underlying80 hval hd
  exact ⟨a, h0, h1⟩
theorem arg81 {H : Type} {eh : TypeId × Value → H} {w W0 : World} {r : Reach} {b0 : Nat} {v : Value} {d : DataW H} {ps : List MemPlace} (hval : Value.okWide Tryd.prog W0 r b0 81 v) (hd : DataW.Trod eh Tryd.prog w 0 (fun _ => true) true 81 v d ps) (hb : Rows.uptoBulk d ≤ 1048576) : ∃ a : Int, Rd w (fun b => b < w.heap.size) noG ((fun a : Int => V.int .u64 a) a) v ∧ (InU64 a) := by
  obtain ⟨a, h0, h1, h2⟩ := (R81).cell (e := fun a : Int => V.int .u64 a) (fun _ => rfl) (fun h => cells_int Tryd.underlying81 h) hval hd
  have h2 := Nat.le_trans (h2 _ meas) hb
  exact ⟨a, h0, wf_u64 h1⟩
theorem sarg81 {H : Type} {eh : TypeId × Value → H} {w W0 : World} {r : Reach} {b0 : Nat} {v : Value} {d : DataW H} {ps : List MemPlace} (hval : Value.okWide Tryd.prog W0 r b0 81 v) (hd : DataW.Trod eh Tryd.prog w 0 (fun _ => true) true 81 v d ps) : ∃ a : Int, Rd w (fun b => b < w.heap.size) noG ((fun a : Int => V.int .u64 a) a) v ∧ (InU64 a) := by
  obtain ⟨a, h0, h1, h2⟩ := (R81).cell (e := fun a : Int => V.int .u64 a) (fun _ => rfl) (fun h => cells_int Tryd.underlying81 h) hval hd
  exact ⟨a, h0, wf_u64 h1⟩
theorem arg83 {H : Type} {eh : TypeId × Value → H} {w W0 : World} {r : Reach} {b0 : Nat} {v : Value} {d : DataW H} {ps : List MemPlace} (hval : Value.okWide Tryd.prog W0 r b0 83 v) (hd : DataW.Trod eh Tryd.prog w 0 (fun _ => true) true 83 v d ps) (_hb : Rows.uptoBulk d ≤ 1048576) : ∃ a : GTenant, Rd w (fun b => b < w.heap.size) noG (vTenant a) v ∧ GTenant.ok a := by
  obtain ⟨a, h0, h1, _⟩ := (R83).agg Tryd.underlying83 hval hd
  exact ⟨a, h0, h1⟩
theorem sarg83 {H : Type} {eh : TypeId × Value → H} {w W0 : World} {r : Reach} {b0 : Nat} {v : Value} {d : DataW H} {ps : List MemPlace} (hval : Value.okWide Tryd.prog W0 r b0 83 v) (hd : DataW.Trod eh Tryd.prog w 0 (fun _ => true) true 83 v d ps) : ∃ a : GTenant, Rd w (fun b => b < w.heap.size) noG (vTenant a) v ∧ GTenant.ok a := by
  obtain ⟨a, h0, h1, _⟩ := (R83).agg Tryd.underlying83 hval hd
  exact ⟨a, h0, h1⟩
theorem arg85 {H : Type} {eh : TypeId × Value → H} {w W0 : World} {r : Reach} {b0 : Nat} {v : Value} {d : DataW H} {ps : List MemPlace} (hval : Value.okWide Tryd.prog W0 r b0 85 v) (hd : DataW.Trod eh Tryd.prog w 0 (fun _ => true) true 85 v d ps) (_hb : Rows.uptoBulk d ≤ 1048576) : ∃ a : GVersion, Rd w (fun b => b < w.heap.size) noG (vVersion a) v ∧ GVersion.ok a := by
  obtain ⟨a, h0, h1, _⟩ := (R85).agg Tryd.underlying85 hval hd
  exact ⟨a, h0, h1⟩
theorem sarg85 {H : Type} {eh : TypeId × Value → H} {w W0 : World} {r : Reach} {b0 : Nat} {v : Value} {d : DataW H} {ps : List MemPlace} (hval : Value.okWide Tryd.prog W0 r b0 85 v) (hd : DataW.Trod eh Tryd.prog w 0 (fun _ => true) true 85 v d ps) : ∃ a : GVersion, Rd w (fun b => b < w.heap.size) noG (vVersion a) v ∧ GVersion.ok a := by
  obtain ⟨a, h0, h1, _⟩ := (R85).agg Tryd.underlying85 hval hd
  exact ⟨a, h0, h1⟩
theorem arg88 {H : Type} {eh : TypeId × Value → H} {w W0 : World} {r : Reach} {b0 : Nat} {v : Value} {d : DataW H} {ps : List MemPlace} (hval : Value.okWide Tryd.prog W0 r b0 88 v) (hd : DataW.Trod eh Tryd.prog w 0 (fun _ => true) true 88 v d ps) (_hb : Rows.uptoBulk d ≤ 1048576) : ∃ a : GWindow, Rd w (fun b => b < w.heap.size) noG (vWindow a) v ∧ GWindow.ok a := by
  obtain ⟨a, h0, h1, _⟩ := (R88).agg Tryd.underlying88 hval hd
  exact ⟨a, h0, h1⟩
theorem sarg88 {H : Type} {eh : TypeId × Value → H} {w W0 : World} {r : Reach} {b0 : Nat} {v : Value} {d : DataW H} {ps : List MemPlace} (hval : Value.okWide Tryd.prog W0 r b0 88 v) (hd : DataW.Trod eh Tryd.prog w 0 (fun _ => true) true 88 v d ps) : ∃ a : GWindow, Rd w (fun b => b < w.heap.size) noG (vWindow a) v ∧ GWindow.ok a := by
  obtain ⟨a, h0, h1, _⟩ := (R88).agg Tryd.underlying88 hval hd
  exact ⟨a, h0, h1⟩
theorem arg90 {H : Type} {eh : TypeId × Value → H} {w W0 : World} {r : Reach} {b0 : Nat} {v : Value} {d : DataW H} {ps : List MemPlace} (hval : Value.okWide Tryd.prog W0 r b0 90 v) (hd : DataW.Trod eh Tryd.prog w 0 (fun _ => true) true 90 v d ps) (_hb : Rows.uptoBulk d ≤ 1048576) : ∃ a : GTenantState, Rd w (fun b => b < w.heap.size) noG (vTenantState a) v ∧ GTenantState.ok a := by
  obtain ⟨a, h0, h1, _⟩ := (R90).agg Tryd.underlying90 hval hd
  exact ⟨a, h0, h1⟩
theorem sarg90 {H : Type} {eh : TypeId × Value → H} {w W0 : World} {r : Reach} {b0 : Nat} {v : Value} {d : DataW H} {ps : List MemPlace} (hval : Value.okWide Tryd.prog W0 r b0 90 v) (hd : DataW.Trod eh Tryd.prog w 0 (fun _ => true) true 90 v d ps) : ∃ a : GTenantState, Rd w (fun b => b < w.heap.size) noG (vTenantState a) v ∧ GTenantState.ok a := by
  obtain ⟨a, h0, h1, _⟩ := (R90).agg Tryd.underlying90 hval hd
  exact ⟨a, h0, h1⟩
theorem arg100 {H : Type} {eh : TypeId × Value → H} {w W0 : World} {r : Reach} {b0 : Nat} {v : Value} {d : DataW H} {ps : List MemPlace} (hval : Value.okWide Tryd.prog W0 r b0 100 v) (hd : DataW.Trod eh Tryd.prog w 0 (fun _ => true) true 100 v d ps) (hb : Rows.uptoBulk d ≤ 1048576) : ∃ a : List GEntry, Rd w (fun b => b < w.heap.size) noG ((fun a : List GEntry => V.sl 2 9 (GEntry.row a)) a) v ∧ (a.length ≤ 1048575 ∧ ∀ x ∈ a, GEntry.ok x) := by
  obtain ⟨a, h0, h1, h2⟩ := (R100).cell (e := fun a : List GEntry => V.sl 2 9 (GEntry.row a)) (enc100) (fun h => cells_slice Tryd.underlying100 h) hval hd
  have h2 := Nat.le_trans (h2 _ meas) hb
  exact ⟨a, h0, ⟨by have := length_le_sum (R24).siz (R24).pos a; have h2 : (a.map (R24).siz).sum + 1 ≤ 1048576 := h2; omega, (fun y hy => h1 y hy)⟩⟩
theorem sarg100 {H : Type} {eh : TypeId × Value → H} {w W0 : World} {r : Reach} {b0 : Nat} {v : Value} {d : DataW H} {ps : List MemPlace} (hval : Value.okWide Tryd.prog W0 r b0 100 v) (hd : DataW.Trod eh Tryd.prog w 0 (fun _ => true) true 100 v d ps) : ∃ a : List GEntry, Rd w (fun b => b < w.heap.size) noG ((fun a : List GEntry => V.sl 2 9 (GEntry.row a)) a) v ∧ (a.length ≤ 9223372036854775807 ∧ ∀ x ∈ a, GEntry.ok x) := by
  obtain ⟨a, h0, h1, h2⟩ := (R100).cell (e := fun a : List GEntry => V.sl 2 9 (GEntry.row a)) (enc100) (fun h => cells_slice Tryd.underlying100 h) hval hd
  exact ⟨a, h0, ⟨by have := Rd.sl_len h0; simpa using this, (fun y hy => h1 y hy)⟩⟩
theorem arg111 {H : Type} {eh : TypeId × Value → H} {w W0 : World} {r : Reach} {b0 : Nat} {v : Value} {d : DataW H} {ps : List MemPlace} (hval : Value.okWide Tryd.prog W0 r b0 111 v) (hd : DataW.Trod eh Tryd.prog w 0 (fun _ => true) true 111 v d ps) (hb : Rows.uptoBulk d ≤ 1048576) : ∃ a : Int, Rd w (fun b => b < w.heap.size) noG ((fun a : Int => V.int .u64 a) a) v ∧ (InU64 a) := by
  obtain ⟨a, h0, h1, h2⟩ := (R111).cell (e := fun a : Int => V.int .u64 a) (fun _ => rfl) (fun h => cells_int Tryd.underlying111 h) hval hd
  have h2 := Nat.le_trans (h2 _ meas) hb
  exact ⟨a, h0, wf_u64 h1⟩
theorem sarg111 {H : Type} {eh : TypeId × Value → H} {w W0 : World} {r : Reach} {b0 : Nat} {v : Value} {d : DataW H} {ps : List MemPlace} (hval : Value.okWide Tryd.prog W0 r b0 111 v) (hd : DataW.Trod eh Tryd.prog w 0 (fun _ => true) true 111 v d ps) : ∃ a : Int, Rd w (fun b => b < w.heap.size) noG ((fun a : Int => V.int .u64 a) a) v ∧ (InU64 a) := by
  obtain ⟨a, h0, h1, h2⟩ := (R111).cell (e := fun a : Int => V.int .u64 a) (fun _ => rfl) (fun h => cells_int Tryd.underlying111 h) hval hd
  exact ⟨a, h0, wf_u64 h1⟩
theorem arg116 {H : Type} {eh : TypeId × Value → H} {w W0 : World} {r : Reach} {b0 : Nat} {v : Value} {d : DataW H} {ps : List MemPlace} (hval : Value.okWide Tryd.prog W0 r b0 116 v) (hd : DataW.Trod eh Tryd.prog w 0 (fun _ => true) true 116 v d ps) (_hb : Rows.uptoBulk d ≤ 1048576) : ∃ a : GCellState, Rd w (fun b => b < w.heap.size) noG (vCellState a) v ∧ GCellState.ok a := by
  obtain ⟨a, h0, h1, _⟩ := (R116).agg Tryd.underlying116 hval hd
  exact ⟨a, h0, h1⟩
theorem sarg116 {H : Type} {eh : TypeId × Value → H} {w W0 : World} {r : Reach} {b0 : Nat} {v : Value} {d : DataW H} {ps : List MemPlace} (hval : Value.okWide Tryd.prog W0 r b0 116 v) (hd : DataW.Trod eh Tryd.prog w 0 (fun _ => true) true 116 v d ps) : ∃ a : GCellState, Rd w (fun b => b < w.heap.size) noG (vCellState a) v ∧ GCellState.ok a := by
  obtain ⟨a, h0, h1, _⟩ := (R116).agg Tryd.underlying116 hval hd
  exact ⟨a, h0, h1⟩
theorem arg27 {H : Type} {eh : TypeId × Value → H} {w W0 : World} {r : Reach} {b0 : Nat} {v : Value} {d : DataW H} {ps : List MemPlace} (hval : Value.okWide Tryd.prog W0 r b0 27 v) (hd : DataW.Trod eh Tryd.prog w 0 (fun _ => true) true 27 v d ps) (hb : Rows.uptoBulk d ≤ 1048576) : ∃ a : List GZone, Rd w (fun b => b < w.heap.size) noG ((fun a : List GZone => V.sl 2 1 (GZone.row a)) a) v ∧ (a.length ≤ 1048575 ∧ ∀ x ∈ a, GZone.ok x) := by
  obtain ⟨a, h0, h1, h2⟩ := (R27).cell (e := fun a : List GZone => V.sl 2 1 (GZone.row a)) (enc27) (fun h => cells_slice Tryd.underlying27 h) hval hd
  have h2 := Nat.le_trans (h2 _ meas) hb
  exact ⟨a, h0, ⟨by have := length_le_sum (R78).siz (R78).pos a; have h2 : (a.map (R78).siz).sum + 1 ≤ 1048576 := h2; omega, (fun y hy => h1 y hy)⟩⟩
theorem sarg27 {H : Type} {eh : TypeId × Value → H} {w W0 : World} {r : Reach} {b0 : Nat} {v : Value} {d : DataW H} {ps : List MemPlace} (hval : Value.okWide Tryd.prog W0 r b0 27 v) (hd : DataW.Trod eh Tryd.prog w 0 (fun _ => true) true 27 v d ps) : ∃ a : List GZone, Rd w (fun b => b < w.heap.size) noG ((fun a : List GZone => V.sl 2 1 (GZone.row a)) a) v ∧ (a.length ≤ 9223372036854775807 ∧ ∀ x ∈ a, GZone.ok x) := by
  obtain ⟨a, h0, h1, h2⟩ := (R27).cell (e := fun a : List GZone => V.sl 2 1 (GZone.row a)) (enc27) (fun h => cells_slice Tryd.underlying27 h) hval hd
  exact ⟨a, h0, ⟨by have := Rd.sl_len h0; simpa using this, (fun y hy => h1 y hy)⟩⟩
theorem arg28 {H : Type} {eh : TypeId × Value → H} {w W0 : World} {r : Reach} {b0 : Nat} {v : Value} {d : DataW H} {ps : List MemPlace} (hval : Value.okWide Tryd.prog W0 r b0 28 v) (hd : DataW.Trod eh Tryd.prog w 0 (fun _ => true) true 28 v d ps) (hb : Rows.uptoBulk d ≤ 1048576) : ∃ a : List GCell, Rd w (fun b => b < w.heap.size) noG ((fun a : List GCell => V.sl 2 2 (GCell.row a)) a) v ∧ (a.length ≤ 1048575 ∧ ∀ x ∈ a, GCell.ok x) := by
  obtain ⟨a, h0, h1, h2⟩ := (R28).cell (e := fun a : List GCell => V.sl 2 2 (GCell.row a)) (enc28) (fun h => cells_slice Tryd.underlying28 h) hval hd
  have h2 := Nat.le_trans (h2 _ meas) hb
  exact ⟨a, h0, ⟨by have := length_le_sum (R80).siz (R80).pos a; have h2 : (a.map (R80).siz).sum + 1 ≤ 1048576 := h2; omega, (fun y hy => h1 y hy)⟩⟩
theorem sarg28 {H : Type} {eh : TypeId × Value → H} {w W0 : World} {r : Reach} {b0 : Nat} {v : Value} {d : DataW H} {ps : List MemPlace} (hval : Value.okWide Tryd.prog W0 r b0 28 v) (hd : DataW.Trod eh Tryd.prog w 0 (fun _ => true) true 28 v d ps) : ∃ a : List GCell, Rd w (fun b => b < w.heap.size) noG ((fun a : List GCell => V.sl 2 2 (GCell.row a)) a) v ∧ (a.length ≤ 9223372036854775807 ∧ ∀ x ∈ a, GCell.ok x) := by
  obtain ⟨a, h0, h1, h2⟩ := (R28).cell (e := fun a : List GCell => V.sl 2 2 (GCell.row a)) (enc28) (fun h => cells_slice Tryd.underlying28 h) hval hd
  exact ⟨a, h0, ⟨by have := Rd.sl_len h0; simpa using this, (fun y hy => h1 y hy)⟩⟩
theorem arg29 {H : Type} {eh : TypeId × Value → H} {w W0 : World} {r : Reach} {b0 : Nat} {v : Value} {d : DataW H} {ps : List MemPlace} (hval : Value.okWide Tryd.prog W0 r b0 29 v) (hd : DataW.Trod eh Tryd.prog w 0 (fun _ => true) true 29 v d ps) (hb : Rows.uptoBulk d ≤ 1048576) : ∃ a : List GTenant, Rd w (fun b => b < w.heap.size) noG ((fun a : List GTenant => V.sl 2 7 (GTenant.row a)) a) v ∧ (a.length ≤ 1048575 ∧ ∀ x ∈ a, GTenant.ok x) := by
  obtain ⟨a, h0, h1, h2⟩ := (R29).cell (e := fun a : List GTenant => V.sl 2 7 (GTenant.row a)) (enc29) (fun h => cells_slice Tryd.underlying29 h) hval hd
  have h2 := Nat.le_trans (h2 _ meas) hb
  exact ⟨a, h0, ⟨by have := length_le_sum (R83).siz (R83).pos a; have h2 : (a.map (R83).siz).sum + 1 ≤ 1048576 := h2; omega, (fun y hy => h1 y hy)⟩⟩
theorem sarg29 {H : Type} {eh : TypeId × Value → H} {w W0 : World} {r : Reach} {b0 : Nat} {v : Value} {d : DataW H} {ps : List MemPlace} (hval : Value.okWide Tryd.prog W0 r b0 29 v) (hd : DataW.Trod eh Tryd.prog w 0 (fun _ => true) true 29 v d ps) : ∃ a : List GTenant, Rd w (fun b => b < w.heap.size) noG ((fun a : List GTenant => V.sl 2 7 (GTenant.row a)) a) v ∧ (a.length ≤ 9223372036854775807 ∧ ∀ x ∈ a, GTenant.ok x) := by
  obtain ⟨a, h0, h1, h2⟩ := (R29).cell (e := fun a : List GTenant => V.sl 2 7 (GTenant.row a)) (enc29) (fun h => cells_slice Tryd.underlying29 h) hval hd
  exact ⟨a, h0, ⟨by have := Rd.sl_len h0; simpa using this, (fun y hy => h1 y hy)⟩⟩
theorem arg30 {H : Type} {eh : TypeId × Value → H} {w W0 : World} {r : Reach} {b0 : Nat} {v : Value} {d : DataW H} {ps : List MemPlace} (hval : Value.okWide Tryd.prog W0 r b0 30 v) (hd : DataW.Trod eh Tryd.prog w 0 (fun _ => true) true 30 v d ps) (hb : Rows.uptoBulk d ≤ 1048576) : ∃ a : List GVersion, Rd w (fun b => b < w.heap.size) noG ((fun a : List GVersion => V.sl 2 2 (GVersion.row a)) a) v ∧ (a.length ≤ 1048575 ∧ ∀ x ∈ a, GVersion.ok x) := by
  obtain ⟨a, h0, h1, h2⟩ := (R30).cell (e := fun a : List GVersion => V.sl 2 2 (GVersion.row a)) (enc30) (fun h => cells_slice Tryd.underlying30 h) hval hd
  have h2 := Nat.le_trans (h2 _ meas) hb
  exact ⟨a, h0, ⟨by have := length_le_sum (R85).siz (R85).pos a; have h2 : (a.map (R85).siz).sum + 1 ≤ 1048576 := h2; omega, (fun y hy => h1 y hy)⟩⟩
theorem sarg30 {H : Type} {eh : TypeId × Value → H} {w W0 : World} {r : Reach} {b0 : Nat} {v : Value} {d : DataW H} {ps : List MemPlace} (hval : Value.okWide Tryd.prog W0 r b0 30 v) (hd : DataW.Trod eh Tryd.prog w 0 (fun _ => true) true 30 v d ps) : ∃ a : List GVersion, Rd w (fun b => b < w.heap.size) noG ((fun a : List GVersion => V.sl 2 2 (GVersion.row a)) a) v ∧ (a.length ≤ 9223372036854775807 ∧ ∀ x ∈ a, GVersion.ok x) := by
  obtain ⟨a, h0, h1, h2⟩ := (R30).cell (e := fun a : List GVersion => V.sl 2 2 (GVersion.row a)) (enc30) (fun h => cells_slice Tryd.underlying30 h) hval hd
  exact ⟨a, h0, ⟨by have := Rd.sl_len h0; simpa using this, (fun y hy => h1 y hy)⟩⟩
theorem arg32 {H : Type} {eh : TypeId × Value → H} {w W0 : World} {r : Reach} {b0 : Nat} {v : Value} {d : DataW H} {ps : List MemPlace} (hval : Value.okWide Tryd.prog W0 r b0 32 v) (hd : DataW.Trod eh Tryd.prog w 0 (fun _ => true) true 32 v d ps) (_hb : Rows.uptoBulk d ≤ 1048576) : ∃ a : GConfig, Rd w (fun b => b < w.heap.size) noG (vConfig a) v ∧ GConfig.ok a := by
  obtain ⟨a, h0, h1, _⟩ := (R32).agg Tryd.underlying32 hval hd
  exact ⟨a, h0, h1⟩
theorem sarg32 {H : Type} {eh : TypeId × Value → H} {w W0 : World} {r : Reach} {b0 : Nat} {v : Value} {d : DataW H} {ps : List MemPlace} (hval : Value.okWide Tryd.prog W0 r b0 32 v) (hd : DataW.Trod eh Tryd.prog w 0 (fun _ => true) true 32 v d ps) : ∃ a : GConfig, Rd w (fun b => b < w.heap.size) noG (vConfig a) v ∧ GConfig.ok a := by
  obtain ⟨a, h0, h1, _⟩ := (R32).agg Tryd.underlying32 hval hd
  exact ⟨a, h0, h1⟩
theorem arg56 {H : Type} {eh : TypeId × Value → H} {w W0 : World} {r : Reach} {b0 : Nat} {v : Value} {d : DataW H} {ps : List MemPlace} (hval : Value.okWide Tryd.prog W0 r b0 56 v) (hd : DataW.Trod eh Tryd.prog w 0 (fun _ => true) true 56 v d ps) (hb : Rows.uptoBulk d ≤ 1048576) : ∃ a : List GTenantState, Rd w (fun b => b < w.heap.size) noG ((fun a : List GTenantState => V.sl 2 12 (GTenantState.row a)) a) v ∧ (a.length ≤ 1048575 ∧ ∀ x ∈ a, GTenantState.ok x) := by
  obtain ⟨a, h0, h1, h2⟩ := (R56).cell (e := fun a : List GTenantState => V.sl 2 12 (GTenantState.row a)) (enc56) (fun h => cells_slice Tryd.underlying56 h) hval hd
  have h2 := Nat.le_trans (h2 _ meas) hb
  exact ⟨a, h0, ⟨by have := length_le_sum (R90).siz (R90).pos a; have h2 : (a.map (R90).siz).sum + 1 ≤ 1048576 := h2; omega, (fun y hy => h1 y hy)⟩⟩
theorem sarg56 {H : Type} {eh : TypeId × Value → H} {w W0 : World} {r : Reach} {b0 : Nat} {v : Value} {d : DataW H} {ps : List MemPlace} (hval : Value.okWide Tryd.prog W0 r b0 56 v) (hd : DataW.Trod eh Tryd.prog w 0 (fun _ => true) true 56 v d ps) : ∃ a : List GTenantState, Rd w (fun b => b < w.heap.size) noG ((fun a : List GTenantState => V.sl 2 12 (GTenantState.row a)) a) v ∧ (a.length ≤ 9223372036854775807 ∧ ∀ x ∈ a, GTenantState.ok x) := by
  obtain ⟨a, h0, h1, h2⟩ := (R56).cell (e := fun a : List GTenantState => V.sl 2 12 (GTenantState.row a)) (enc56) (fun h => cells_slice Tryd.underlying56 h) hval hd
  exact ⟨a, h0, ⟨by have := Rd.sl_len h0; simpa using this, (fun y hy => h1 y hy)⟩⟩
theorem arg57 {H : Type} {eh : TypeId × Value → H} {w W0 : World} {r : Reach} {b0 : Nat} {v : Value} {d : DataW H} {ps : List MemPlace} (hval : Value.okWide Tryd.prog W0 r b0 57 v) (hd : DataW.Trod eh Tryd.prog w 0 (fun _ => true) true 57 v d ps) (hb : Rows.uptoBulk d ≤ 1048576) : ∃ a : List GCellState, Rd w (fun b => b < w.heap.size) noG ((fun a : List GCellState => V.sl 2 4 (GCellState.row a)) a) v ∧ (a.length ≤ 1048575 ∧ ∀ x ∈ a, GCellState.ok x) := by
  obtain ⟨a, h0, h1, h2⟩ := (R57).cell (e := fun a : List GCellState => V.sl 2 4 (GCellState.row a)) (enc57) (fun h => cells_slice Tryd.underlying57 h) hval hd
  have h2 := Nat.le_trans (h2 _ meas) hb
  exact ⟨a, h0, ⟨by have := length_le_sum (R116).siz (R116).pos a; have h2 : (a.map (R116).siz).sum + 1 ≤ 1048576 := h2; omega, (fun y hy => h1 y hy)⟩⟩
theorem sarg57 {H : Type} {eh : TypeId × Value → H} {w W0 : World} {r : Reach} {b0 : Nat} {v : Value} {d : DataW H} {ps : List MemPlace} (hval : Value.okWide Tryd.prog W0 r b0 57 v) (hd : DataW.Trod eh Tryd.prog w 0 (fun _ => true) true 57 v d ps) : ∃ a : List GCellState, Rd w (fun b => b < w.heap.size) noG ((fun a : List GCellState => V.sl 2 4 (GCellState.row a)) a) v ∧ (a.length ≤ 9223372036854775807 ∧ ∀ x ∈ a, GCellState.ok x) := by
  obtain ⟨a, h0, h1, h2⟩ := (R57).cell (e := fun a : List GCellState => V.sl 2 4 (GCellState.row a)) (enc57) (fun h => cells_slice Tryd.underlying57 h) hval hd
  exact ⟨a, h0, ⟨by have := Rd.sl_len h0; simpa using this, (fun y hy => h1 y hy)⟩⟩
theorem arg59 {H : Type} {eh : TypeId × Value → H} {w W0 : World} {r : Reach} {b0 : Nat} {v : Value} {d : DataW H} {ps : List MemPlace} (hval : Value.okWide Tryd.prog W0 r b0 59 v) (hd : DataW.Trod eh Tryd.prog w 0 (fun _ => true) true 59 v d ps) (_hb : Rows.uptoBulk d ≤ 1048576) : ∃ a : GState, Rd w (fun b => b < w.heap.size) noG (vState a) v ∧ GState.ok a := by
  obtain ⟨a, h0, h1, _⟩ := (R59).agg Tryd.underlying59 hval hd
  exact ⟨a, h0, h1⟩
theorem sarg59 {H : Type} {eh : TypeId × Value → H} {w W0 : World} {r : Reach} {b0 : Nat} {v : Value} {d : DataW H} {ps : List MemPlace} (hval : Value.okWide Tryd.prog W0 r b0 59 v) (hd : DataW.Trod eh Tryd.prog w 0 (fun _ => true) true 59 v d ps) : ∃ a : GState, Rd w (fun b => b < w.heap.size) noG (vState a) v ∧ GState.ok a := by
  obtain ⟨a, h0, h1, _⟩ := (R59).agg Tryd.underlying59 hval hd
  exact ⟨a, h0, h1⟩
end Go.Proofs.YtegjhmhhbmnljaaDoor
