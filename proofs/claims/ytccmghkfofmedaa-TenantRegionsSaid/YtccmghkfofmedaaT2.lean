/-
  How arguments of the program's types read.
-/
import Derived.Test.YtccmghkfofmedaaT1
import Derived.Test.YtccmghkfofmedaaPLD
namespace Go.Proofs.Ytccmghkfofmedaa
open Go.Lift

theorem laid : laidOutB Try.prog = true := by kernel_rfl
theorem own : ownKnob Try.prog.godebug = none := by kernel_rfl

theorem bulk_one {H : Type} (d : DataW H) : 1 ≤ Rows.uptoBulk d := by
  cases d with
  | lit l => cases l <;> simp [Rows.uptoBulk]
  | _ => simp [Rows.uptoBulk]
theorem bulk_all {H : Type} : ∀ l : List (DataW H), Rows.uptoBulkAll l = (l.map Rows.uptoBulk).sum
  | [] => by simp [Rows.uptoBulkAll]
  | d :: l => by simp [Rows.uptoBulkAll, bulk_all l]
theorem meas {H : Type} : Meas (Rows.uptoBulk (H := H)) := by
  refine ⟨bulk_one, fun b => by simp [Rows.uptoBulk], fun es sp => ?_, fun ps => ?_⟩
  · simp only [Rows.uptoBulk, bulk_all]; omega
  · simp only [Rows.uptoBulk, bulk_all]; omega
theorem bulk_le {H : Type} {l : List (DataW H)} (h : Rows.uptoSmall H l = true) : Rows.uptoBulkAll l ≤ 1048576 := of_decide_eq_true h
theorem part_le {H : Type} {d : DataW H} {l : List (DataW H)} (h : d ∈ l) : Rows.uptoBulk d ≤ Rows.uptoBulkAll l := by
  induction l with
  | nil => cases h
  | cons x r ih =>
    simp only [Rows.uptoBulkAll]
    rcases List.mem_cons.1 h with rfl | e
    · omega
    · have := ih e; omega

theorem cells2 : Try.prog.cellsOf 2 = 1 := by kernel_rfl
noncomputable def R2 : Reader Try.prog 2 Int := rdInt .i64 Try.underlying2 cells2
theorem cells3 : Try.prog.cellsOf 3 = 1 := by kernel_rfl
noncomputable def R3 : Reader Try.prog 3 Int := rdInt .i64 Try.underlying3 cells3
theorem cells4 : Try.prog.cellsOf 4 = 1 := by kernel_rfl
noncomputable def R4 : Reader Try.prog 4 Bool := rdBool Try.underlying4 cells4
theorem cells5 : Try.prog.cellsOf 5 = 1 := by kernel_rfl
noncomputable def R5 : Reader Try.prog 5 UInt8 := rdByte Try.underlying5 cells5
theorem cells9 : Try.prog.cellsOf 9 = 1 := by kernel_rfl
noncomputable def R9 : Reader Try.prog 9 ByteArray := rdStr Try.underlying9 cells9
theorem cells12 : Try.prog.cellsOf 12 = 1 := by kernel_rfl
noncomputable def R12 : Reader Try.prog 12 Int := rdInt .u64 Try.underlying12 cells12
theorem cells21 : Try.prog.cellsOf 21 = 1 := by kernel_rfl
noncomputable def R21 : Reader Try.prog 21 Int := rdInt .i32 Try.underlying21 cells21
theorem cells26 : Try.prog.cellsOf 26 = 1 := by kernel_rfl
noncomputable def R26 : Reader Try.prog 26 (List Int) := rdSlice Try.underlying26 cells26 R3
theorem enc26 (a : List Int) : (R26).enc a = [.sl 2 1 (intRow a)] := by
  show [V.sl 2 (Try.prog.cellsOf 3) (a.map (R3).enc)] = _
  rw [cells3]
  first | rfl | (congr 1; congr 1; exact congrArg (fun f => a.map f) (funext fun x => rfl))
theorem cells34 : Try.prog.cellsOf 34 = 1 := by kernel_rfl
noncomputable def R34 : Reader Try.prog 34 Int := rdInt .i64 Try.underlying34 cells34
theorem cells38 : Try.prog.cellsOf 38 = 7 := by kernel_rfl
noncomputable def Q38 : FReader Try.prog [⟨ "Load", 3, 0, false, "", "", 0⟩, ⟨ "Shadow", 3, 1, false, "", "", 8⟩, ⟨ "Priority", 3, 2, false, "", "", 16⟩, ⟨ "Lag", 3, 3, false, "", "", 24⟩, ⟨ "Allowed", 3, 4, false, "", "", 32⟩, ⟨ "Group", 3, 5, false, "", "", 40⟩, ⟨ "Noisy", 4, 6, false, "", "", 48⟩] 0 (Int × Int × Int × Int × Int × Int × Bool × Unit) := frCons (f := ⟨ "Load", 3, 0, false, "", "", 0⟩) (off := 0) (off' := 1) R3 (frCons (f := ⟨ "Shadow", 3, 1, false, "", "", 8⟩) (off := 1) (off' := 2) R3 (frCons (f := ⟨ "Priority", 3, 2, false, "", "", 16⟩) (off := 2) (off' := 3) R3 (frCons (f := ⟨ "Lag", 3, 3, false, "", "", 24⟩) (off := 3) (off' := 4) R3 (frCons (f := ⟨ "Allowed", 3, 4, false, "", "", 32⟩) (off := 4) (off' := 5) R3 (frCons (f := ⟨ "Group", 3, 5, false, "", "", 40⟩) (off := 5) (off' := 6) R3 (frCons (f := ⟨ "Noisy", 4, 6, false, "", "", 48⟩) (off := 6) (off' := 7) R4 (frNil) rfl (by rw [show Try.prog.cellsOf 4 = 1 from cells4])) rfl (by rw [show Try.prog.cellsOf 3 = 1 from cells3])) rfl (by rw [show Try.prog.cellsOf 3 = 1 from cells3])) rfl (by rw [show Try.prog.cellsOf 3 = 1 from cells3])) rfl (by rw [show Try.prog.cellsOf 3 = 1 from cells3])) rfl (by rw [show Try.prog.cellsOf 3 = 1 from cells3])) rfl (by rw [show Try.prog.cellsOf 3 = 1 from cells3])
noncomputable def R38 : Reader Try.prog 38 GTenant := rdStruct Try.underlying38 Q38 (by rw [cells38]; simp [Q38, frCons, frNil, cells3, cells4]) (fun b => ⟨b.1, b.2.1, b.2.2.1, b.2.2.2.1, b.2.2.2.2.1, b.2.2.2.2.2.1, b.2.2.2.2.2.2.1⟩) GTenant.cells (fun b => by
    show _ = (R3).enc b.1 ++ ((R3).enc b.2.1 ++ ((R3).enc b.2.2.1 ++ ((R3).enc b.2.2.2.1 ++ ((R3).enc b.2.2.2.2.1 ++ ((R3).enc b.2.2.2.2.2.1 ++ ((R4).enc b.2.2.2.2.2.2.1 ++ (([] : List V))))))))
    
    rfl) (fun a => ⟨⟨a.Load, a.Shadow, a.Priority, a.Lag, a.Allowed, a.Group, a.Noisy, ()⟩, rfl⟩) GTenant.ok (fun b h => by
    obtain ⟨o0, o1, o2, o3, o4, o5, o6, _⟩ := h
    exact ⟨wf_i64 o0, wf_i64 o1, wf_i64 o2, wf_i64 o3, wf_i64 o4, wf_i64 o5⟩) (fun _ => 0) (fun _ => Nat.zero_le _)
theorem enc38 (a : GTenant) : (R38).enc a = a.cells := rfl
theorem cells50 : Try.prog.cellsOf 50 = 1 := by kernel_rfl
noncomputable def R50 : Reader Try.prog 50 Int := rdInt .u64 Try.underlying50 cells50
theorem cells59 : Try.prog.cellsOf 59 = 1 := by kernel_rfl
noncomputable def Q59 : FReader Try.prog [⟨ "Region", 3, 0, false, "", "", 0⟩] 0 (Int × Unit) := frCons (f := ⟨ "Region", 3, 0, false, "", "", 0⟩) (off := 0) (off' := 1) R3 (frNil) rfl (by rw [show Try.prog.cellsOf 3 = 1 from cells3])
noncomputable def R59 : Reader Try.prog 59 GZone := rdStruct Try.underlying59 Q59 (by rw [cells59]; simp [Q59, frCons, frNil, cells3]) (fun b => ⟨b.1⟩) GZone.cells (fun b => by
    show _ = (R3).enc b.1 ++ (([] : List V))
    
    rfl) (fun a => ⟨⟨a.Region, ()⟩, rfl⟩) GZone.ok (fun b h => by
    obtain ⟨o0, _⟩ := h
    exact wf_i64 o0) (fun _ => 0) (fun _ => Nat.zero_le _)
theorem enc59 (a : GZone) : (R59).enc a = a.cells := rfl
theorem cells61 : Try.prog.cellsOf 61 = 2 := by kernel_rfl
noncomputable def Q61 : FReader Try.prog [⟨ "Zone", 3, 0, false, "", "", 0⟩, ⟨ "Capacity", 3, 1, false, "", "", 8⟩] 0 (Int × Int × Unit) := frCons (f := ⟨ "Zone", 3, 0, false, "", "", 0⟩) (off := 0) (off' := 1) R3 (frCons (f := ⟨ "Capacity", 3, 1, false, "", "", 8⟩) (off := 1) (off' := 2) R3 (frNil) rfl (by rw [show Try.prog.cellsOf 3 = 1 from cells3])) rfl (by rw [show Try.prog.cellsOf 3 = 1 from cells3])
noncomputable def R61 : Reader Try.prog 61 GCell := rdStruct Try.underlying61 Q61 (by rw [cells61]; simp [Q61, frCons, frNil, cells3]) (fun b => ⟨b.1, b.2.1⟩) GCell.cells (fun b => by
    show _ = (R3).enc b.1 ++ ((R3).enc b.2.1 ++ (([] : List V)))
    
    rfl) (fun a => ⟨⟨a.Zone, a.Capacity, ()⟩, rfl⟩) GCell.ok (fun b h => by
    obtain ⟨o0, o1, _⟩ := h
    exact ⟨wf_i64 o0, wf_i64 o1⟩) (fun _ => 0) (fun _ => Nat.zero_le _)
theorem enc61 (a : GCell) : (R61).enc a = a.cells := rfl
theorem cells63 : Try.prog.cellsOf 63 = 2 := by kernel_rfl
noncomputable def Q63 : FReader Try.prog [⟨ "Low", 3, 0, false, "", "", 0⟩, ⟨ "High", 3, 1, false, "", "", 8⟩] 0 (Int × Int × Unit) := frCons (f := ⟨ "Low", 3, 0, false, "", "", 0⟩) (off := 0) (off' := 1) R3 (frCons (f := ⟨ "High", 3, 1, false, "", "", 8⟩) (off := 1) (off' := 2) R3 (frNil) rfl (by rw [show Try.prog.cellsOf 3 = 1 from cells3])) rfl (by rw [show Try.prog.cellsOf 3 = 1 from cells3])
noncomputable def R63 : Reader Try.prog 63 GVersion := rdStruct Try.underlying63 Q63 (by rw [cells63]; simp [Q63, frCons, frNil, cells3]) (fun b => ⟨b.1, b.2.1⟩) GVersion.cells (fun b => by
    show _ = (R3).enc b.1 ++ ((R3).enc b.2.1 ++ (([] : List V)))
    
    rfl) (fun a => ⟨⟨a.Low, a.High, ()⟩, rfl⟩) GVersion.ok (fun b h => by
    obtain ⟨o0, o1, _⟩ := h
    exact ⟨wf_i64 o0, wf_i64 o1⟩) (fun _ => 0) (fun _ => Nat.zero_le _)
theorem enc63 (a : GVersion) : (R63).enc a = a.cells := rfl
theorem cells76 : Try.prog.cellsOf 76 = 1 := by kernel_rfl
noncomputable def R76 : Reader Try.prog 76 Int := rdInt .i64 Try.underlying76 cells76
theorem cells86 : Try.prog.cellsOf 86 = 1 := by kernel_rfl
noncomputable def R86 : Reader Try.prog 86 Int := rdInt .u64 Try.underlying86 cells86
theorem cells87 : Try.prog.cellsOf 87 = 1 := by kernel_rfl
noncomputable def R87 : Reader Try.prog 87 Int := rdInt .u64 Try.underlying87 cells87
theorem cells22 : Try.prog.cellsOf 22 = 1 := by kernel_rfl
noncomputable def R22 : Reader Try.prog 22 (List GZone) := rdSlice Try.underlying22 cells22 R59
theorem enc22 (a : List GZone) : (R22).enc a = [.sl 2 1 (GZone.row a)] := by
  show [V.sl 2 (Try.prog.cellsOf 59) (a.map (R59).enc)] = _
  rw [cells59]
  first | rfl | (congr 1; congr 1; exact congrArg (fun f => a.map f) (funext fun x => enc59 x))
theorem cells23 : Try.prog.cellsOf 23 = 1 := by kernel_rfl
noncomputable def R23 : Reader Try.prog 23 (List GCell) := rdSlice Try.underlying23 cells23 R61
theorem enc23 (a : List GCell) : (R23).enc a = [.sl 2 2 (GCell.row a)] := by
  show [V.sl 2 (Try.prog.cellsOf 61) (a.map (R61).enc)] = _
  rw [cells61]
  first | rfl | (congr 1; congr 1; exact congrArg (fun f => a.map f) (funext fun x => enc61 x))
theorem cells24 : Try.prog.cellsOf 24 = 1 := by kernel_rfl
noncomputable def R24 : Reader Try.prog 24 (List GTenant) := rdSlice Try.underlying24 cells24 R38
theorem enc24 (a : List GTenant) : (R24).enc a = [.sl 2 7 (GTenant.row a)] := by
  show [V.sl 2 (Try.prog.cellsOf 38) (a.map (R38).enc)] = _
  rw [cells38]
  first | rfl | (congr 1; congr 1; exact congrArg (fun f => a.map f) (funext fun x => enc38 x))
theorem cells25 : Try.prog.cellsOf 25 = 1 := by kernel_rfl
noncomputable def R25 : Reader Try.prog 25 (List GVersion) := rdSlice Try.underlying25 cells25 R63
theorem enc25 (a : List GVersion) : (R25).enc a = [.sl 2 2 (GVersion.row a)] := by
  show [V.sl 2 (Try.prog.cellsOf 63) (a.map (R63).enc)] = _
  rw [cells63]
  first | rfl | (congr 1; congr 1; exact congrArg (fun f => a.map f) (funext fun x => enc63 x))
theorem cells28 : Try.prog.cellsOf 28 = 10 := by kernel_rfl
noncomputable def Q28 : FReader Try.prog [⟨ "Regions", 3, 0, false, "", "", 0⟩, ⟨ "Zones", 22, 1, false, "", "", 8⟩, ⟨ "Cells", 23, 2, false, "", "", 32⟩, ⟨ "Tenants", 24, 3, false, "", "", 56⟩, ⟨ "Versions", 25, 4, false, "", "", 80⟩, ⟨ "Replicas", 26, 5, false, "", "", 104⟩, ⟨ "Observers", 26, 6, false, "", "", 128⟩, ⟨ "Blast", 3, 7, false, "", "", 152⟩, ⟨ "Lease", 3, 8, false, "", "", 160⟩, ⟨ "Bake", 3, 9, false, "", "", 168⟩] 0 (Int × (List GZone) × (List GCell) × (List GTenant) × (List GVersion) × (List Int) × (List Int) × Int × Int × Int × Unit) := frCons (f := ⟨ "Regions", 3, 0, false, "", "", 0⟩) (off := 0) (off' := 1) R3 (frCons (f := ⟨ "Zones", 22, 1, false, "", "", 8⟩) (off := 1) (off' := 2) R22 (frCons (f := ⟨ "Cells", 23, 2, false, "", "", 32⟩) (off := 2) (off' := 3) R23 (frCons (f := ⟨ "Tenants", 24, 3, false, "", "", 56⟩) (off := 3) (off' := 4) R24 (frCons (f := ⟨ "Versions", 25, 4, false, "", "", 80⟩) (off := 4) (off' := 5) R25 (frCons (f := ⟨ "Replicas", 26, 5, false, "", "", 104⟩) (off := 5) (off' := 6) R26 (frCons (f := ⟨ "Observers", 26, 6, false, "", "", 128⟩) (off := 6) (off' := 7) R26 (frCons (f := ⟨ "Blast", 3, 7, false, "", "", 152⟩) (off := 7) (off' := 8) R3 (frCons (f := ⟨ "Lease", 3, 8, false, "", "", 160⟩) (off := 8) (off' := 9) R3 (frCons (f := ⟨ "Bake", 3, 9, false, "", "", 168⟩) (off := 9) (off' := 10) R3 (frNil) rfl (by rw [show Try.prog.cellsOf 3 = 1 from cells3])) rfl (by rw [show Try.prog.cellsOf 3 = 1 from cells3])) rfl (by rw [show Try.prog.cellsOf 3 = 1 from cells3])) rfl (by rw [show Try.prog.cellsOf 26 = 1 from cells26])) rfl (by rw [show Try.prog.cellsOf 26 = 1 from cells26])) rfl (by rw [show Try.prog.cellsOf 25 = 1 from cells25])) rfl (by rw [show Try.prog.cellsOf 24 = 1 from cells24])) rfl (by rw [show Try.prog.cellsOf 23 = 1 from cells23])) rfl (by rw [show Try.prog.cellsOf 22 = 1 from cells22])) rfl (by rw [show Try.prog.cellsOf 3 = 1 from cells3])
noncomputable def R28 : Reader Try.prog 28 GConfig := rdStruct Try.underlying28 Q28 (by rw [cells28]; simp [Q28, frCons, frNil, cells22, cells23, cells24, cells25, cells26, cells3]) (fun b => ⟨b.1, b.2.1, b.2.2.1, b.2.2.2.1, b.2.2.2.2.1, b.2.2.2.2.2.1, b.2.2.2.2.2.2.1, b.2.2.2.2.2.2.2.1, b.2.2.2.2.2.2.2.2.1, b.2.2.2.2.2.2.2.2.2.1⟩) GConfig.cells (fun b => by
    show _ = (R3).enc b.1 ++ ((R22).enc b.2.1 ++ ((R23).enc b.2.2.1 ++ ((R24).enc b.2.2.2.1 ++ ((R25).enc b.2.2.2.2.1 ++ ((R26).enc b.2.2.2.2.2.1 ++ ((R26).enc b.2.2.2.2.2.2.1 ++ ((R3).enc b.2.2.2.2.2.2.2.1 ++ ((R3).enc b.2.2.2.2.2.2.2.2.1 ++ ((R3).enc b.2.2.2.2.2.2.2.2.2.1 ++ (([] : List V)))))))))))
    have h1 := enc22 (b.2.1); have h2 := enc23 (b.2.2.1); have h3 := enc24 (b.2.2.2.1); have h4 := enc25 (b.2.2.2.2.1); have h5 := enc26 (b.2.2.2.2.2.1); have h6 := enc26 (b.2.2.2.2.2.2.1);
    rw [h1, h2, h3, h4, h5, h6]; rfl) (fun a => ⟨⟨a.Regions, a.Zones, a.Cells, a.Tenants, a.Versions, a.Replicas, a.Observers, a.Blast, a.Lease, a.Bake, ()⟩, rfl⟩) GConfig.ok (fun b h => by
    obtain ⟨o0, o1, o2, o3, o4, o5, o6, o7, o8, o9, _⟩ := h
    exact ⟨wf_i64 o0, (fun y hy => o1 y hy), (fun y hy => o2 y hy), (fun y hy => o3 y hy), (fun y hy => o4 y hy), (fun y hy => wf_i64 (o5 y hy)), (fun y hy => wf_i64 (o6 y hy)), wf_i64 o7, wf_i64 o8, wf_i64 o9⟩) (fun _ => 0) (fun _ => Nat.zero_le _)
theorem enc28 (a : GConfig) : (R28).enc a = a.cells := rfl
theorem arg2 {H : Type} {eh : TypeId × Value → H} {w W0 : World} {r : Reach} {b0 : Nat} {v : Value} {d : DataW H} {ps : List MemPlace} (hval : Value.okWide Try.prog W0 r b0 2 v) (hd : DataW.Trod eh Try.prog w 0 (fun _ => true) true 2 v d ps) (hb : Rows.uptoBulk d ≤ 1048576) : ∃ a : Int, Rd w (fun b => b < w.heap.size) noG ((fun a : Int => V.int .i64 a) a) v ∧ (In64 a) := by
  obtain ⟨a, h0, h1, h2⟩ := (R2).cell (e := fun a : Int => V.int .i64 a) (fun _ => rfl) (fun h => cells_int Try.underlying2 h) hval hd
  have h2 := Nat.le_trans (h2 _ meas) hb
  exact ⟨a, h0, wf_i64 h1⟩
theorem sarg2 {H : Type} {eh : TypeId × Value → H} {w W0 : World} {r : Reach} {b0 : Nat} {v : Value} {d : DataW H} {ps : List MemPlace} (hval : Value.okWide Try.prog W0 r b0 2 v) (hd : DataW.Trod eh Try.prog w 0 (fun _ => true) true 2 v d ps) : ∃ a : Int, Rd w (fun b => b < w.heap.size) noG ((fun a : Int => V.int .i64 a) a) v ∧ (In64 a) := by
  obtain ⟨a, h0, h1, h2⟩ := (R2).cell (e := fun a : Int => V.int .i64 a) (fun _ => rfl) (fun h => cells_int Try.underlying2 h) hval hd
  exact ⟨a, h0, wf_i64 h1⟩
theorem arg3 {H : Type} {eh : TypeId × Value → H} {w W0 : World} {r : Reach} {b0 : Nat} {v : Value} {d : DataW H} {ps : List MemPlace} (hval : Value.okWide Try.prog W0 r b0 3 v) (hd : DataW.Trod eh Try.prog w 0 (fun _ => true) true 3 v d ps) (hb : Rows.uptoBulk d ≤ 1048576) : ∃ a : Int, Rd w (fun b => b < w.heap.size) noG ((fun a : Int => V.int .i64 a) a) v ∧ (In64 a) := by
  obtain ⟨a, h0, h1, h2⟩ := (R3).cell (e := fun a : Int => V.int .i64 a) (fun _ => rfl) (fun h => cells_int Try.underlying3 h) hval hd
  have h2 := Nat.le_trans (h2 _ meas) hb
  exact ⟨a, h0, wf_i64 h1⟩
theorem sarg3 {H : Type} {eh : TypeId × Value → H} {w W0 : World} {r : Reach} {b0 : Nat} {v : Value} {d : DataW H} {ps : List MemPlace} (hval : Value.okWide Try.prog W0 r b0 3 v) (hd : DataW.Trod eh Try.prog w 0 (fun _ => true) true 3 v d ps) : ∃ a : Int, Rd w (fun b => b < w.heap.size) noG ((fun a : Int => V.int .i64 a) a) v ∧ (In64 a) := by
  obtain ⟨a, h0, h1, h2⟩ := (R3).cell (e := fun a : Int => V.int .i64 a) (fun _ => rfl) (fun h => cells_int Try.underlying3 h) hval hd
  exact ⟨a, h0, wf_i64 h1⟩
theorem arg4 {H : Type} {eh : TypeId × Value → H} {w W0 : World} {r : Reach} {b0 : Nat} {v : Value} {d : DataW H} {ps : List MemPlace} (hval : Value.okWide Try.prog W0 r b0 4 v) (hd : DataW.Trod eh Try.prog w 0 (fun _ => true) true 4 v d ps) (hb : Rows.uptoBulk d ≤ 1048576) : ∃ a : Bool, Rd w (fun b => b < w.heap.size) noG ((fun a : Bool => V.bool a) a) v ∧ (True) := by
  obtain ⟨a, h0, h1, h2⟩ := (R4).cell (e := fun a : Bool => V.bool a) (fun _ => rfl) (fun h => cells_bool Try.underlying4 h) hval hd
  have h2 := Nat.le_trans (h2 _ meas) hb
  exact ⟨a, h0, trivial⟩
theorem sarg4 {H : Type} {eh : TypeId × Value → H} {w W0 : World} {r : Reach} {b0 : Nat} {v : Value} {d : DataW H} {ps : List MemPlace} (hval : Value.okWide Try.prog W0 r b0 4 v) (hd : DataW.Trod eh Try.prog w 0 (fun _ => true) true 4 v d ps) : ∃ a : Bool, Rd w (fun b => b < w.heap.size) noG ((fun a : Bool => V.bool a) a) v ∧ (True) := by
  obtain ⟨a, h0, h1, h2⟩ := (R4).cell (e := fun a : Bool => V.bool a) (fun _ => rfl) (fun h => cells_bool Try.underlying4 h) hval hd
  exact ⟨a, h0, trivial⟩
theorem arg5 {H : Type} {eh : TypeId × Value → H} {w W0 : World} {r : Reach} {b0 : Nat} {v : Value} {d : DataW H} {ps : List MemPlace} (hval : Value.okWide Try.prog W0 r b0 5 v) (hd : DataW.Trod eh Try.prog w 0 (fun _ => true) true 5 v d ps) (hb : Rows.uptoBulk d ≤ 1048576) : ∃ a : UInt8, Rd w (fun b => b < w.heap.size) noG ((fun a : UInt8 => V.int .u8 a.toNat) a) v ∧ (True) := by
  obtain ⟨a, h0, h1, h2⟩ := (R5).cell (e := fun a : UInt8 => V.int .u8 a.toNat) (fun _ => rfl) (fun h => cells_int Try.underlying5 h) hval hd
  have h2 := Nat.le_trans (h2 _ meas) hb
  exact ⟨a, h0, trivial⟩
theorem sarg5 {H : Type} {eh : TypeId × Value → H} {w W0 : World} {r : Reach} {b0 : Nat} {v : Value} {d : DataW H} {ps : List MemPlace} (hval : Value.okWide Try.prog W0 r b0 5 v) (hd : DataW.Trod eh Try.prog w 0 (fun _ => true) true 5 v d ps) : ∃ a : UInt8, Rd w (fun b => b < w.heap.size) noG ((fun a : UInt8 => V.int .u8 a.toNat) a) v ∧ (True) := by
  obtain ⟨a, h0, h1, h2⟩ := (R5).cell (e := fun a : UInt8 => V.int .u8 a.toNat) (fun _ => rfl) (fun h => cells_int Try.underlying5 h) hval hd
  exact ⟨a, h0, trivial⟩
theorem arg9 {H : Type} {eh : TypeId × Value → H} {w W0 : World} {r : Reach} {b0 : Nat} {v : Value} {d : DataW H} {ps : List MemPlace} (hval : Value.okWide Try.prog W0 r b0 9 v) (hd : DataW.Trod eh Try.prog w 0 (fun _ => true) true 9 v d ps) (hb : Rows.uptoBulk d ≤ 1048576) : ∃ a : ByteArray, Rd w (fun b => b < w.heap.size) noG ((fun a : ByteArray => V.str a) a) v ∧ (a.size ≤ 1048575) := by
  obtain ⟨a, h0, h1, h2⟩ := (R9).cell (e := fun a : ByteArray => V.str a) (fun _ => rfl) (fun h => cells_str Try.underlying9 h) hval hd
  have h2 := Nat.le_trans (h2 _ meas) hb
  exact ⟨a, h0, by have h2 : a.size + 1 ≤ 1048576 := h2; omega⟩
theorem sarg9 {H : Type} {eh : TypeId × Value → H} {w W0 : World} {r : Reach} {b0 : Nat} {v : Value} {d : DataW H} {ps : List MemPlace} (hval : Value.okWide Try.prog W0 r b0 9 v) (hd : DataW.Trod eh Try.prog w 0 (fun _ => true) true 9 v d ps) : ∃ a : ByteArray, Rd w (fun b => b < w.heap.size) noG ((fun a : ByteArray => V.str a) a) v ∧ (a.size ≤ 9223372036854775807) := by
  obtain ⟨a, h0, h1, h2⟩ := (R9).cell (e := fun a : ByteArray => V.str a) (fun _ => rfl) (fun h => cells_str Try.underlying9 h) hval hd
  exact ⟨a, h0, h1⟩
theorem arg12 {H : Type} {eh : TypeId × Value → H} {w W0 : World} {r : Reach} {b0 : Nat} {v : Value} {d : DataW H} {ps : List MemPlace} (hval : Value.okWide Try.prog W0 r b0 12 v) (hd : DataW.Trod eh Try.prog w 0 (fun _ => true) true 12 v d ps) (hb : Rows.uptoBulk d ≤ 1048576) : ∃ a : Int, Rd w (fun b => b < w.heap.size) noG ((fun a : Int => V.int .u64 a) a) v ∧ (InU64 a) := by
  obtain ⟨a, h0, h1, h2⟩ := (R12).cell (e := fun a : Int => V.int .u64 a) (fun _ => rfl) (fun h => cells_int Try.underlying12 h) hval hd
  have h2 := Nat.le_trans (h2 _ meas) hb
  exact ⟨a, h0, wf_u64 h1⟩
theorem sarg12 {H : Type} {eh : TypeId × Value → H} {w W0 : World} {r : Reach} {b0 : Nat} {v : Value} {d : DataW H} {ps : List MemPlace} (hval : Value.okWide Try.prog W0 r b0 12 v) (hd : DataW.Trod eh Try.prog w 0 (fun _ => true) true 12 v d ps) : ∃ a : Int, Rd w (fun b => b < w.heap.size) noG ((fun a : Int => V.int .u64 a) a) v ∧ (InU64 a) := by
  obtain ⟨a, h0, h1, h2⟩ := (R12).cell (e := fun a : Int => V.int .u64 a) (fun _ => rfl) (fun h => cells_int Try.underlying12 h) hval hd
  exact ⟨a, h0, wf_u64 h1⟩
theorem arg26 {H : Type} {eh : TypeId × Value → H} {w W0 : World} {r : Reach} {b0 : Nat} {v : Value} {d : DataW H} {ps : List MemPlace} (hval : Value.okWide Try.prog W0 r b0 26 v) (hd : DataW.Trod eh Try.prog w 0 (fun _ => true) true 26 v d ps) (hb : Rows.uptoBulk d ≤ 1048576) : ∃ a : List Int, Rd w (fun b => b < w.heap.size) noG ((fun a : List Int => V.sl 2 1 (intRow a)) a) v ∧ (a.length ≤ 1048575 ∧ ∀ x ∈ a, In64 x) := by
  obtain ⟨a, h0, h1, h2⟩ := (R26).cell (e := fun a : List Int => V.sl 2 1 (intRow a)) (enc26) (fun h => cells_slice Try.underlying26 h) hval hd
  have h2 := Nat.le_trans (h2 _ meas) hb
  exact ⟨a, h0, ⟨by have := length_le_sum (R3).siz (R3).pos a; have h2 : (a.map (R3).siz).sum + 1 ≤ 1048576 := h2; omega, (fun y hy => wf_i64 (h1 y hy))⟩⟩
theorem sarg26 {H : Type} {eh : TypeId × Value → H} {w W0 : World} {r : Reach} {b0 : Nat} {v : Value} {d : DataW H} {ps : List MemPlace} (hval : Value.okWide Try.prog W0 r b0 26 v) (hd : DataW.Trod eh Try.prog w 0 (fun _ => true) true 26 v d ps) : ∃ a : List Int, Rd w (fun b => b < w.heap.size) noG ((fun a : List Int => V.sl 2 1 (intRow a)) a) v ∧ (a.length ≤ 9223372036854775807 ∧ ∀ x ∈ a, In64 x) := by
  obtain ⟨a, h0, h1, h2⟩ := (R26).cell (e := fun a : List Int => V.sl 2 1 (intRow a)) (enc26) (fun h => cells_slice Try.underlying26 h) hval hd
  exact ⟨a, h0, ⟨by have := Rd.sl_len h0; simpa using this, (fun y hy => wf_i64 (h1 y hy))⟩⟩
theorem arg34 {H : Type} {eh : TypeId × Value → H} {w W0 : World} {r : Reach} {b0 : Nat} {v : Value} {d : DataW H} {ps : List MemPlace} (hval : Value.okWide Try.prog W0 r b0 34 v) (hd : DataW.Trod eh Try.prog w 0 (fun _ => true) true 34 v d ps) (hb : Rows.uptoBulk d ≤ 1048576) : ∃ a : Int, Rd w (fun b => b < w.heap.size) noG ((fun a : Int => V.int .i64 a) a) v ∧ (In64 a) := by
  obtain ⟨a, h0, h1, h2⟩ := (R34).cell (e := fun a : Int => V.int .i64 a) (fun _ => rfl) (fun h => cells_int Try.underlying34 h) hval hd
  have h2 := Nat.le_trans (h2 _ meas) hb
  exact ⟨a, h0, wf_i64 h1⟩
theorem sarg34 {H : Type} {eh : TypeId × Value → H} {w W0 : World} {r : Reach} {b0 : Nat} {v : Value} {d : DataW H} {ps : List MemPlace} (hval : Value.okWide Try.prog W0 r b0 34 v) (hd : DataW.Trod eh Try.prog w 0 (fun _ => true) true 34 v d ps) : ∃ a : Int, Rd w (fun b => b < w.heap.size) noG ((fun a : Int => V.int .i64 a) a) v ∧ (In64 a) := by
  obtain ⟨a, h0, h1, h2⟩ := (R34).cell (e := fun a : Int => V.int .i64 a) (fun _ => rfl) (fun h => cells_int Try.underlying34 h) hval hd
  exact ⟨a, h0, wf_i64 h1⟩
theorem arg38 {H : Type} {eh : TypeId × Value → H} {w W0 : World} {r : Reach} {b0 : Nat} {v : Value} {d : DataW H} {ps : List MemPlace} (hval : Value.okWide Try.prog W0 r b0 38 v) (hd : DataW.Trod eh Try.prog w 0 (fun _ => true) true 38 v d ps) (_hb : Rows.uptoBulk d ≤ 1048576) : ∃ a : GTenant, Rd w (fun b => b < w.heap.size) noG (vTenant a) v ∧ GTenant.ok a := by
  obtain ⟨a, h0, h1, _⟩ := (R38).agg Try.underlying38 hval hd
  exact ⟨a, h0, h1⟩
theorem sarg38 {H : Type} {eh : TypeId × Value → H} {w W0 : World} {r : Reach} {b0 : Nat} {v : Value} {d : DataW H} {ps : List MemPlace} (hval : Value.okWide Try.prog W0 r b0 38 v) (hd : DataW.Trod eh Try.prog w 0 (fun _ => true) true 38 v d ps) : ∃ a : GTenant, Rd w (fun b => b < w.heap.size) noG (vTenant a) v ∧ GTenant.ok a := by
  obtain ⟨a, h0, h1, _⟩ := (R38).agg Try.underlying38 hval hd
  exact ⟨a, h0, h1⟩
theorem arg50 {H : Type} {eh : TypeId × Value → H} {w W0 : World} {r : Reach} {b0 : Nat} {v : Value} {d : DataW H} {ps : List MemPlace} (hval : Value.okWide Try.prog W0 r b0 50 v) (hd : DataW.Trod eh Try.prog w 0 (fun _ => true) true 50 v d ps) (hb : Rows.uptoBulk d ≤ 1048576) : ∃ a : Int, Rd w (fun b => b < w.heap.size) noG ((fun a : Int => V.int .u64 a) a) v ∧ (InU64 a) := by
  obtain ⟨a, h0, h1, h2⟩ := (R50).cell (e := fun a : Int => V.int .u64 a) (fun _ => rfl) (fun h => cells_int Try.underlying50 h) hval hd
  have h2 := Nat.le_trans (h2 _ meas) hb
  exact ⟨a, h0, wf_u64 h1⟩
theorem sarg50 {H : Type} {eh : TypeId × Value → H} {w W0 : World} {r : Reach} {b0 : Nat} {v : Value} {d : DataW H} {ps : List MemPlace} (hval : Value.okWide Try.prog W0 r b0 50 v) (hd : DataW.Trod eh Try.prog w 0 (fun _ => true) true 50 v d ps) : ∃ a : Int, Rd w (fun b => b < w.heap.size) noG ((fun a : Int => V.int .u64 a) a) v ∧ (InU64 a) := by
  obtain ⟨a, h0, h1, h2⟩ := (R50).cell (e := fun a : Int => V.int .u64 a) (fun _ => rfl) (fun h => cells_int Try.underlying50 h) hval hd
  exact ⟨a, h0, wf_u64 h1⟩
theorem arg59 {H : Type} {eh : TypeId × Value → H} {w W0 : World} {r : Reach} {b0 : Nat} {v : Value} {d : DataW H} {ps : List MemPlace} (hval : Value.okWide Try.prog W0 r b0 59 v) (hd : DataW.Trod eh Try.prog w 0 (fun _ => true) true 59 v d ps) (_hb : Rows.uptoBulk d ≤ 1048576) : ∃ a : GZone, Rd w (fun b => b < w.heap.size) noG (vZone a) v ∧ GZone.ok a := by
  obtain ⟨a, h0, h1, _⟩ := (R59).agg Try.underlying59 hval hd
  exact ⟨a, h0, h1⟩
theorem sarg59 {H : Type} {eh : TypeId × Value → H} {w W0 : World} {r : Reach} {b0 : Nat} {v : Value} {d : DataW H} {ps : List MemPlace} (hval : Value.okWide Try.prog W0 r b0 59 v) (hd : DataW.Trod eh Try.prog w 0 (fun _ => true) true 59 v d ps) : ∃ a : GZone, Rd w (fun b => b < w.heap.size) noG (vZone a) v ∧ GZone.ok a := by
  obtain ⟨a, h0, h1, _⟩ := (R59).agg Try.underlying59 hval hd
  exact ⟨a, h0, h1⟩
theorem arg61 {H : Type} {eh : TypeId × Value → H} {w W0 : World} {r : Reach} {b0 : Nat} {v : Value} {d : DataW H} {ps : List MemPlace} (hval : Value.okWide Try.prog W0 r b0 61 v) (hd : DataW.Trod eh Try.prog w 0 (fun _ => true) true 61 v d ps) (_hb : Rows.uptoBulk d ≤ 1048576) : ∃ a : GCell, Rd w (fun b => b < w.heap.size) noG (vCell a) v ∧ GCell.ok a := by
  obtain ⟨a, h0, h1, _⟩ := (R61).agg Try.underlying61 hval hd
  exact ⟨a, h0, h1⟩
theorem sarg61 {H : Type} {eh : TypeId × Value → H} {w W0 : World} {r : Reach} {b0 : Nat} {v : Value} {d : DataW H} {ps : List MemPlace} (hval : Value.okWide Try.prog W0 r b0 61 v) (hd : DataW.Trod eh Try.prog w 0 (fun _ => true) true 61 v d ps) : ∃ a : GCell, Rd w (fun b => b < w.heap.size) noG (vCell a) v ∧ GCell.ok a := by
  obtain ⟨a, h0, h1, _⟩ := (R61).agg Try.underlying61 hval hd
  exact ⟨a, h0, h1⟩
theorem arg63 {H : Type} {eh : TypeId × Value → H} {w W0 : World} {r : Reach} {b0 : Nat} {v : Value} {d : DataW H} {ps : List MemPlace} (hval : Value.okWide Try.prog W0 r b0 63 v) (hd : DataW.Trod eh Try.prog w 0 (fun _ => true) true 63 v d ps) (_hb : Rows.uptoBulk d ≤ 1048576) : ∃ a : GVersion, Rd w (fun b => b < w.heap.size) noG (vVersion a) v ∧ GVersion.ok a := by
  obtain ⟨a, h0, h1, _⟩ := (R63).agg Try.underlying63 hval hd
  exact ⟨a, h0, h1⟩
theorem sarg63 {H : Type} {eh : TypeId × Value → H} {w W0 : World} {r : Reach} {b0 : Nat} {v : Value} {d : DataW H} {ps : List MemPlace} (hval : Value.okWide Try.prog W0 r b0 63 v) (hd : DataW.Trod eh Try.prog w 0 (fun _ => true) true 63 v d ps) : ∃ a : GVersion, Rd w (fun b => b < w.heap.size) noG (vVersion a) v ∧ GVersion.ok a := by
  obtain ⟨a, h0, h1, _⟩ := (R63).agg Try.underlying63 hval hd
  exact ⟨a, h0, h1⟩
theorem arg76 {H : Type} {eh : TypeId × Value → H} {w W0 : World} {r : Reach} {b0 : Nat} {v : Value} {d : DataW H} {ps : List MemPlace} (hval : Value.okWide Try.prog W0 r b0 76 v) (hd : DataW.Trod eh Try.prog w 0 (fun _ => true) true 76 v d ps) (hb : Rows.uptoBulk d ≤ 1048576) : ∃ a : Int, Rd w (fun b => b < w.heap.size) noG ((fun a : Int => V.int .i64 a) a) v ∧ (In64 a) := by
  obtain ⟨a, h0, h1, h2⟩ := (R76).cell (e := fun a : Int => V.int .i64 a) (fun _ => rfl) (fun h => cells_int Try.underlying76 h) hval hd
  have h2 := Nat.le_trans (h2 _ meas) hb
  exact ⟨a, h0, wf_i64 h1⟩
theorem sarg76 {H : Type} {eh : TypeId × Value → H} {w W0 : World} {r : Reach} {b0 : Nat} {v : Value} {d : DataW H} {ps : List MemPlace} (hval : Value.okWide Try.prog W0 r b0 76 v) (hd : DataW.Trod eh Try.prog w 0 (fun _ => true) true 76 v d ps) : ∃ a : Int, Rd w (fun b => b < w.heap.size) noG ((fun a : Int => V.int .i64 a) a) v ∧ (In64 a) := by
  obtain ⟨a, h0, h1, h2⟩ := (R76).cell (e := fun a : Int => V.int .i64 a) (fun _ => rfl) (fun h => cells_int Try.underlying76 h) hval hd
  exact ⟨a, h0, wf_i64 h1⟩
theorem arg86 {H : Type} {eh : TypeId × Value → H} {w W0 : World} {r : Reach} {b0 : Nat} {v : Value} {d : DataW H} {ps : List MemPlace} (hval : Value.okWide Try.prog W0 r b0 86 v) (hd : DataW.Trod eh Try.prog w 0 (fun _ => true) true 86 v d ps) (hb : Rows.uptoBulk d ≤ 1048576) : ∃ a : Int, Rd w (fun b => b < w.heap.size) noG ((fun a : Int => V.int .u64 a) a) v ∧ (InU64 a) := by
  obtain ⟨a, h0, h1, h2⟩ := (R86).cell (e := fun a : Int => V.int .u64 a) (fun _ => rfl) (fun h => cells_int Try.underlying86 h) hval hd
  have h2 := Nat.le_trans (h2 _ meas) hb
  exact ⟨a, h0, wf_u64 h1⟩
theorem sarg86 {H : Type} {eh : TypeId × Value → H} {w W0 : World} {r : Reach} {b0 : Nat} {v : Value} {d : DataW H} {ps : List MemPlace} (hval : Value.okWide Try.prog W0 r b0 86 v) (hd : DataW.Trod eh Try.prog w 0 (fun _ => true) true 86 v d ps) : ∃ a : Int, Rd w (fun b => b < w.heap.size) noG ((fun a : Int => V.int .u64 a) a) v ∧ (InU64 a) := by
  obtain ⟨a, h0, h1, h2⟩ := (R86).cell (e := fun a : Int => V.int .u64 a) (fun _ => rfl) (fun h => cells_int Try.underlying86 h) hval hd
  exact ⟨a, h0, wf_u64 h1⟩
theorem arg87 {H : Type} {eh : TypeId × Value → H} {w W0 : World} {r : Reach} {b0 : Nat} {v : Value} {d : DataW H} {ps : List MemPlace} (hval : Value.okWide Try.prog W0 r b0 87 v) (hd : DataW.Trod eh Try.prog w 0 (fun _ => true) true 87 v d ps) (hb : Rows.uptoBulk d ≤ 1048576) : ∃ a : Int, Rd w (fun b => b < w.heap.size) noG ((fun a : Int => V.int .u64 a) a) v ∧ (InU64 a) := by
  obtain ⟨a, h0, h1, h2⟩ := (R87).cell (e := fun a : Int => V.int .u64 a) (fun _ => rfl) (fun h => cells_int Try.underlying87 h) hval hd
  have h2 := Nat.le_trans (h2 _ meas) hb
  exact ⟨a, h0, wf_u64 h1⟩
theorem sarg87 {H : Type} {eh : TypeId × Value → H} {w W0 : World} {r : Reach} {b0 : Nat} {v : Value} {d : DataW H} {ps : List MemPlace} (hval : Value.okWide Try.prog W0 r b0 87 v) (hd : DataW.Trod eh Try.prog w 0 (fun _ => true) true 87 v d ps) : ∃ a : Int, Rd w (fun b => b < w.heap.size) noG ((fun a : Int => V.int .u64 a) a) v ∧ (InU64 a) := by
  obtain ⟨a, h0, h1, h2⟩ := (R87).cell (e := fun a : Int => V.int .u64 a) (fun _ => rfl) (fun h => cells_int Try.underlying87 h) hval hd
  exact ⟨a, h0, wf_u64 h1⟩
theorem arg22 {H : Type} {eh : TypeId × Value → H} {w W0 : World} {r : Reach} {b0 : Nat} {v : Value} {d : DataW H} {ps : List MemPlace} (hval : Value.okWide Try.prog W0 r b0 22 v) (hd : DataW.Trod eh Try.prog w 0 (fun _ => true) true 22 v d ps) (hb : Rows.uptoBulk d ≤ 1048576) : ∃ a : List GZone, Rd w (fun b => b < w.heap.size) noG ((fun a : List GZone => V.sl 2 1 (GZone.row a)) a) v ∧ (a.length ≤ 1048575 ∧ ∀ x ∈ a, GZone.ok x) := by
  obtain ⟨a, h0, h1, h2⟩ := (R22).cell (e := fun a : List GZone => V.sl 2 1 (GZone.row a)) (enc22) (fun h => cells_slice Try.underlying22 h) hval hd
  have h2 := Nat.le_trans (h2 _ meas) hb
  exact ⟨a, h0, ⟨by have := length_le_sum (R59).siz (R59).pos a; have h2 : (a.map (R59).siz).sum + 1 ≤ 1048576 := h2; omega, (fun y hy => h1 y hy)⟩⟩
theorem sarg22 {H : Type} {eh : TypeId × Value → H} {w W0 : World} {r : Reach} {b0 : Nat} {v : Value} {d : DataW H} {ps : List MemPlace} (hval : Value.okWide Try.prog W0 r b0 22 v) (hd : DataW.Trod eh Try.prog w 0 (fun _ => true) true 22 v d ps) : ∃ a : List GZone, Rd w (fun b => b < w.heap.size) noG ((fun a : List GZone => V.sl 2 1 (GZone.row a)) a) v ∧ (a.length ≤ 9223372036854775807 ∧ ∀ x ∈ a, GZone.ok x) := by
  obtain ⟨a, h0, h1, h2⟩ := (R22).cell (e := fun a : List GZone => V.sl 2 1 (GZone.row a)) (enc22) (fun h => cells_slice Try.underlying22 h) hval hd
  exact ⟨a, h0, ⟨by have := Rd.sl_len h0; simpa using this, (fun y hy => h1 y hy)⟩⟩
theorem arg23 {H : Type} {eh : TypeId × Value → H} {w W0 : World} {r : Reach} {b0 : Nat} {v : Value} {d : DataW H} {ps : List MemPlace} (hval : Value.okWide Try.prog W0 r b0 23 v) (hd : DataW.Trod eh Try.prog w 0 (fun _ => true) true 23 v d ps) (hb : Rows.uptoBulk d ≤ 1048576) : ∃ a : List GCell, Rd w (fun b => b < w.heap.size) noG ((fun a : List GCell => V.sl 2 2 (GCell.row a)) a) v ∧ (a.length ≤ 1048575 ∧ ∀ x ∈ a, GCell.ok x) := by
  obtain ⟨a, h0, h1, h2⟩ := (R23).cell (e := fun a : List GCell => V.sl 2 2 (GCell.row a)) (enc23) (fun h => cells_slice Try.underlying23 h) hval hd
  have h2 := Nat.le_trans (h2 _ meas) hb
  exact ⟨a, h0, ⟨by have := length_le_sum (R61).siz (R61).pos a; have h2 : (a.map (R61).siz).sum + 1 ≤ 1048576 := h2; omega, (fun y hy => h1 y hy)⟩⟩
theorem sarg23 {H : Type} {eh : TypeId × Value → H} {w W0 : World} {r : Reach} {b0 : Nat} {v : Value} {d : DataW H} {ps : List MemPlace} (hval : Value.okWide Try.prog W0 r b0 23 v) (hd : DataW.Trod eh Try.prog w 0 (fun _ => true) true 23 v d ps) : ∃ a : List GCell, Rd w (fun b => b < w.heap.size) noG ((fun a : List GCell => V.sl 2 2 (GCell.row a)) a) v ∧ (a.length ≤ 9223372036854775807 ∧ ∀ x ∈ a, GCell.ok x) := by
  obtain ⟨a, h0, h1, h2⟩ := (R23).cell (e := fun a : List GCell => V.sl 2 2 (GCell.row a)) (enc23) (fun h => cells_slice Try.underlying23 h) hval hd
  exact ⟨a, h0, ⟨by have := Rd.sl_len h0; simpa using this, (fun y hy => h1 y hy)⟩⟩
theorem arg24 {H : Type} {eh : TypeId × Value → H} {w W0 : World} {r : Reach} {b0 : Nat} {v : Value} {d : DataW H} {ps : List MemPlace} (hval : Value.okWide Try.prog W0 r b0 24 v) (hd : DataW.Trod eh Try.prog w 0 (fun _ => true) true 24 v d ps) (hb : Rows.uptoBulk d ≤ 1048576) : ∃ a : List GTenant, Rd w (fun b => b < w.heap.size) noG ((fun a : List GTenant => V.sl 2 7 (GTenant.row a)) a) v ∧ (a.length ≤ 1048575 ∧ ∀ x ∈ a, GTenant.ok x) := by
  obtain ⟨a, h0, h1, h2⟩ := (R24).cell (e := fun a : List GTenant => V.sl 2 7 (GTenant.row a)) (enc24) (fun h => cells_slice Try.underlying24 h) hval hd
  have h2 := Nat.le_trans (h2 _ meas) hb
  exact ⟨a, h0, ⟨by have := length_le_sum (R38).siz (R38).pos a; have h2 : (a.map (R38).siz).sum + 1 ≤ 1048576 := h2; omega, (fun y hy => h1 y hy)⟩⟩
theorem sarg24 {H : Type} {eh : TypeId × Value → H} {w W0 : World} {r : Reach} {b0 : Nat} {v : Value} {d : DataW H} {ps : List MemPlace} (hval : Value.okWide Try.prog W0 r b0 24 v) (hd : DataW.Trod eh Try.prog w 0 (fun _ => true) true 24 v d ps) : ∃ a : List GTenant, Rd w (fun b => b < w.heap.size) noG ((fun a : List GTenant => V.sl 2 7 (GTenant.row a)) a) v ∧ (a.length ≤ 9223372036854775807 ∧ ∀ x ∈ a, GTenant.ok x) := by
  obtain ⟨a, h0, h1, h2⟩ := (R24).cell (e := fun a : List GTenant => V.sl 2 7 (GTenant.row a)) (enc24) (fun h => cells_slice Try.underlying24 h) hval hd
  exact ⟨a, h0, ⟨by have := Rd.sl_len h0; simpa using this, (fun y hy => h1 y hy)⟩⟩
theorem arg25 {H : Type} {eh : TypeId × Value → H} {w W0 : World} {r : Reach} {b0 : Nat} {v : Value} {d : DataW H} {ps : List MemPlace} (hval : Value.okWide Try.prog W0 r b0 25 v) (hd : DataW.Trod eh Try.prog w 0 (fun _ => true) true 25 v d ps) (hb : Rows.uptoBulk d ≤ 1048576) : ∃ a : List GVersion, Rd w (fun b => b < w.heap.size) noG ((fun a : List GVersion => V.sl 2 2 (GVersion.row a)) a) v ∧ (a.length ≤ 1048575 ∧ ∀ x ∈ a, GVersion.ok x) := by
  obtain ⟨a, h0, h1, h2⟩ := (R25).cell (e := fun a : List GVersion => V.sl 2 2 (GVersion.row a)) (enc25) (fun h => cells_slice Try.underlying25 h) hval hd
  have h2 := Nat.le_trans (h2 _ meas) hb
  exact ⟨a, h0, ⟨by have := length_le_sum (R63).siz (R63).pos a; have h2 : (a.map (R63).siz).sum + 1 ≤ 1048576 := h2; omega, (fun y hy => h1 y hy)⟩⟩
theorem sarg25 {H : Type} {eh : TypeId × Value → H} {w W0 : World} {r : Reach} {b0 : Nat} {v : Value} {d : DataW H} {ps : List MemPlace} (hval : Value.okWide Try.prog W0 r b0 25 v) (hd : DataW.Trod eh Try.prog w 0 (fun _ => true) true 25 v d ps) : ∃ a : List GVersion, Rd w (fun b => b < w.heap.size) noG ((fun a : List GVersion => V.sl 2 2 (GVersion.row a)) a) v ∧ (a.length ≤ 9223372036854775807 ∧ ∀ x ∈ a, GVersion.ok x) := by
  obtain ⟨a, h0, h1, h2⟩ := (R25).cell (e := fun a : List GVersion => V.sl 2 2 (GVersion.row a)) (enc25) (fun h => cells_slice Try.underlying25 h) hval hd
  exact ⟨a, h0, ⟨by have := Rd.sl_len h0; simpa using this, (fun y hy => h1 y hy)⟩⟩
theorem arg28 {H : Type} {eh : TypeId × Value → H} {w W0 : World} {r : Reach} {b0 : Nat} {v : Value} {d : DataW H} {ps : List MemPlace} (hval : Value.okWide Try.prog W0 r b0 28 v) (hd : DataW.Trod eh Try.prog w 0 (fun _ => true) true 28 v d ps) (_hb : Rows.uptoBulk d ≤ 1048576) : ∃ a : GConfig, Rd w (fun b => b < w.heap.size) noG (vConfig a) v ∧ GConfig.ok a := by
  obtain ⟨a, h0, h1, _⟩ := (R28).agg Try.underlying28 hval hd
  exact ⟨a, h0, h1⟩
theorem sarg28 {H : Type} {eh : TypeId × Value → H} {w W0 : World} {r : Reach} {b0 : Nat} {v : Value} {d : DataW H} {ps : List MemPlace} (hval : Value.okWide Try.prog W0 r b0 28 v) (hd : DataW.Trod eh Try.prog w 0 (fun _ => true) true 28 v d ps) : ∃ a : GConfig, Rd w (fun b => b < w.heap.size) noG (vConfig a) v ∧ GConfig.ok a := by
  obtain ⟨a, h0, h1, _⟩ := (R28).agg Try.underlying28 hval hd
  exact ⟨a, h0, h1⟩
end Go.Proofs.Ytccmghkfofmedaa
