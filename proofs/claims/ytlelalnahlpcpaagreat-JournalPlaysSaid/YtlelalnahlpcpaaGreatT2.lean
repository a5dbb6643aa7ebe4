/-
  How arguments of the program's types read.
-/
import Derived.Test.YtlelalnahlpcpaaGreatT1
import Derived.Test.YtlelalnahlpcpaaGreatPLD
set_option linter.unusedSimpArgs false
set_option linter.unusedVariables false
set_option maxRecDepth 20000
namespace Go.Proofs.YtlelalnahlpcpaaGreat
open Go.Lift

theorem laid : laidOutB Tryz.prog = true := by kernel_rfl
theorem own : ownKnob Tryz.prog.godebug = none := by kernel_rfl

theorem bulk_one {H : Type} (d : DataW H) : 1 ≤ Rows.uptoBulk d := by
  cases d with
  | lit l => cases l <;> simp [Rows.uptoBulk]
  | _ => simp [Rows.uptoBulk]
theorem bulk_all {H : Type} : ∀ l : List (DataW H), Rows.uptoBulkAll l = (l.map Rows.uptoBulk).sum
  | [] => by simp [Rows.uptoBulkAll]
  | d :: l => by simp [Rows.uptoBulkAll, bulk_all l]
theorem meas {H : Type} : Meas (Rows.uptoBulk (H := H)) := by
  refine ⟨bulk_one, fun b => by simp [Rows.uptoBulk], fun es sp => ?_, fun ps => ?_⟩
  · simp only [Rows.uptoBulk, bulk_all]; omega
  · simp only [Rows.uptoBulk, bulk_all]; omega
theorem bulk_le {H : Type} {l : List (DataW H)} (h : Rows.uptoSmall H l = true) : Rows.uptoBulkAll l ≤ 1048576 := of_decide_eq_true h
theorem glob0 {W : World} {I : Nat → Prop} (h : ∀ g, GLB g = none) : GlobAt W I := fun g cs hg => by rw [h g] at hg; cases hg
theorem bytes_eq (a b : ByteArray) : (a.toList == b.toList) = decide (a = b) := by
  rw [Bool.eq_iff_iff, beq_iff_eq, decide_eq_true_iff, ByteArray.toList_eq, ByteArray.toList_eq]
  exact ⟨fun h => by cases a; cases b; simp at h; simp [h], fun h => by rw [h]⟩
theorem part_le {H : Type} {d : DataW H} {l : List (DataW H)} (h : d ∈ l) : Rows.uptoBulk d ≤ Rows.uptoBulkAll l := by
  induction l with
  | nil => cases h
  | cons x r ih =>
    simp only [Rows.uptoBulkAll]
    rcases List.mem_cons.1 h with rfl | e
    · omega
    · have := ih e; omega

theorem cells2 : Tryz.prog.cellsOf 2 = 1 := by kernel_rfl
noncomputable def R2 : Reader Tryz.prog 2 Int := rdInt .i64 Tryz.underlying2 cells2
theorem cells3 : Tryz.prog.cellsOf 3 = 1 := by kernel_rfl
noncomputable def R3 : Reader Tryz.prog 3 Int := rdInt .i64 Tryz.underlying3 cells3
theorem cells4 : Tryz.prog.cellsOf 4 = 1 := by kernel_rfl
noncomputable def R4 : Reader Tryz.prog 4 Bool := rdBool Tryz.underlying4 cells4
theorem cells5 : Tryz.prog.cellsOf 5 = 1 := by kernel_rfl
noncomputable def R5 : Reader Tryz.prog 5 UInt8 := rdByte Tryz.underlying5 cells5
theorem cells9 : Tryz.prog.cellsOf 9 = 1 := by kernel_rfl
noncomputable def R9 : Reader Tryz.prog 9 ByteArray := rdStr Tryz.underlying9 cells9
theorem cells12 : Tryz.prog.cellsOf 12 = 1 := by kernel_rfl
noncomputable def R12 : Reader Tryz.prog 12 Int := rdInt .u64 Tryz.underlying12 cells12
theorem cells21 : Tryz.prog.cellsOf 21 = 1 := by kernel_rfl
noncomputable def R21 : Reader Tryz.prog 21 Int := rdInt .i32 Tryz.underlying21 cells21
theorem cells30 : Tryz.prog.cellsOf 30 = 3 := by kernel_rfl
noncomputable def Q30 : FReader Tryz.prog [⟨ "Which", 3, 0, false, "", "", 0⟩, ⟨ "A", 3, 1, false, "", "", 8⟩, ⟨ "B", 3, 2, false, "", "", 16⟩] 0 (Int × Int × Int × Unit) := frCons (f := ⟨ "Which", 3, 0, false, "", "", 0⟩) (off := 0) (off' := 1) R3 (frCons (f := ⟨ "A", 3, 1, false, "", "", 8⟩) (off := 1) (off' := 2) R3 (frCons (f := ⟨ "B", 3, 2, false, "", "", 16⟩) (off := 2) (off' := 3) R3 (frNil) rfl (by rw [show Tryz.prog.cellsOf 3 = 1 from cells3])) rfl (by rw [show Tryz.prog.cellsOf 3 = 1 from cells3])) rfl (by rw [show Tryz.prog.cellsOf 3 = 1 from cells3])
noncomputable def R30 : Reader Tryz.prog 30 GL08Act := rdStruct Tryz.underlying30 Q30 (by rw [cells30]; simp [Q30, frCons, frNil, cells3]) (fun b => ⟨b.1, b.2.1, b.2.2.1⟩) GL08Act.cells (fun b => by
    show _ = (R3).enc b.1 ++ ((R3).enc b.2.1 ++ ((R3).enc b.2.2.1 ++ (([] : List V))))
    
    rfl) (fun a => ⟨⟨a.Which, a.A, a.B, ()⟩, rfl⟩) GL08Act.ok (fun b h => by
    obtain ⟨o0, o1, o2, _⟩ := h
    exact ⟨wf_i64 o0, wf_i64 o1, wf_i64 o2⟩) (fun _ => 0) (fun _ => Nat.zero_le _)
theorem enc30 (a : GL08Act) : (R30).enc a = a.cells := rfl
theorem eqV_30 (x y : GL08Act) : eqV T 5 30 (vL08Act x) (vL08Act y) = some (decide (x = y)) := by
  obtain ⟨aWhich, aA, aB⟩ := x
  obtain ⟨bWhich, bA, bB⟩ := y
  simp [vL08Act, GL08Act.cells, eqV, eqF, bytes_eq]
  try rw [Bool.eq_iff_iff]; simp; try grind
@[simp] theorem eql_30 (x y : GL08Act) : aBin T .eql 30 (vL08Act x) (vL08Act y) = some (.bool (decide (x = y))) := by show (eqV T 5 30 (vL08Act x) (vL08Act y)).map V.bool = _; rw [eqV_30]; rfl
@[simp] theorem neq_30 (x y : GL08Act) : aBin T .neq 30 (vL08Act x) (vL08Act y) = some (.bool (!decide (x = y))) := by show (eqV T 5 30 (vL08Act x) (vL08Act y)).map (fun b => V.bool (!b)) = _; rw [eqV_30]; rfl
theorem cells32 : Tryz.prog.cellsOf 32 = 1 := by kernel_rfl
noncomputable def R32 : Reader Tryz.prog 32 (List UInt8) := rdSlice Tryz.underlying32 cells32 R5
theorem enc32 (a : List UInt8) : (R32).enc a = [.sl 2 1 (byteRow a)] := by
  show [V.sl 2 (Tryz.prog.cellsOf 5) (a.map (R5).enc)] = _
  rw [cells5]
  first | rfl | (congr 1; congr 1; exact congrArg (fun f => a.map f) (funext fun x => rfl))
theorem cells34 : Tryz.prog.cellsOf 34 = 1 := by kernel_rfl
noncomputable def R34 : Reader Tryz.prog 34 Int := rdInt .i64 Tryz.underlying34 cells34
theorem cells43 : Tryz.prog.cellsOf 43 = 9 := by kernel_rfl
noncomputable def Q43 : FReader Tryz.prog [⟨ "Kind", 3, 0, false, "", "", 0⟩, ⟨ "Tick", 3, 1, false, "", "", 8⟩, ⟨ "Tenant", 3, 2, false, "", "", 16⟩, ⟨ "Cell", 3, 3, false, "", "", 24⟩, ⟨ "Other", 3, 4, false, "", "", 32⟩, ⟨ "Epoch", 3, 5, false, "", "", 40⟩, ⟨ "From", 3, 6, false, "", "", 48⟩, ⟨ "Until", 3, 7, false, "", "", 56⟩, ⟨ "N", 3, 8, false, "", "", 64⟩] 0 (Int × Int × Int × Int × Int × Int × Int × Int × Int × Unit) := frCons (f := ⟨ "Kind", 3, 0, false, "", "", 0⟩) (off := 0) (off' := 1) R3 (frCons (f := ⟨ "Tick", 3, 1, false, "", "", 8⟩) (off := 1) (off' := 2) R3 (frCons (f := ⟨ "Tenant", 3, 2, false, "", "", 16⟩) (off := 2) (off' := 3) R3 (frCons (f := ⟨ "Cell", 3, 3, false, "", "", 24⟩) (off := 3) (off' := 4) R3 (frCons (f := ⟨ "Other", 3, 4, false, "", "", 32⟩) (off := 4) (off' := 5) R3 (frCons (f := ⟨ "Epoch", 3, 5, false, "", "", 40⟩) (off := 5) (off' := 6) R3 (frCons (f := ⟨ "From", 3, 6, false, "", "", 48⟩) (off := 6) (off' := 7) R3 (frCons (f := ⟨ "Until", 3, 7, false, "", "", 56⟩) (off := 7) (off' := 8) R3 (frCons (f := ⟨ "N", 3, 8, false, "", "", 64⟩) (off := 8) (off' := 9) R3 (frNil) rfl (by rw [show Tryz.prog.cellsOf 3 = 1 from cells3])) rfl (by rw [show Tryz.prog.cellsOf 3 = 1 from cells3])) rfl (by rw [show Tryz.prog.cellsOf 3 = 1 from cells3])) rfl (by rw [show Tryz.prog.cellsOf 3 = 1 from cells3])) rfl (by rw [show Tryz.prog.cellsOf 3 = 1 from cells3])) rfl (by rw [show Tryz.prog.cellsOf 3 = 1 from cells3])) rfl (by rw [show Tryz.prog.cellsOf 3 = 1 from cells3])) rfl (by rw [show Tryz.prog.cellsOf 3 = 1 from cells3])) rfl (by rw [show Tryz.prog.cellsOf 3 = 1 from cells3])
noncomputable def R43 : Reader Tryz.prog 43 GEntry := rdStruct Tryz.underlying43 Q43 (by rw [cells43]; simp [Q43, frCons, frNil, cells3]) (fun b => ⟨b.1, b.2.1, b.2.2.1, b.2.2.2.1, b.2.2.2.2.1, b.2.2.2.2.2.1, b.2.2.2.2.2.2.1, b.2.2.2.2.2.2.2.1, b.2.2.2.2.2.2.2.2.1⟩) GEntry.cells (fun b => by
    show _ = (R3).enc b.1 ++ ((R3).enc b.2.1 ++ ((R3).enc b.2.2.1 ++ ((R3).enc b.2.2.2.1 ++ ((R3).enc b.2.2.2.2.1 ++ ((R3).enc b.2.2.2.2.2.1 ++ ((R3).enc b.2.2.2.2.2.2.1 ++ ((R3).enc b.2.2.2.2.2.2.2.1 ++ ((R3).enc b.2.2.2.2.2.2.2.2.1 ++ (([] : List V))))))))))
    
    rfl) (fun a => ⟨⟨a.Kind, a.Tick, a.Tenant, a.Cell, a.Other, a.Epoch, a.From, a.Until, a.N, ()⟩, rfl⟩) GEntry.ok (fun b h => by
    obtain ⟨o0, o1, o2, o3, o4, o5, o6, o7, o8, _⟩ := h
    exact ⟨wf_i64 o0, wf_i64 o1, wf_i64 o2, wf_i64 o3, wf_i64 o4, wf_i64 o5, wf_i64 o6, wf_i64 o7, wf_i64 o8⟩) (fun _ => 0) (fun _ => Nat.zero_le _)
theorem enc43 (a : GEntry) : (R43).enc a = a.cells := rfl
theorem eqV_43 (x y : GEntry) : eqV T 5 43 (vEntry x) (vEntry y) = some (decide (x = y)) := by
  obtain ⟨aKind, aTick, aTenant, aCell, aOther, aEpoch, aFrom, aUntil, aN⟩ := x
  obtain ⟨bKind, bTick, bTenant, bCell, bOther, bEpoch, bFrom, bUntil, bN⟩ := y
  simp [vEntry, GEntry.cells, eqV, eqF, bytes_eq]
  try rw [Bool.eq_iff_iff]; simp; try grind
@[simp] theorem eql_43 (x y : GEntry) : aBin T .eql 43 (vEntry x) (vEntry y) = some (.bool (decide (x = y))) := by show (eqV T 5 43 (vEntry x) (vEntry y)).map V.bool = _; rw [eqV_43]; rfl
@[simp] theorem neq_43 (x y : GEntry) : aBin T .neq 43 (vEntry x) (vEntry y) = some (.bool (!decide (x = y))) := by show (eqV T 5 43 (vEntry x) (vEntry y)).map (fun b => V.bool (!b)) = _; rw [eqV_43]; rfl
theorem cells48 : Tryz.prog.cellsOf 48 = 1 := by kernel_rfl
noncomputable def R48 : Reader Tryz.prog 48 (List (List UInt8)) := rdSlice Tryz.underlying48 cells48 R32
theorem enc48 (a : List (List UInt8)) : (R48).enc a = [.sl 2 1 (listRow a)] := by
  show [V.sl 2 (Tryz.prog.cellsOf 32) (a.map (R32).enc)] = _
  rw [cells32]
  first | rfl | (congr 1; congr 1; exact congrArg (fun f => a.map f) (funext fun x => enc32 x))
theorem cells73 : Tryz.prog.cellsOf 73 = 10 := by kernel_rfl
noncomputable def Q73 : FReader Tryz.prog [⟨ "Term", 3, 0, false, "", "", 0⟩, ⟨ "Entry", 43, 1, false, "", "", 8⟩] 0 (Int × GEntry × Unit) := frCons (f := ⟨ "Term", 3, 0, false, "", "", 0⟩) (off := 0) (off' := 1) R3 (frCons (f := ⟨ "Entry", 43, 1, false, "", "", 8⟩) (off := 1) (off' := 10) R43 (frNil) rfl (by rw [show Tryz.prog.cellsOf 43 = 9 from cells43])) rfl (by rw [show Tryz.prog.cellsOf 3 = 1 from cells3])
noncomputable def R73 : Reader Tryz.prog 73 GLogged := rdStruct Tryz.underlying73 Q73 (by rw [cells73]; simp [Q73, frCons, frNil, cells3, cells43]) (fun b => ⟨b.1, b.2.1⟩) GLogged.cells (fun b => by
    show _ = (R3).enc b.1 ++ ((R43).enc b.2.1 ++ (([] : List V)))
    have h1 := enc43 (b.2.1);
    rw [h1]; rfl) (fun a => ⟨⟨a.Term, a.Entry, ()⟩, rfl⟩) GLogged.ok (fun b h => by
    obtain ⟨o0, o1, _⟩ := h
    exact ⟨wf_i64 o0, o1⟩) (fun _ => 0) (fun _ => Nat.zero_le _)
theorem enc73 (a : GLogged) : (R73).enc a = a.cells := rfl
theorem eqV_73 (x y : GLogged) : eqV T 5 73 (vLogged x) (vLogged y) = some (decide (x = y)) := by
  obtain ⟨aTerm, ⟨aEntryKind, aEntryTick, aEntryTenant, aEntryCell, aEntryOther, aEntryEpoch, aEntryFrom, aEntryUntil, aEntryN⟩⟩ := x
  obtain ⟨bTerm, ⟨bEntryKind, bEntryTick, bEntryTenant, bEntryCell, bEntryOther, bEntryEpoch, bEntryFrom, bEntryUntil, bEntryN⟩⟩ := y
  simp [vLogged, GEntry.cells, GLogged.cells, eqV, eqF, bytes_eq]
  try rw [Bool.eq_iff_iff]; simp; try grind
@[simp] theorem eql_73 (x y : GLogged) : aBin T .eql 73 (vLogged x) (vLogged y) = some (.bool (decide (x = y))) := by show (eqV T 5 73 (vLogged x) (vLogged y)).map V.bool = _; rw [eqV_73]; rfl
@[simp] theorem neq_73 (x y : GLogged) : aBin T .neq 73 (vLogged x) (vLogged y) = some (.bool (!decide (x = y))) := by show (eqV T 5 73 (vLogged x) (vLogged y)).map (fun b => V.bool (!b)) = _; rw [eqV_73]; rfl
theorem cells85 : Tryz.prog.cellsOf 85 = 1 := by kernel_rfl
noncomputable def R85 : Reader Tryz.prog 85 Int := rdInt .u64 Tryz.underlying85 cells85
theorem cells88 : Tryz.prog.cellsOf 88 = 1 := by kernel_rfl
noncomputable def R88 : Reader Tryz.prog 88 (List Int) := rdSlice Tryz.underlying88 cells88 R3
theorem enc88 (a : List Int) : (R88).enc a = [.sl 2 1 (intRow a)] := by
  show [V.sl 2 (Tryz.prog.cellsOf 3) (a.map (R3).enc)] = _
  rw [cells3]
  first | rfl | (congr 1; congr 1; exact congrArg (fun f => a.map f) (funext fun x => rfl))
theorem cells104 : Tryz.prog.cellsOf 104 = 1 := by kernel_rfl
noncomputable def R104 : Reader Tryz.prog 104 Int := rdInt .u64 Tryz.underlying104 cells104
theorem cells133 : Tryz.prog.cellsOf 133 = 1 := by kernel_rfl
noncomputable def R133 : Reader Tryz.prog 133 (List ByteArray) := rdSlice Tryz.underlying133 cells133 R9
theorem enc133 (a : List ByteArray) : (R133).enc a = [.sl 2 1 (strRow a)] := by
  show [V.sl 2 (Tryz.prog.cellsOf 9) (a.map (R9).enc)] = _
  rw [cells9]
  first | rfl | (congr 1; congr 1; exact congrArg (fun f => a.map f) (funext fun x => rfl))
theorem cells22 : Tryz.prog.cellsOf 22 = 1 := by kernel_rfl
noncomputable def R22 : Reader Tryz.prog 22 (List GL08Act) := rdSlice Tryz.underlying22 cells22 R30
theorem enc22 (a : List GL08Act) : (R22).enc a = [.sl 2 3 (GL08Act.row a)] := by
  show [V.sl 2 (Tryz.prog.cellsOf 30) (a.map (R30).enc)] = _
  rw [cells30]
  first | rfl | (congr 1; congr 1; exact congrArg (fun f => a.map f) (funext fun x => enc30 x))
theorem cells37 : Tryz.prog.cellsOf 37 = 1 := by kernel_rfl
noncomputable def R37 : Reader Tryz.prog 37 (List GLogged) := rdSlice Tryz.underlying37 cells37 R73
theorem enc37 (a : List GLogged) : (R37).enc a = [.sl 2 10 (GLogged.row a)] := by
  show [V.sl 2 (Tryz.prog.cellsOf 73) (a.map (R73).enc)] = _
  rw [cells73]
  first | rfl | (congr 1; congr 1; exact congrArg (fun f => a.map f) (funext fun x => enc73 x))
theorem arg2 {H : Type} {eh : TypeId × Value → H} {w W0 : World} {r : Reach} {b0 : Nat} {v : Value} {d : DataW H} {ps : List MemPlace} (hval : Value.okWide Tryz.prog W0 r b0 2 v) (hd : DataW.Trod eh Tryz.prog w 0 (fun _ => true) true 2 v d ps) (hb : Rows.uptoBulk d ≤ 1048576) : ∃ a : Int, Rd w (fun b => b < w.heap.size) noG ((fun a : Int => V.int .i64 a) a) v ∧ (In64 a) := by
  obtain ⟨a, h0, h1, h2⟩ := (R2).cell (e := fun a : Int => V.int .i64 a) (fun _ => rfl) (fun h => cells_int Tryz.underlying2 h) hval hd
  have h2 := Nat.le_trans (h2 _ meas) hb
  exact ⟨a, h0, wf_i64 h1⟩
theorem sarg2 {H : Type} {eh : TypeId × Value → H} {w W0 : World} {r : Reach} {b0 : Nat} {v : Value} {d : DataW H} {ps : List MemPlace} (hval : Value.okWide Tryz.prog W0 r b0 2 v) (hd : DataW.Trod eh Tryz.prog w 0 (fun _ => true) true 2 v d ps) : ∃ a : Int, Rd w (fun b => b < w.heap.size) noG ((fun a : Int => V.int .i64 a) a) v ∧ (In64 a) := by
  obtain ⟨a, h0, h1, h2⟩ := (R2).cell (e := fun a : Int => V.int .i64 a) (fun _ => rfl) (fun h => cells_int Tryz.underlying2 h) hval hd
  exact ⟨a, h0, wf_i64 h1⟩
theorem arg3 {H : Type} {eh : TypeId × Value → H} {w W0 : World} {r : Reach} {b0 : Nat} {v : Value} {d : DataW H} {ps : List MemPlace} (hval : Value.okWide Tryz.prog W0 r b0 3 v) (hd : DataW.Trod eh Tryz.prog w 0 (fun _ => true) true 3 v d ps) (hb : Rows.uptoBulk d ≤ 1048576) : ∃ a : Int, Rd w (fun b => b < w.heap.size) noG ((fun a : Int => V.int .i64 a) a) v ∧ (In64 a) := by
  obtain ⟨a, h0, h1, h2⟩ := (R3).cell (e := fun a : Int => V.int .i64 a) (fun _ => rfl) (fun h => cells_int Tryz.underlying3 h) hval hd
  have h2 := Nat.le_trans (h2 _ meas) hb
  exact ⟨a, h0, wf_i64 h1⟩
theorem sarg3 {H : Type} {eh : TypeId × Value → H} {w W0 : World} {r : Reach} {b0 : Nat} {v : Value} {d : DataW H} {ps : List MemPlace} (hval : Value.okWide Tryz.prog W0 r b0 3 v) (hd : DataW.Trod eh Tryz.prog w 0 (fun _ => true) true 3 v d ps) : ∃ a : Int, Rd w (fun b => b < w.heap.size) noG ((fun a : Int => V.int .i64 a) a) v ∧ (In64 a) := by
  obtain ⟨a, h0, h1, h2⟩ := (R3).cell (e := fun a : Int => V.int .i64 a) (fun _ => rfl) (fun h => cells_int Tryz.underlying3 h) hval hd
  exact ⟨a, h0, wf_i64 h1⟩
theorem arg4 {H : Type} {eh : TypeId × Value → H} {w W0 : World} {r : Reach} {b0 : Nat} {v : Value} {d : DataW H} {ps : List MemPlace} (hval : Value.okWide Tryz.prog W0 r b0 4 v) (hd : DataW.Trod eh Tryz.prog w 0 (fun _ => true) true 4 v d ps) (hb : Rows.uptoBulk d ≤ 1048576) : ∃ a : Bool, Rd w (fun b => b < w.heap.size) noG ((fun a : Bool => V.bool a) a) v ∧ (True) := by
  obtain ⟨a, h0, h1, h2⟩ := (R4).cell (e := fun a : Bool => V.bool a) (fun _ => rfl) (fun h => cells_bool Tryz.underlying4 h) hval hd
  have h2 := Nat.le_trans (h2 _ meas) hb
  exact ⟨a, h0, trivial⟩
theorem sarg4 {H : Type} {eh : TypeId × Value → H} {w W0 : World} {r : Reach} {b0 : Nat} {v : Value} {d : DataW H} {ps : List MemPlace} (hval : Value.okWide Tryz.prog W0 r b0 4 v) (hd : DataW.Trod eh Tryz.prog w 0 (fun _ => true) true 4 v d ps) : ∃ a : Bool, Rd w (fun b => b < w.heap.size) noG ((fun a : Bool => V.bool a) a) v ∧ (True) := by
  obtain ⟨a, h0, h1, h2⟩ := (R4).cell (e := fun a : Bool => V.bool a) (fun _ => rfl) (fun h => cells_bool Tryz.underlying4 h) hval hd
  exact ⟨a, h0, trivial⟩
theorem arg5 {H : Type} {eh : TypeId × Value → H} {w W0 : World} {r : Reach} {b0 : Nat} {v : Value} {d : DataW H} {ps : List MemPlace} (hval : Value.okWide Tryz.prog W0 r b0 5 v) (hd : DataW.Trod eh Tryz.prog w 0 (fun _ => true) true 5 v d ps) (hb : Rows.uptoBulk d ≤ 1048576) : ∃ a : UInt8, Rd w (fun b => b < w.heap.size) noG ((fun a : UInt8 => V.int .u8 a.toNat) a) v ∧ (True) := by
  obtain ⟨a, h0, h1, h2⟩ := (R5).cell (e := fun a : UInt8 => V.int .u8 a.toNat) (fun _ => rfl) (fun h => cells_int Tryz.underlying5 h) hval hd
  have h2 := Nat.le_trans (h2 _ meas) hb
  exact ⟨a, h0, trivial⟩
theorem sarg5 {H : Type} {eh : TypeId × Value → H} {w W0 : World} {r : Reach} {b0 : Nat} {v : Value} {d : DataW H} {ps : List MemPlace} (hval : Value.okWide Tryz.prog W0 r b0 5 v) (hd : DataW.Trod eh Tryz.prog w 0 (fun _ => true) true 5 v d ps) : ∃ a : UInt8, Rd w (fun b => b < w.heap.size) noG ((fun a : UInt8 => V.int .u8 a.toNat) a) v ∧ (True) := by
  obtain ⟨a, h0, h1, h2⟩ := (R5).cell (e := fun a : UInt8 => V.int .u8 a.toNat) (fun _ => rfl) (fun h => cells_int Tryz.underlying5 h) hval hd
  exact ⟨a, h0, trivial⟩
theorem arg9 {H : Type} {eh : TypeId × Value → H} {w W0 : World} {r : Reach} {b0 : Nat} {v : Value} {d : DataW H} {ps : List MemPlace} (hval : Value.okWide Tryz.prog W0 r b0 9 v) (hd : DataW.Trod eh Tryz.prog w 0 (fun _ => true) true 9 v d ps) (hb : Rows.uptoBulk d ≤ 1048576) : ∃ a : ByteArray, Rd w (fun b => b < w.heap.size) noG ((fun a : ByteArray => V.str a) a) v ∧ (a.size ≤ 1048575) := by
  obtain ⟨a, h0, h1, h2⟩ := (R9).cell (e := fun a : ByteArray => V.str a) (fun _ => rfl) (fun h => cells_str Tryz.underlying9 h) hval hd
  have h2 := Nat.le_trans (h2 _ meas) hb
  exact ⟨a, h0, by have h2 : a.size + 1 ≤ 1048576 := h2; omega⟩
theorem sarg9 {H : Type} {eh : TypeId × Value → H} {w W0 : World} {r : Reach} {b0 : Nat} {v : Value} {d : DataW H} {ps : List MemPlace} (hval : Value.okWide Tryz.prog W0 r b0 9 v) (hd : DataW.Trod eh Tryz.prog w 0 (fun _ => true) true 9 v d ps) : ∃ a : ByteArray, Rd w (fun b => b < w.heap.size) noG ((fun a : ByteArray => V.str a) a) v ∧ (a.size ≤ 9223372036854775807) := by
  obtain ⟨a, h0, h1, h2⟩ := (R9).cell (e := fun a : ByteArray => V.str a) (fun _ => rfl) (fun h => cells_str Tryz.underlying9 h) hval hd
  exact ⟨a, h0, h1⟩
theorem arg12 {H : Type} {eh : TypeId × Value → H} {w W0 : World} {r : Reach} {b0 : Nat} {v : Value} {d : DataW H} {ps : List MemPlace} (hval : Value.okWide Tryz.prog W0 r b0 12 v) (hd : DataW.Trod eh Tryz.prog w 0 (fun _ => true) true 12 v d ps) (hb : Rows.uptoBulk d ≤ 1048576) : ∃ a : Int, Rd w (fun b => b < w.heap.size) noG ((fun a : Int => V.int .u64 a) a) v ∧ (InU64 a) := by
  obtain ⟨a, h0, h1, h2⟩ := (R12).cell (e := fun a : Int => V.int .u64 a) (fun _ => rfl) (fun h => cells_int Tryz.underlying12 h) hval hd
  have h2 := Nat.le_trans (h2 _ meas) hb
  exact ⟨a, h0, wf_u64 h1⟩
theorem sarg12 {H : Type} {eh : TypeId × Value → H} {w W0 : World} {r : Reach} {b0 : Nat} {v : Value} {d : DataW H} {ps : List MemPlace} (hval : Value.okWide Tryz.prog W0 r b0 12 v) (hd : DataW.Trod eh Tryz.prog w 0 (fun _ => true) true 12 v d ps) : ∃ a : Int, Rd w (fun b => b < w.heap.size) noG ((fun a : Int => V.int .u64 a) a) v ∧ (InU64 a) := by
  obtain ⟨a, h0, h1, h2⟩ := (R12).cell (e := fun a : Int => V.int .u64 a) (fun _ => rfl) (fun h => cells_int Tryz.underlying12 h) hval hd
  exact ⟨a, h0, wf_u64 h1⟩
theorem arg30 {H : Type} {eh : TypeId × Value → H} {w W0 : World} {r : Reach} {b0 : Nat} {v : Value} {d : DataW H} {ps : List MemPlace} (hval : Value.okWide Tryz.prog W0 r b0 30 v) (hd : DataW.Trod eh Tryz.prog w 0 (fun _ => true) true 30 v d ps) (_hb : Rows.uptoBulk d ≤ 1048576) : ∃ a : GL08Act, Rd w (fun b => b < w.heap.size) noG (vL08Act a) v ∧ GL08Act.ok a := by
  obtain ⟨a, h0, h1, _⟩ := (R30).agg Tryz.underlying30 hval hd
  exact ⟨a, h0, h1⟩
theorem sarg30 {H : Type} {eh : TypeId × Value → H} {w W0 : World} {r : Reach} {b0 : Nat} {v : Value} {d : DataW H} {ps : List MemPlace} (hval : Value.okWide Tryz.prog W0 r b0 30 v) (hd : DataW.Trod eh Tryz.prog w 0 (fun _ => true) true 30 v d ps) : ∃ a : GL08Act, Rd w (fun b => b < w.heap.size) noG (vL08Act a) v ∧ GL08Act.ok a := by
  obtain ⟨a, h0, h1, _⟩ := (R30).agg Tryz.underlying30 hval hd
  exact ⟨a, h0, h1⟩
theorem arg32 {H : Type} {eh : TypeId × Value → H} {w W0 : World} {r : Reach} {b0 : Nat} {v : Value} {d : DataW H} {ps : List MemPlace} (hval : Value.okWide Tryz.prog W0 r b0 32 v) (hd : DataW.Trod eh Tryz.prog w 0 (fun _ => true) true 32 v d ps) (hb : Rows.uptoBulk d ≤ 1048576) : ∃ a : List UInt8, Rd w (fun b => b < w.heap.size) noG ((fun a : List UInt8 => V.sl 2 1 (byteRow a)) a) v ∧ (a.length ≤ 1048575) := by
  obtain ⟨a, h0, h1, h2⟩ := (R32).cell (e := fun a : List UInt8 => V.sl 2 1 (byteRow a)) (enc32) (fun h => cells_slice Tryz.underlying32 h) hval hd
  have h2 := Nat.le_trans (h2 _ meas) hb
  exact ⟨a, h0, by have := length_le_sum (R5).siz (R5).pos a; have h2 : (a.map (R5).siz).sum + 1 ≤ 1048576 := h2; omega⟩
theorem sarg32 {H : Type} {eh : TypeId × Value → H} {w W0 : World} {r : Reach} {b0 : Nat} {v : Value} {d : DataW H} {ps : List MemPlace} (hval : Value.okWide Tryz.prog W0 r b0 32 v) (hd : DataW.Trod eh Tryz.prog w 0 (fun _ => true) true 32 v d ps) : ∃ a : List UInt8, Rd w (fun b => b < w.heap.size) noG ((fun a : List UInt8 => V.sl 2 1 (byteRow a)) a) v ∧ (a.length ≤ 9223372036854775807) := by
  obtain ⟨a, h0, h1, h2⟩ := (R32).cell (e := fun a : List UInt8 => V.sl 2 1 (byteRow a)) (enc32) (fun h => cells_slice Tryz.underlying32 h) hval hd
  exact ⟨a, h0, by have := Rd.sl_len h0; simpa using this⟩
theorem arg34 {H : Type} {eh : TypeId × Value → H} {w W0 : World} {r : Reach} {b0 : Nat} {v : Value} {d : DataW H} {ps : List MemPlace} (hval : Value.okWide Tryz.prog W0 r b0 34 v) (hd : DataW.Trod eh Tryz.prog w 0 (fun _ => true) true 34 v d ps) (hb : Rows.uptoBulk d ≤ 1048576) : ∃ a : Int, Rd w (fun b => b < w.heap.size) noG ((fun a : Int => V.int .i64 a) a) v ∧ (In64 a) := by
  obtain ⟨a, h0, h1, h2⟩ := (R34).cell (e := fun a : Int => V.int .i64 a) (fun _ => rfl) (fun h => cells_int Tryz.underlying34 h) hval hd
  have h2 := Nat.le_trans (h2 _ meas) hb
  exact ⟨a, h0, wf_i64 h1⟩
theorem sarg34 {H : Type} {eh : TypeId × Value → H} {w W0 : World} {r : Reach} {b0 : Nat} {v : Value} {d : DataW H} {ps : List MemPlace} (hval : Value.okWide Tryz.prog W0 r b0 34 v) (hd : DataW.Trod eh Tryz.prog w 0 (fun _ => true) true 34 v d ps) : ∃ a : Int, Rd w (fun b => b < w.heap.size) noG ((fun a : Int => V.int .i64 a) a) v ∧ (In64 a) := by
  obtain ⟨a, h0, h1, h2⟩ := (R34).cell (e := fun a : Int => V.int .i64 a) (fun _ => rfl) (fun h => cells_int Tryz.underlying34 h) hval hd
  exact ⟨a, h0, wf_i64 h1⟩
theorem arg43 {H : Type} {eh : TypeId × Value → H} {w W0 : World} {r : Reach} {b0 : Nat} {v : Value} {d : DataW H} {ps : List MemPlace} (hval : Value.okWide Tryz.prog W0 r b0 43 v) (hd : DataW.Trod eh Tryz.prog w 0 (fun _ => true) true 43 v d ps) (_hb : Rows.uptoBulk d ≤ 1048576) : ∃ a : GEntry, Rd w (fun b => b < w.heap.size) noG (vEntry a) v ∧ GEntry.ok a := by
  obtain ⟨a, h0, h1, _⟩ := (R43).agg Tryz.underlying43 hval hd
  exact ⟨a, h0, h1⟩
theorem sarg43 {H : Type} {eh : TypeId × Value → H} {w W0 : World} {r : Reach} {b0 : Nat} {v : Value} {d : DataW H} {ps : List MemPlace} (hval : Value.okWide Tryz.prog W0 r b0 43 v) (hd : DataW.Trod eh Tryz.prog w 0 (fun _ => true) true 43 v d ps) : ∃ a : GEntry, Rd w (fun b => b < w.heap.size) noG (vEntry a) v ∧ GEntry.ok a := by
  obtain ⟨a, h0, h1, _⟩ := (R43).agg Tryz.underlying43 hval hd
  exact ⟨a, h0, h1⟩
theorem arg48 {H : Type} {eh : TypeId × Value → H} {w W0 : World} {r : Reach} {b0 : Nat} {v : Value} {d : DataW H} {ps : List MemPlace} (hval : Value.okWide Tryz.prog W0 r b0 48 v) (hd : DataW.Trod eh Tryz.prog w 0 (fun _ => true) true 48 v d ps) (hb : Rows.uptoBulk d ≤ 1048576) : ∃ a : List (List UInt8), Rd w (fun b => b < w.heap.size) noG ((fun a : List (List UInt8) => V.sl 2 1 (listRow a)) a) v ∧ (a.length ≤ 1048575 ∧ ∀ x ∈ a, x.length ≤ 1048575) := by
  obtain ⟨a, h0, h1, h2⟩ := (R48).cell (e := fun a : List (List UInt8) => V.sl 2 1 (listRow a)) (enc48) (fun h => cells_slice Tryz.underlying48 h) hval hd
  have h2 := Nat.le_trans (h2 _ meas) hb
  exact ⟨a, h0, ⟨by have := length_le_sum (R32).siz (R32).pos a; have h2 : (a.map (R32).siz).sum + 1 ≤ 1048576 := h2; omega, fun x hx => by have h3 := length_le_sum (R5).siz (R5).pos x; have h4 : (R32).siz x ≤ (a.map (R32).siz).sum := mem_le_sum (List.mem_map_of_mem hx); have h5 : (R32).siz x = (x.map (R5).siz).sum + 1 := rfl; have h2 : (a.map (R32).siz).sum + 1 ≤ 1048576 := h2; omega⟩⟩
theorem sarg48 {H : Type} {eh : TypeId × Value → H} {w W0 : World} {r : Reach} {b0 : Nat} {v : Value} {d : DataW H} {ps : List MemPlace} (hval : Value.okWide Tryz.prog W0 r b0 48 v) (hd : DataW.Trod eh Tryz.prog w 0 (fun _ => true) true 48 v d ps) : ∃ a : List (List UInt8), Rd w (fun b => b < w.heap.size) noG ((fun a : List (List UInt8) => V.sl 2 1 (listRow a)) a) v ∧ (a.length ≤ 9223372036854775807 ∧ ∀ x ∈ a, x.length ≤ 9223372036854775807) := by
  obtain ⟨a, h0, h1, h2⟩ := (R48).cell (e := fun a : List (List UInt8) => V.sl 2 1 (listRow a)) (enc48) (fun h => cells_slice Tryz.underlying48 h) hval hd
  exact ⟨a, h0, ⟨by have := Rd.sl_len h0; simpa using this, fun x hx => rd_list h0 x hx⟩⟩
theorem arg73 {H : Type} {eh : TypeId × Value → H} {w W0 : World} {r : Reach} {b0 : Nat} {v : Value} {d : DataW H} {ps : List MemPlace} (hval : Value.okWide Tryz.prog W0 r b0 73 v) (hd : DataW.Trod eh Tryz.prog w 0 (fun _ => true) true 73 v d ps) (_hb : Rows.uptoBulk d ≤ 1048576) : ∃ a : GLogged, Rd w (fun b => b < w.heap.size) noG (vLogged a) v ∧ GLogged.ok a := by
  obtain ⟨a, h0, h1, _⟩ := (R73).agg Tryz.underlying73 hval hd
  exact ⟨a, h0, h1⟩
theorem sarg73 {H : Type} {eh : TypeId × Value → H} {w W0 : World} {r : Reach} {b0 : Nat} {v : Value} {d : DataW H} {ps : List MemPlace} (hval : Value.okWide Tryz.prog W0 r b0 73 v) (hd : DataW.Trod eh Tryz.prog w 0 (fun _ => true) true 73 v d ps) : ∃ a : GLogged, Rd w (fun b => b < w.heap.size) noG (vLogged a) v ∧ GLogged.ok a := by
  obtain ⟨a, h0, h1, _⟩ := (R73).agg Tryz.underlying73 hval hd
  exact ⟨a, h0, h1⟩
theorem arg85 {H : Type} {eh : TypeId × Value → H} {w W0 : World} {r : Reach} {b0 : Nat} {v : Value} {d : DataW H} {ps : List MemPlace} (hval : Value.okWide Tryz.prog W0 r b0 85 v) (hd : DataW.Trod eh Tryz.prog w 0 (fun _ => true) true 85 v d ps) (hb : Rows.uptoBulk d ≤ 1048576) : ∃ a : Int, Rd w (fun b => b < w.heap.size) noG ((fun a : Int => V.int .u64 a) a) v ∧ (InU64 a) := by
  obtain ⟨a, h0, h1, h2⟩ := (R85).cell (e := fun a : Int => V.int .u64 a) (fun _ => rfl) (fun h => cells_int Tryz.underlying85 h) hval hd
  have h2 := Nat.le_trans (h2 _ meas) hb
  exact ⟨a, h0, wf_u64 h1⟩
theorem sarg85 {H : Type} {eh : TypeId × Value → H} {w W0 : World} {r : Reach} {b0 : Nat} {v : Value} {d : DataW H} {ps : List MemPlace} (hval : Value.okWide Tryz.prog W0 r b0 85 v) (hd : DataW.Trod eh Tryz.prog w 0 (fun _ => true) true 85 v d ps) : ∃ a : Int, Rd w (fun b => b < w.heap.size) noG ((fun a : Int => V.int .u64 a) a) v ∧ (InU64 a) := by
  obtain ⟨a, h0, h1, h2⟩ := (R85).cell (e := fun a : Int => V.int .u64 a) (fun _ => rfl) (fun h => cells_int Tryz.underlying85 h) hval hd
  exact ⟨a, h0, wf_u64 h1⟩
theorem arg88 {H : Type} {eh : TypeId × Value → H} {w W0 : World} {r : Reach} {b0 : Nat} {v : Value} {d : DataW H} {ps : List MemPlace} (hval : Value.okWide Tryz.prog W0 r b0 88 v) (hd : DataW.Trod eh Tryz.prog w 0 (fun _ => true) true 88 v d ps) (hb : Rows.uptoBulk d ≤ 1048576) : ∃ a : List Int, Rd w (fun b => b < w.heap.size) noG ((fun a : List Int => V.sl 2 1 (intRow a)) a) v ∧ (a.length ≤ 1048575 ∧ ∀ x ∈ a, In64 x) := by
  obtain ⟨a, h0, h1, h2⟩ := (R88).cell (e := fun a : List Int => V.sl 2 1 (intRow a)) (enc88) (fun h => cells_slice Tryz.underlying88 h) hval hd
  have h2 := Nat.le_trans (h2 _ meas) hb
  exact ⟨a, h0, ⟨by have := length_le_sum (R3).siz (R3).pos a; have h2 : (a.map (R3).siz).sum + 1 ≤ 1048576 := h2; omega, (fun y hy => wf_i64 (h1 y hy))⟩⟩
theorem sarg88 {H : Type} {eh : TypeId × Value → H} {w W0 : World} {r : Reach} {b0 : Nat} {v : Value} {d : DataW H} {ps : List MemPlace} (hval : Value.okWide Tryz.prog W0 r b0 88 v) (hd : DataW.Trod eh Tryz.prog w 0 (fun _ => true) true 88 v d ps) : ∃ a : List Int, Rd w (fun b => b < w.heap.size) noG ((fun a : List Int => V.sl 2 1 (intRow a)) a) v ∧ (a.length ≤ 9223372036854775807 ∧ ∀ x ∈ a, In64 x) := by
  obtain ⟨a, h0, h1, h2⟩ := (R88).cell (e := fun a : List Int => V.sl 2 1 (intRow a)) (enc88) (fun h => cells_slice Tryz.underlying88 h) hval hd
  exact ⟨a, h0, ⟨by have := Rd.sl_len h0; simpa using this, (fun y hy => wf_i64 (h1 y hy))⟩⟩
theorem arg104 {H : Type} {eh : TypeId × Value → H} {w W0 : World} {r : Reach} {b0 : Nat} {v : Value} {d : DataW H} {ps : List MemPlace} (hval : Value.okWide Tryz.prog W0 r b0 104 v) (hd : DataW.Trod eh Tryz.prog w 0 (fun _ => true) true 104 v d ps) (hb : Rows.uptoBulk d ≤ 1048576) : ∃ a : Int, Rd w (fun b => b < w.heap.size) noG ((fun a : Int => V.int .u64 a) a) v ∧ (InU64 a) := by
  obtain ⟨a, h0, h1, h2⟩ := (R104).cell (e := fun a : Int => V.int .u64 a) (fun _ => rfl) (fun h => cells_int Tryz.underlying104 h) hval hd
  have h2 := Nat.le_trans (h2 _ meas) hb
  exact ⟨a, h0, wf_u64 h1⟩
theorem sarg104 {H : Type} {eh : TypeId × Value → H} {w W0 : World} {r : Reach} {b0 : Nat} {v : Value} {d : DataW H} {ps : List MemPlace} (hval : Value.okWide Tryz.prog W0 r b0 104 v) (hd : DataW.Trod eh Tryz.prog w 0 (fun _ => true) true 104 v d ps) : ∃ a : Int, Rd w (fun b => b < w.heap.size) noG ((fun a : Int => V.int .u64 a) a) v ∧ (InU64 a) := by
  obtain ⟨a, h0, h1, h2⟩ := (R104).cell (e := fun a : Int => V.int .u64 a) (fun _ => rfl) (fun h => cells_int Tryz.underlying104 h) hval hd
  exact ⟨a, h0, wf_u64 h1⟩
theorem arg133 {H : Type} {eh : TypeId × Value → H} {w W0 : World} {r : Reach} {b0 : Nat} {v : Value} {d : DataW H} {ps : List MemPlace} (hval : Value.okWide Tryz.prog W0 r b0 133 v) (hd : DataW.Trod eh Tryz.prog w 0 (fun _ => true) true 133 v d ps) (hb : Rows.uptoBulk d ≤ 1048576) : ∃ a : List ByteArray, Rd w (fun b => b < w.heap.size) noG ((fun a : List ByteArray => V.sl 2 1 (strRow a)) a) v ∧ (a.length ≤ 1048575) := by
  obtain ⟨a, h0, h1, h2⟩ := (R133).cell (e := fun a : List ByteArray => V.sl 2 1 (strRow a)) (enc133) (fun h => cells_slice Tryz.underlying133 h) hval hd
  have h2 := Nat.le_trans (h2 _ meas) hb
  exact ⟨a, h0, by have := length_le_sum (R9).siz (R9).pos a; have h2 : (a.map (R9).siz).sum + 1 ≤ 1048576 := h2; omega⟩
theorem sarg133 {H : Type} {eh : TypeId × Value → H} {w W0 : World} {r : Reach} {b0 : Nat} {v : Value} {d : DataW H} {ps : List MemPlace} (hval : Value.okWide Tryz.prog W0 r b0 133 v) (hd : DataW.Trod eh Tryz.prog w 0 (fun _ => true) true 133 v d ps) : ∃ a : List ByteArray, Rd w (fun b => b < w.heap.size) noG ((fun a : List ByteArray => V.sl 2 1 (strRow a)) a) v ∧ (a.length ≤ 9223372036854775807) := by
  obtain ⟨a, h0, h1, h2⟩ := (R133).cell (e := fun a : List ByteArray => V.sl 2 1 (strRow a)) (enc133) (fun h => cells_slice Tryz.underlying133 h) hval hd
  exact ⟨a, h0, by have := Rd.sl_len h0; simpa using this⟩
theorem arg22 {H : Type} {eh : TypeId × Value → H} {w W0 : World} {r : Reach} {b0 : Nat} {v : Value} {d : DataW H} {ps : List MemPlace} (hval : Value.okWide Tryz.prog W0 r b0 22 v) (hd : DataW.Trod eh Tryz.prog w 0 (fun _ => true) true 22 v d ps) (hb : Rows.uptoBulk d ≤ 1048576) : ∃ a : List GL08Act, Rd w (fun b => b < w.heap.size) noG ((fun a : List GL08Act => V.sl 2 3 (GL08Act.row a)) a) v ∧ (a.length ≤ 1048575 ∧ ∀ x ∈ a, GL08Act.ok x) := by
  obtain ⟨a, h0, h1, h2⟩ := (R22).cell (e := fun a : List GL08Act => V.sl 2 3 (GL08Act.row a)) (enc22) (fun h => cells_slice Tryz.underlying22 h) hval hd
  have h2 := Nat.le_trans (h2 _ meas) hb
  exact ⟨a, h0, ⟨by have := length_le_sum (R30).siz (R30).pos a; have h2 : (a.map (R30).siz).sum + 1 ≤ 1048576 := h2; omega, (fun y hy => h1 y hy)⟩⟩
theorem sarg22 {H : Type} {eh : TypeId × Value → H} {w W0 : World} {r : Reach} {b0 : Nat} {v : Value} {d : DataW H} {ps : List MemPlace} (hval : Value.okWide Tryz.prog W0 r b0 22 v) (hd : DataW.Trod eh Tryz.prog w 0 (fun _ => true) true 22 v d ps) : ∃ a : List GL08Act, Rd w (fun b => b < w.heap.size) noG ((fun a : List GL08Act => V.sl 2 3 (GL08Act.row a)) a) v ∧ (a.length ≤ 9223372036854775807 ∧ ∀ x ∈ a, GL08Act.ok x) := by
  obtain ⟨a, h0, h1, h2⟩ := (R22).cell (e := fun a : List GL08Act => V.sl 2 3 (GL08Act.row a)) (enc22) (fun h => cells_slice Tryz.underlying22 h) hval hd
  exact ⟨a, h0, ⟨by have := Rd.sl_len h0; simpa using this, (fun y hy => h1 y hy)⟩⟩
theorem arg37 {H : Type} {eh : TypeId × Value → H} {w W0 : World} {r : Reach} {b0 : Nat} {v : Value} {d : DataW H} {ps : List MemPlace} (hval : Value.okWide Tryz.prog W0 r b0 37 v) (hd : DataW.Trod eh Tryz.prog w 0 (fun _ => true) true 37 v d ps) (hb : Rows.uptoBulk d ≤ 1048576) : ∃ a : List GLogged, Rd w (fun b => b < w.heap.size) noG ((fun a : List GLogged => V.sl 2 10 (GLogged.row a)) a) v ∧ (a.length ≤ 1048575 ∧ ∀ x ∈ a, GLogged.ok x) := by
  obtain ⟨a, h0, h1, h2⟩ := (R37).cell (e := fun a : List GLogged => V.sl 2 10 (GLogged.row a)) (enc37) (fun h => cells_slice Tryz.underlying37 h) hval hd
  have h2 := Nat.le_trans (h2 _ meas) hb
  exact ⟨a, h0, ⟨by have := length_le_sum (R73).siz (R73).pos a; have h2 : (a.map (R73).siz).sum + 1 ≤ 1048576 := h2; omega, (fun y hy => h1 y hy)⟩⟩
theorem sarg37 {H : Type} {eh : TypeId × Value → H} {w W0 : World} {r : Reach} {b0 : Nat} {v : Value} {d : DataW H} {ps : List MemPlace} (hval : Value.okWide Tryz.prog W0 r b0 37 v) (hd : DataW.Trod eh Tryz.prog w 0 (fun _ => true) true 37 v d ps) : ∃ a : List GLogged, Rd w (fun b => b < w.heap.size) noG ((fun a : List GLogged => V.sl 2 10 (GLogged.row a)) a) v ∧ (a.length ≤ 9223372036854775807 ∧ ∀ x ∈ a, GLogged.ok x) := by
  obtain ⟨a, h0, h1, h2⟩ := (R37).cell (e := fun a : List GLogged => V.sl 2 10 (GLogged.row a)) (enc37) (fun h => cells_slice Tryz.underlying37 h) hval hd
  exact ⟨a, h0, ⟨by have := Rd.sl_len h0; simpa using this, (fun y hy => h1 y hy)⟩⟩
end Go.Proofs.YtlelalnahlpcpaaGreat
