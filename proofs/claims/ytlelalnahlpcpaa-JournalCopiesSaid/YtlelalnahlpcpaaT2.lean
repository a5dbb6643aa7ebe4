/-
  How arguments of the program's types read.
-/
import Derived.Test.YtlelalnahlpcpaaT1
import Derived.Test.YtlelalnahlpcpaaPLD
set_option linter.unusedSimpArgs false
set_option linter.unusedVariables false
set_option maxRecDepth 20000
namespace Go.Proofs.Ytlelalnahlpcpaa
open Go.Lift

theorem laid : laidOutB Try.prog = true := by kernel_rfl
theorem own : ownKnob Try.prog.godebug = none := by kernel_rfl

theorem bulk_one {H : Type} (d : DataW H) : 1 ≤ Rows.uptoBulk d := by
  cases d with
  | lit l => cases l <;> simp [Rows.uptoBulk]
  | _ => simp [Rows.uptoBulk]
theorem bulk_all {H : Type} : ∀ l : List (DataW H), Rows.uptoBulkAll l = (l.map Rows.uptoBulk).sum
  | [] => by simp [Rows.uptoBulkAll]
  | d :: l => by simp [Rows.uptoBulkAll, bulk_all l]
theorem meas {H : Type} : Meas (Rows.uptoBulk (H := H)) := by
  refine ⟨bulk_one, fun b => by simp [Rows.uptoBulk], fun es sp => ?_, fun ps => ?_⟩
  · simp only [Rows.uptoBulk, bulk_all]; omega
  · simp only [Rows.uptoBulk, bulk_all]; omega
theorem bulk_le {H : Type} {l : List (DataW H)} (h : Rows.uptoSmall H l = true) : Rows.uptoBulkAll l ≤ 1048576 := of_decide_eq_true h
theorem glob0 {W : World} {I : Nat → Prop} (h : ∀ g, GLB g = none) : GlobAt W I := fun g cs hg => by rw [h g] at hg; cases hg
theorem bytes_eq (a b : ByteArray) : (a.toList == b.toList) = decide (a = b) := by
  rw [Bool.eq_iff_iff, beq_iff_eq, decide_eq_true_iff, ByteArray.toList_eq, ByteArray.toList_eq]
  exact ⟨fun h => by cases a; cases b; simp at h; simp [h], fun h => by rw [h]⟩
theorem part_le {H : Type} {d : DataW H} {l : List (DataW H)} (h : d ∈ l) : Rows.uptoBulk d ≤ Rows.uptoBulkAll l := by
  induction l with
  | nil => cases h
  | cons x r ih =>
    simp only [Rows.uptoBulkAll]
    rcases List.mem_cons.1 h with rfl | e
    · omega
    · have := ih e; omega

theorem cells2 : Try.prog.cellsOf 2 = 1 := by kernel_rfl
noncomputable def R2 : Reader Try.prog 2 Int := rdInt .i64 Try.underlying2 cells2
theorem cells3 : Try.prog.cellsOf 3 = 1 := by kernel_rfl
noncomputable def R3 : Reader Try.prog 3 Int := rdInt .i64 Try.underlying3 cells3
theorem cells4 : Try.prog.cellsOf 4 = 1 := by kernel_rfl
noncomputable def R4 : Reader Try.prog 4 Bool := rdBool Try.underlying4 cells4
theorem cells5 : Try.prog.cellsOf 5 = 1 := by kernel_rfl
noncomputable def R5 : Reader Try.prog 5 UInt8 := rdByte Try.underlying5 cells5
theorem cells9 : Try.prog.cellsOf 9 = 1 := by kernel_rfl
noncomputable def R9 : Reader Try.prog 9 ByteArray := rdStr Try.underlying9 cells9
theorem cells12 : Try.prog.cellsOf 12 = 1 := by kernel_rfl
noncomputable def R12 : Reader Try.prog 12 Int := rdInt .u64 Try.underlying12 cells12
theorem cells21 : Try.prog.cellsOf 21 = 1 := by kernel_rfl
noncomputable def R21 : Reader Try.prog 21 Int := rdInt .i32 Try.underlying21 cells21
theorem cells22 : Try.prog.cellsOf 22 = 1 := by kernel_rfl
noncomputable def R22 : Reader Try.prog 22 (List Int) := rdSlice Try.underlying22 cells22 R3
theorem enc22 (a : List Int) : (R22).enc a = [.sl 2 1 (intRow a)] := by
  show [V.sl 2 (Try.prog.cellsOf 3) (a.map (R3).enc)] = _
  rw [cells3]
  first | rfl | (congr 1; congr 1; exact congrArg (fun f => a.map f) (funext fun x => rfl))
theorem cells31 : Try.prog.cellsOf 31 = 9 := by kernel_rfl
noncomputable def Q31 : FReader Try.prog [⟨ "Kind", 3, 0, false, "", "", 0⟩, ⟨ "Tick", 3, 1, false, "", "", 8⟩, ⟨ "Tenant", 3, 2, false, "", "", 16⟩, ⟨ "Cell", 3, 3, false, "", "", 24⟩, ⟨ "Other", 3, 4, false, "", "", 32⟩, ⟨ "Epoch", 3, 5, false, "", "", 40⟩, ⟨ "From", 3, 6, false, "", "", 48⟩, ⟨ "Until", 3, 7, false, "", "", 56⟩, ⟨ "N", 3, 8, false, "", "", 64⟩] 0 (Int × Int × Int × Int × Int × Int × Int × Int × Int × Unit) := frCons (f := ⟨ "Kind", 3, 0, false, "", "", 0⟩) (off := 0) (off' := 1) R3 (frCons (f := ⟨ "Tick", 3, 1, false, "", "", 8⟩) (off := 1) (off' := 2) R3 (frCons (f := ⟨ "Tenant", 3, 2, false, "", "", 16⟩) (off := 2) (off' := 3) R3 (frCons (f := ⟨ "Cell", 3, 3, false, "", "", 24⟩) (off := 3) (off' := 4) R3 (frCons (f := ⟨ "Other", 3, 4, false, "", "", 32⟩) (off := 4) (off' := 5) R3 (frCons (f := ⟨ "Epoch", 3, 5, false, "", "", 40⟩) (off := 5) (off' := 6) R3 (frCons (f := ⟨ "From", 3, 6, false, "", "", 48⟩) (off := 6) (off' := 7) R3 (frCons (f := ⟨ "Until", 3, 7, false, "", "", 56⟩) (off := 7) (off' := 8) R3 (frCons (f := ⟨ "N", 3, 8, false, "", "", 64⟩) (off := 8) (off' := 9) R3 (frNil) rfl (by rw [show Try.prog.cellsOf 3 = 1 from cells3])) rfl (by rw [show Try.prog.cellsOf 3 = 1 from cells3])) rfl (by rw [show Try.prog.cellsOf 3 = 1 from cells3])) rfl (by rw [show Try.prog.cellsOf 3 = 1 from cells3])) rfl (by rw [show Try.prog.cellsOf 3 = 1 from cells3])) rfl (by rw [show Try.prog.cellsOf 3 = 1 from cells3])) rfl (by rw [show Try.prog.cellsOf 3 = 1 from cells3])) rfl (by rw [show Try.prog.cellsOf 3 = 1 from cells3])) rfl (by rw [show Try.prog.cellsOf 3 = 1 from cells3])
noncomputable def R31 : Reader Try.prog 31 GEntry := rdStruct Try.underlying31 Q31 (by rw [cells31]; simp [Q31, frCons, frNil, cells3]) (fun b => ⟨b.1, b.2.1, b.2.2.1, b.2.2.2.1, b.2.2.2.2.1, b.2.2.2.2.2.1, b.2.2.2.2.2.2.1, b.2.2.2.2.2.2.2.1, b.2.2.2.2.2.2.2.2.1⟩) GEntry.cells (fun b => by
    show _ = (R3).enc b.1 ++ ((R3).enc b.2.1 ++ ((R3).enc b.2.2.1 ++ ((R3).enc b.2.2.2.1 ++ ((R3).enc b.2.2.2.2.1 ++ ((R3).enc b.2.2.2.2.2.1 ++ ((R3).enc b.2.2.2.2.2.2.1 ++ ((R3).enc b.2.2.2.2.2.2.2.1 ++ ((R3).enc b.2.2.2.2.2.2.2.2.1 ++ (([] : List V))))))))))
    
    rfl) (fun a => ⟨⟨a.Kind, a.Tick, a.Tenant, a.Cell, a.Other, a.Epoch, a.From, a.Until, a.N, ()⟩, rfl⟩) GEntry.ok (fun b h => by
    obtain ⟨o0, o1, o2, o3, o4, o5, o6, o7, o8, _⟩ := h
    exact ⟨wf_i64 o0, wf_i64 o1, wf_i64 o2, wf_i64 o3, wf_i64 o4, wf_i64 o5, wf_i64 o6, wf_i64 o7, wf_i64 o8⟩) (fun _ => 0) (fun _ => Nat.zero_le _)
theorem enc31 (a : GEntry) : (R31).enc a = a.cells := rfl
theorem eqV_31 (x y : GEntry) : eqV T 5 31 (vEntry x) (vEntry y) = some (decide (x = y)) := by
  obtain ⟨aKind, aTick, aTenant, aCell, aOther, aEpoch, aFrom, aUntil, aN⟩ := x
  obtain ⟨bKind, bTick, bTenant, bCell, bOther, bEpoch, bFrom, bUntil, bN⟩ := y
  simp [vEntry, GEntry.cells, eqV, eqF, bytes_eq]
  try rw [Bool.eq_iff_iff]; simp; try grind
@[simp] theorem eql_31 (x y : GEntry) : aBin T .eql 31 (vEntry x) (vEntry y) = some (.bool (decide (x = y))) := by show (eqV T 5 31 (vEntry x) (vEntry y)).map V.bool = _; rw [eqV_31]; rfl
@[simp] theorem neq_31 (x y : GEntry) : aBin T .neq 31 (vEntry x) (vEntry y) = some (.bool (!decide (x = y))) := by show (eqV T 5 31 (vEntry x) (vEntry y)).map (fun b => V.bool (!b)) = _; rw [eqV_31]; rfl
theorem cells33 : Try.prog.cellsOf 33 = 10 := by kernel_rfl
noncomputable def Q33 : FReader Try.prog [⟨ "Term", 3, 0, false, "", "", 0⟩, ⟨ "Entry", 31, 1, false, "", "", 8⟩] 0 (Int × GEntry × Unit) := frCons (f := ⟨ "Term", 3, 0, false, "", "", 0⟩) (off := 0) (off' := 1) R3 (frCons (f := ⟨ "Entry", 31, 1, false, "", "", 8⟩) (off := 1) (off' := 10) R31 (frNil) rfl (by rw [show Try.prog.cellsOf 31 = 9 from cells31])) rfl (by rw [show Try.prog.cellsOf 3 = 1 from cells3])
noncomputable def R33 : Reader Try.prog 33 GLogged := rdStruct Try.underlying33 Q33 (by rw [cells33]; simp [Q33, frCons, frNil, cells3, cells31]) (fun b => ⟨b.1, b.2.1⟩) GLogged.cells (fun b => by
    show _ = (R3).enc b.1 ++ ((R31).enc b.2.1 ++ (([] : List V)))
    have h1 := enc31 (b.2.1);
    rw [h1]; rfl) (fun a => ⟨⟨a.Term, a.Entry, ()⟩, rfl⟩) GLogged.ok (fun b h => by
    obtain ⟨o0, o1, _⟩ := h
    exact ⟨wf_i64 o0, o1⟩) (fun _ => 0) (fun _ => Nat.zero_le _)
theorem enc33 (a : GLogged) : (R33).enc a = a.cells := rfl
theorem eqV_33 (x y : GLogged) : eqV T 5 33 (vLogged x) (vLogged y) = some (decide (x = y)) := by
  obtain ⟨aTerm, ⟨aEntryKind, aEntryTick, aEntryTenant, aEntryCell, aEntryOther, aEntryEpoch, aEntryFrom, aEntryUntil, aEntryN⟩⟩ := x
  obtain ⟨bTerm, ⟨bEntryKind, bEntryTick, bEntryTenant, bEntryCell, bEntryOther, bEntryEpoch, bEntryFrom, bEntryUntil, bEntryN⟩⟩ := y
  simp [vLogged, GEntry.cells, GLogged.cells, eqV, eqF, bytes_eq]
  try rw [Bool.eq_iff_iff]; simp; try grind
@[simp] theorem eql_33 (x y : GLogged) : aBin T .eql 33 (vLogged x) (vLogged y) = some (.bool (decide (x = y))) := by show (eqV T 5 33 (vLogged x) (vLogged y)).map V.bool = _; rw [eqV_33]; rfl
@[simp] theorem neq_33 (x y : GLogged) : aBin T .neq 33 (vLogged x) (vLogged y) = some (.bool (!decide (x = y))) := by show (eqV T 5 33 (vLogged x) (vLogged y)).map (fun b => V.bool (!b)) = _; rw [eqV_33]; rfl
theorem cells38 : Try.prog.cellsOf 38 = 1 := by kernel_rfl
noncomputable def R38 : Reader Try.prog 38 Int := rdInt .i64 Try.underlying38 cells38
theorem cells41 : Try.prog.cellsOf 41 = 1 := by kernel_rfl
noncomputable def R41 : Reader Try.prog 41 (List UInt8) := rdSlice Try.underlying41 cells41 R5
theorem enc41 (a : List UInt8) : (R41).enc a = [.sl 2 1 (byteRow a)] := by
  show [V.sl 2 (Try.prog.cellsOf 5) (a.map (R5).enc)] = _
  rw [cells5]
  first | rfl | (congr 1; congr 1; exact congrArg (fun f => a.map f) (funext fun x => rfl))
theorem cells50 : Try.prog.cellsOf 50 = 3 := by kernel_rfl
noncomputable def Q50 : FReader Try.prog [⟨ "Which", 3, 0, false, "", "", 0⟩, ⟨ "A", 3, 1, false, "", "", 8⟩, ⟨ "B", 3, 2, false, "", "", 16⟩] 0 (Int × Int × Int × Unit) := frCons (f := ⟨ "Which", 3, 0, false, "", "", 0⟩) (off := 0) (off' := 1) R3 (frCons (f := ⟨ "A", 3, 1, false, "", "", 8⟩) (off := 1) (off' := 2) R3 (frCons (f := ⟨ "B", 3, 2, false, "", "", 16⟩) (off := 2) (off' := 3) R3 (frNil) rfl (by rw [show Try.prog.cellsOf 3 = 1 from cells3])) rfl (by rw [show Try.prog.cellsOf 3 = 1 from cells3])) rfl (by rw [show Try.prog.cellsOf 3 = 1 from cells3])
noncomputable def R50 : Reader Try.prog 50 GL08Act := rdStruct Try.underlying50 Q50 (by rw [cells50]; simp [Q50, frCons, frNil, cells3]) (fun b => ⟨b.1, b.2.1, b.2.2.1⟩) GL08Act.cells (fun b => by
    show _ = (R3).enc b.1 ++ ((R3).enc b.2.1 ++ ((R3).enc b.2.2.1 ++ (([] : List V))))
    
    rfl) (fun a => ⟨⟨a.Which, a.A, a.B, ()⟩, rfl⟩) GL08Act.ok (fun b h => by
    obtain ⟨o0, o1, o2, _⟩ := h
    exact ⟨wf_i64 o0, wf_i64 o1, wf_i64 o2⟩) (fun _ => 0) (fun _ => Nat.zero_le _)
theorem enc50 (a : GL08Act) : (R50).enc a = a.cells := rfl
theorem eqV_50 (x y : GL08Act) : eqV T 5 50 (vL08Act x) (vL08Act y) = some (decide (x = y)) := by
  obtain ⟨aWhich, aA, aB⟩ := x
  obtain ⟨bWhich, bA, bB⟩ := y
  simp [vL08Act, GL08Act.cells, eqV, eqF, bytes_eq]
  try rw [Bool.eq_iff_iff]; simp; try grind
@[simp] theorem eql_50 (x y : GL08Act) : aBin T .eql 50 (vL08Act x) (vL08Act y) = some (.bool (decide (x = y))) := by show (eqV T 5 50 (vL08Act x) (vL08Act y)).map V.bool = _; rw [eqV_50]; rfl
@[simp] theorem neq_50 (x y : GL08Act) : aBin T .neq 50 (vL08Act x) (vL08Act y) = some (.bool (!decide (x = y))) := by show (eqV T 5 50 (vL08Act x) (vL08Act y)).map (fun b => V.bool (!b)) = _; rw [eqV_50]; rfl
theorem cells83 : Try.prog.cellsOf 83 = 1 := by kernel_rfl
noncomputable def R83 : Reader Try.prog 83 Int := rdInt .u64 Try.underlying83 cells83
theorem cells105 : Try.prog.cellsOf 105 = 1 := by kernel_rfl
noncomputable def R105 : Reader Try.prog 105 Int := rdInt .u64 Try.underlying105 cells105
theorem cells112 : Try.prog.cellsOf 112 = 1 := by kernel_rfl
noncomputable def R112 : Reader Try.prog 112 (List (List UInt8)) := rdSlice Try.underlying112 cells112 R41
theorem enc112 (a : List (List UInt8)) : (R112).enc a = [.sl 2 1 (listRow a)] := by
  show [V.sl 2 (Try.prog.cellsOf 41) (a.map (R41).enc)] = _
  rw [cells41]
  first | rfl | (congr 1; congr 1; exact congrArg (fun f => a.map f) (funext fun x => enc41 x))
theorem cells115 : Try.prog.cellsOf 115 = 1 := by kernel_rfl
noncomputable def R115 : Reader Try.prog 115 (List ByteArray) := rdSlice Try.underlying115 cells115 R9
theorem enc115 (a : List ByteArray) : (R115).enc a = [.sl 2 1 (strRow a)] := by
  show [V.sl 2 (Try.prog.cellsOf 9) (a.map (R9).enc)] = _
  rw [cells9]
  first | rfl | (congr 1; congr 1; exact congrArg (fun f => a.map f) (funext fun x => rfl))
theorem cells24 : Try.prog.cellsOf 24 = 1 := by kernel_rfl
noncomputable def R24 : Reader Try.prog 24 (List GLogged) := rdSlice Try.underlying24 cells24 R33
theorem enc24 (a : List GLogged) : (R24).enc a = [.sl 2 10 (GLogged.row a)] := by
  show [V.sl 2 (Try.prog.cellsOf 33) (a.map (R33).enc)] = _
  rw [cells33]
  first | rfl | (congr 1; congr 1; exact congrArg (fun f => a.map f) (funext fun x => enc33 x))
theorem cells45 : Try.prog.cellsOf 45 = 1 := by kernel_rfl
noncomputable def R45 : Reader Try.prog 45 (List GL08Act) := rdSlice Try.underlying45 cells45 R50
theorem enc45 (a : List GL08Act) : (R45).enc a = [.sl 2 3 (GL08Act.row a)] := by
  show [V.sl 2 (Try.prog.cellsOf 50) (a.map (R50).enc)] = _
  rw [cells50]
  first | rfl | (congr 1; congr 1; exact congrArg (fun f => a.map f) (funext fun x => enc50 x))
theorem arg2 {H : Type} {eh : TypeId × Value → H} {w W0 : World} {r : Reach} {b0 : Nat} {v : Value} {d : DataW H} {ps : List MemPlace} (hval : Value.okWide Try.prog W0 r b0 2 v) (hd : DataW.Trod eh Try.prog w 0 (fun _ => true) true 2 v d ps) (hb : Rows.uptoBulk d ≤ 1048576) : ∃ a : Int, Rd w (fun b => b < w.heap.size) noG ((fun a : Int => V.int .i64 a) a) v ∧ (In64 a) := by
  obtain ⟨a, h0, h1, h2⟩ := (R2).cell (e := fun a : Int => V.int .i64 a) (fun _ => rfl) (fun h => cells_int Try.underlying2 h) hval hd
  have h2 := Nat.le_trans (h2 _ meas) hb
  exact ⟨a, h0, wf_i64 h1⟩
theorem sarg2 {H : Type} {eh : TypeId × Value → H} {w W0 : World} {r : Reach} {b0 : Nat} {v : Value} {d : DataW H} {ps : List MemPlace} (hval : Value.okWide Try.prog W0 r b0 2 v) (hd : DataW.Trod eh Try.prog w 0 (fun _ => true) true 2 v d ps) : ∃ a : Int, Rd w (fun b => b < w.heap.size) noG ((fun a : Int => V.int .i64 a) a) v ∧ (In64 a) := by
  obtain ⟨a, h0, h1, h2⟩ := (R2).cell (e := fun a : Int => V.int .i64 a) (fun _ => rfl) (fun h => cells_int Try.underlying2 h) hval hd
  exact ⟨a, h0, wf_i64 h1⟩
theorem arg3 {H : Type} {eh : TypeId × Value → H} {w W0 : World} {r : Reach} {b0 : Nat} {v : Value} {d : DataW H} {ps : List MemPlace} (hval : Value.okWide Try.prog W0 r b0 3 v) (hd : DataW.Trod eh Try.prog w 0 (fun _ => true) true 3 v d ps) (hb : Rows.uptoBulk d ≤ 1048576) : ∃ a : Int, Rd w (fun b => b < w.heap.size) noG ((fun a : Int => V.int .i64 a) a) v ∧ (In64 a) := by
  obtain ⟨a, h0, h1, h2⟩ := (R3).cell (e := fun a : Int => V.int .i64 a) (fun _ => rfl) (fun h => cells_int Try.underlying3 h) hval hd
  have h2 := Nat.le_trans (h2 _ meas) hb
  exact ⟨a, h0, wf_i64 h1⟩
theorem sarg3 {H : Type} {eh : TypeId × Value → H} {w W0 : World} {r : Reach} {b0 : Nat} {v : Value} {d : DataW H} {ps : List MemPlace} (hval : Value.okWide Try.prog W0 r b0 3 v) (hd : DataW.Trod eh Try.prog w 0 (fun _ => true) true 3 v d ps) : ∃ a : Int, Rd w (fun b => b < w.heap.size) noG ((fun a : Int => V.int .i64 a) a) v ∧ (In64 a) := by
  obtain ⟨a, h0, h1, h2⟩ := (R3).cell (e := fun a : Int => V.int .i64 a) (fun _ => rfl) (fun h => cells_int Try.underlying3 h) hval hd
  exact ⟨a, h0, wf_i64 h1⟩
theorem arg4 {H : Type} {eh : TypeId × Value → H} {w W0 : World} {r : Reach} {b0 : Nat} {v : Value} {d : DataW H} {ps : List MemPlace} (hval : Value.okWide Try.prog W0 r b0 4 v) (hd : DataW.Trod eh Try.prog w 0 (fun _ => true) true 4 v d ps) (hb : Rows.uptoBulk d ≤ 1048576) : ∃ a : Bool, Rd w (fun b => b < w.heap.size) noG ((fun a : Bool => V.bool a) a) v ∧ (True) := by
  obtain ⟨a, h0, h1, h2⟩ := (R4).cell (e := fun a : Bool => V.bool a) (fun _ => rfl) (fun h => cells_bool Try.underlying4 h) hval hd
  have h2 := Nat.le_trans (h2 _ meas) hb
  exact ⟨a, h0, trivial⟩
theorem sarg4 {H : Type} {eh : TypeId × Value → H} {w W0 : World} {r : Reach} {b0 : Nat} {v : Value} {d : DataW H} {ps : List MemPlace} (hval : Value.okWide Try.prog W0 r b0 4 v) (hd : DataW.Trod eh Try.prog w 0 (fun _ => true) true 4 v d ps) : ∃ a : Bool, Rd w (fun b => b < w.heap.size) noG ((fun a : Bool => V.bool a) a) v ∧ (True) := by
  obtain ⟨a, h0, h1, h2⟩ := (R4).cell (e := fun a : Bool => V.bool a) (fun _ => rfl) (fun h => cells_bool Try.underlying4 h) hval hd
  exact ⟨a, h0, trivial⟩
theorem arg5 {H : Type} {eh : TypeId × Value → H} {w W0 : World} {r : Reach} {b0 : Nat} {v : Value} {d : DataW H} {ps : List MemPlace} (hval : Value.okWide Try.prog W0 r b0 5 v) (hd : DataW.Trod eh Try.prog w 0 (fun _ => true) true 5 v d ps) (hb : Rows.uptoBulk d ≤ 1048576) : ∃ a : UInt8, Rd w (fun b => b < w.heap.size) noG ((fun a : UInt8 => V.int .u8 a.toNat) a) v ∧ (True) := by
  obtain ⟨a, h0, h1, h2⟩ := (R5).cell (e := fun a : UInt8 => V.int .u8 a.toNat) (fun _ => rfl) (fun h => cells_int Try.underlying5 h) hval hd
  have h2 := Nat.le_trans (h2 _ meas) hb
  exact ⟨a, h0, trivial⟩
theorem sarg5 {H : Type} {eh : TypeId × Value → H} {w W0 : World} {r : Reach} {b0 : Nat} {v : Value} {d : DataW H} {ps : List MemPlace} (hval : Value.okWide Try.prog W0 r b0 5 v) (hd : DataW.Trod eh Try.prog w 0 (fun _ => true) true 5 v d ps) : ∃ a : UInt8, Rd w (fun b => b < w.heap.size) noG ((fun a : UInt8 => V.int .u8 a.toNat) a) v ∧ (True) := by
  obtain ⟨a, h0, h1, h2⟩ := (R5).cell (e := fun a : UInt8 => V.int .u8 a.toNat) (fun _ => rfl) (fun h => cells_int Try.underlying5 h) hval hd
  exact ⟨a, h0, trivial⟩
theorem arg9 {H : Type} {eh : TypeId × Value → H} {w W0 : World} {r : Reach} {b0 : Nat} {v : Value} {d : DataW H} {ps : List MemPlace} (hval : Value.okWide Try.prog W0 r b0 9 v) (hd : DataW.Trod eh Try.prog w 0 (fun _ => true) true 9 v d ps) (hb : Rows.uptoBulk d ≤ 1048576) : ∃ a : ByteArray, Rd w (fun b => b < w.heap.size) noG ((fun a : ByteArray => V.str a) a) v ∧ (a.size ≤ 1048575) := by
  obtain ⟨a, h0, h1, h2⟩ := (R9).cell (e := fun a : ByteArray => V.str a) (fun _ => rfl) (fun h => cells_str Try.underlying9 h) hval hd
  have h2 := Nat.le_trans (h2 _ meas) hb
  exact ⟨a, h0, by have h2 : a.size + 1 ≤ 1048576 := h2; omega⟩
theorem sarg9 {H : Type} {eh : TypeId × Value → H} {w W0 : World} {r : Reach} {b0 : Nat} {v : Value} {d : DataW H} {ps : List MemPlace} (hval : Value.okWide Try.prog W0 r b0 9 v) (hd : DataW.Trod eh Try.prog w 0 (fun _ => true) true 9 v d ps) : ∃ a : ByteArray, Rd w (fun b => b < w.heap.size) noG ((fun a : ByteArray => V.str a) a) v ∧ (a.size ≤ 9223372036854775807) := by
  obtain ⟨a, h0, h1, h2⟩ := (R9).cell (e := fun a : ByteArray => V.str a) (fun _ => rfl) (fun h => cells_str Try.underlying9 h) hval hd
  exact ⟨a, h0, h1⟩
theorem arg12 {H : Type} {eh : TypeId × Value → H} {w W0 : World} {r : Reach} {b0 : Nat} {v : Value} {d : DataW H} {ps : List MemPlace} (hval : Value.okWide Try.prog W0 r b0 12 v) (hd : DataW.Trod eh Try.prog w 0 (fun _ => true) true 12 v d ps) (hb : Rows.uptoBulk d ≤ 1048576) : ∃ a : Int, Rd w (fun b => b < w.heap.size) noG ((fun a : Int => V.int .u64 a) a) v ∧ (InU64 a) := by
  obtain ⟨a, h0, h1, h2⟩ := (R12).cell (e := fun a : Int => V.int .u64 a) (fun _ => rfl) (fun h => cells_int Try.underlying12 h) hval hd
  have h2 := Nat.le_trans (h2 _ meas) hb
  exact ⟨a, h0, wf_u64 h1⟩
theorem sarg12 {H : Type} {eh : TypeId × Value → H} {w W0 : World} {r : Reach} {b0 : Nat} {v : Value} {d : DataW H} {ps : List MemPlace} (hval : Value.okWide Try.prog W0 r b0 12 v) (hd : DataW.Trod eh Try.prog w 0 (fun _ => true) true 12 v d ps) : ∃ a : Int, Rd w (fun b => b < w.heap.size) noG ((fun a : Int => V.int .u64 a) a) v ∧ (InU64 a) := by
  obtain ⟨a, h0, h1, h2⟩ := (R12).cell (e := fun a : Int => V.int .u64 a) (fun _ => rfl) (fun h => cells_int Try.underlying12 h) hval hd
  exact ⟨a, h0, wf_u64 h1⟩
theorem arg22 {H : Type} {eh : TypeId × Value → H} {w W0 : World} {r : Reach} {b0 : Nat} {v : Value} {d : DataW H} {ps : List MemPlace} (hval : Value.okWide Try.prog W0 r b0 22 v) (hd : DataW.Trod eh Try.prog w 0 (fun _ => true) true 22 v d ps) (hb : Rows.uptoBulk d ≤ 1048576) : ∃ a : List Int, Rd w (fun b => b < w.heap.size) noG ((fun a : List Int => V.sl 2 1 (intRow a)) a) v ∧ (a.length ≤ 1048575 ∧ ∀ x ∈ a, In64 x) := by
  obtain ⟨a, h0, h1, h2⟩ := (R22).cell (e := fun a : List Int => V.sl 2 1 (intRow a)) (enc22) (fun h => cells_slice Try.underlying22 h) hval hd
  have h2 := Nat.le_trans (h2 _ meas) hb
  exact ⟨a, h0, ⟨by have := length_le_sum (R3).siz (R3).pos a; have h2 : (a.map (R3).siz).sum + 1 ≤ 1048576 := h2; omega, (fun y hy => wf_i64 (h1 y hy))⟩⟩
theorem sarg22 {H : Type} {eh : TypeId × Value → H} {w W0 : World} {r : Reach} {b0 : Nat} {v : Value} {d : DataW H} {ps : List MemPlace} (hval : Value.okWide Try.prog W0 r b0 22 v) (hd : DataW.Trod eh Try.prog w 0 (fun _ => true) true 22 v d ps) : ∃ a : List Int, Rd w (fun b => b < w.heap.size) noG ((fun a : List Int => V.sl 2 1 (intRow a)) a) v ∧ (a.length ≤ 9223372036854775807 ∧ ∀ x ∈ a, In64 x) := by
  obtain ⟨a, h0, h1, h2⟩ := (R22).cell (e := fun a : List Int => V.sl 2 1 (intRow a)) (enc22) (fun h => cells_slice Try.underlying22 h) hval hd
  exact ⟨a, h0, ⟨by have := Rd.sl_len h0; simpa using this, (fun y hy => wf_i64 (h1 y hy))⟩⟩
theorem arg31 {H : Type} {eh : TypeId × Value → H} {w W0 : World} {r : Reach} {b0 : Nat} {v : Value} {d : DataW H} {ps : List MemPlace} (hval : Value.okWide Try.prog W0 r b0 31 v) (hd : DataW.Trod eh Try.prog w 0 (fun _ => true) true 31 v d ps) (_hb : Rows.uptoBulk d ≤ 1048576) : ∃ a : GEntry, Rd w (fun b => b < w.heap.size) noG (vEntry a) v ∧ GEntry.ok a := by
  obtain ⟨a, h0, h1, _⟩ := (R31).agg Try.underlying31 hval hd
  exact ⟨a, h0, h1⟩
theorem sarg31 {H : Type} {eh : TypeId × Value → H} {w W0 : World} {r : Reach} {b0 : Nat} {v : Value} {d : DataW H} {ps : List MemPlace} (hval : Value.okWide Try.prog W0 r b0 31 v) (hd : DataW.Trod eh Try.prog w 0 (fun _ => true) true 31 v d ps) : ∃ a : GEntry, Rd w (fun b => b < w.heap.size) noG (vEntry a) v ∧ GEntry.ok a := by
  obtain ⟨a, h0, h1, _⟩ := (R31).agg Try.underlying31 hval hd
  exact ⟨a, h0, h1⟩
theorem arg33 {H : Type} {eh : TypeId × Value → H} {w W0 : World} {r : Reach} {b0 : Nat} {v : Value} {d : DataW H} {ps : List MemPlace} (hval : Value.okWide Try.prog W0 r b0 33 v) (hd : DataW.Trod eh Try.prog w 0 (fun _ => true) true 33 v d ps) (_hb : Rows.uptoBulk d ≤ 1048576) : ∃ a : GLogged, Rd w (fun b => b < w.heap.size) noG (vLogged a) v ∧ GLogged.ok a := by
  obtain ⟨a, h0, h1, _⟩ := (R33).agg Try.underlying33 hval hd
  exact ⟨a, h0, h1⟩
theorem sarg33 {H : Type} {eh : TypeId × Value → H} {w W0 : World} {r : Reach} {b0 : Nat} {v : Value} {d : DataW H} {ps : List MemPlace} (hval : Value.okWide Try.prog W0 r b0 33 v) (hd : DataW.Trod eh Try.prog w 0 (fun _ => true) true 33 v d ps) : ∃ a : GLogged, Rd w (fun b => b < w.heap.size) noG (vLogged a) v ∧ GLogged.ok a := by
  obtain ⟨a, h0, h1, _⟩ := (R33).agg Try.underlying33 hval hd
  exact ⟨a, h0, h1⟩
theorem arg38 {H : Type} {eh : TypeId × Value → H} {w W0 : World} {r : Reach} {b0 : Nat} {v : Value} {d : DataW H} {ps : List MemPlace} (hval : Value.okWide Try.prog W0 r b0 38 v) (hd : DataW.Trod eh Try.prog w 0 (fun _ => true) true 38 v d ps) (hb : Rows.uptoBulk d ≤ 1048576) : ∃ a : Int, Rd w (fun b => b < w.heap.size) noG ((fun a : Int => V.int .i64 a) a) v ∧ (In64 a) := by
  obtain ⟨a, h0, h1, h2⟩ := (R38).cell (e := fun a : Int => V.int .i64 a) (fun _ => rfl) (fun h => cells_int Try.underlying38 h) hval hd
  have h2 := Nat.le_trans (h2 _ meas) hb
  exact ⟨a, h0, wf_i64 h1⟩
theorem sarg38 {H : Type} {eh : TypeId × Value → H} {w W0 : World} {r : Reach} {b0 : Nat} {v : Value} {d : DataW H} {ps : List MemPlace} (hval : Value.okWide Try.prog W0 r b0 38 v) (hd : DataW.Trod eh Try.prog w 0 (fun _ => true) true 38 v d ps) : ∃ a : Int, Rd w (fun b => b < w.heap.size) noG ((fun a : Int => V.int .i64 a) a) v ∧ (In64 a) := by
  obtain ⟨a, h0, h1, h2⟩ := (R38).cell (e := fun a : Int => V.int .i64 a) (fun _ => rfl) (fun h => cells_int Try.underlying38 h) hval hd
  exact ⟨a, h0, wf_i64 h1⟩
theorem arg41 {H : Type} {eh : TypeId × Value → H} {w W0 : World} {r : Reach} {b0 : Nat} {v : Value} {d : DataW H} {ps : List MemPlace} (hval : Value.okWide Try.prog W0 r b0 41 v) (hd : DataW.Trod eh Try.prog w 0 (fun _ => true) true 41 v d ps) (hb : Rows.uptoBulk d ≤ 1048576) : ∃ a : List UInt8, Rd w (fun b => b < w.heap.size) noG ((fun a : List UInt8 => V.sl 2 1 (byteRow a)) a) v ∧ (a.length ≤ 1048575) := by
  obtain ⟨a, h0, h1, h2⟩ := (R41).cell (e := fun a : List UInt8 => V.sl 2 1 (byteRow a)) (enc41) (fun h => cells_slice Try.underlying41 h) hval hd
  have h2 := Nat.le_trans (h2 _ meas) hb
  exact ⟨a, h0, by have := length_le_sum (R5).siz (R5).pos a; have h2 : (a.map (R5).siz).sum + 1 ≤ 1048576 := h2; omega⟩
theorem sarg41 {H : Type} {eh : TypeId × Value → H} {w W0 : World} {r : Reach} {b0 : Nat} {v : Value} {d : DataW H} {ps : List MemPlace} (hval : Value.okWide Try.prog W0 r b0 41 v) (hd : DataW.Trod eh Try.prog w 0 (fun _ => true) true 41 v d ps) : ∃ a : List UInt8, Rd w (fun b => b < w.heap.size) noG ((fun a : List UInt8 => V.sl 2 1 (byteRow a)) a) v ∧ (a.length ≤ 9223372036854775807) := by
  obtain ⟨a, h0, h1, h2⟩ := (R41).cell (e := fun a : List UInt8 => V.sl 2 1 (byteRow a)) (enc41) (fun h => cells_slice Try.underlying41 h) hval hd
  exact ⟨a, h0, by have := Rd.sl_len h0; simpa using this⟩
theorem arg50 {H : Type} {eh : TypeId × Value → H} {w W0 : World} {r : Reach} {b0 : Nat} {v : Value} {d : DataW H} {ps : List MemPlace} (hval : Value.okWide Try.prog W0 r b0 50 v) (hd : DataW.Trod eh Try.prog w 0 (fun _ => true) true 50 v d ps) (_hb : Rows.uptoBulk d ≤ 1048576) : ∃ a : GL08Act, Rd w (fun b => b < w.heap.size) noG (vL08Act a) v ∧ GL08Act.ok a := by
  obtain ⟨a, h0, h1, _⟩ := (R50).agg Try.underlying50 hval hd
  exact ⟨a, h0, h1⟩
theorem sarg50 {H : Type} {eh : TypeId × Value → H} {w W0 : World} {r : Reach} {b0 : Nat} {v : Value} {d : DataW H} {ps : List MemPlace} (hval : Value.okWide Try.prog W0 r b0 50 v) (hd : DataW.Trod eh Try.prog w 0 (fun _ => true) true 50 v d ps) : ∃ a : GL08Act, Rd w (fun b => b < w.heap.size) noG (vL08Act a) v ∧ GL08Act.ok a := by
  obtain ⟨a, h0, h1, _⟩ := (R50).agg Try.underlying50 hval hd
  exact ⟨a, h0, h1⟩
theorem arg83 {H : Type} {eh : TypeId × Value → H} {w W0 : World} {r : Reach} {b0 : Nat} {v : Value} {d : DataW H} {ps : List MemPlace} (hval : Value.okWide Try.prog W0 r b0 83 v) (hd : DataW.Trod eh Try.prog w 0 (fun _ => true) true 83 v d ps) (hb : Rows.uptoBulk d ≤ 1048576) : ∃ a : Int, Rd w (fun b => b < w.heap.size) noG ((fun a : Int => V.int .u64 a) a) v ∧ (InU64 a) := by
  obtain ⟨a, h0, h1, h2⟩ := (R83).cell (e := fun a : Int => V.int .u64 a) (fun _ => rfl) (fun h => cells_int Try.underlying83 h) hval hd
  have h2 := Nat.le_trans (h2 _ meas) hb
  exact ⟨a, h0, wf_u64 h1⟩
theorem sarg83 {H : Type} {eh : TypeId × Value → H} {w W0 : World} {r : Reach} {b0 : Nat} {v : Value} {d : DataW H} {ps : List MemPlace} (hval : Value.okWide Try.prog W0 r b0 83 v) (hd : DataW.Trod eh Try.prog w 0 (fun _ => true) true 83 v d ps) : ∃ a : Int, Rd w (fun b => b < w.heap.size) noG ((fun a : Int => V.int .u64 a) a) v ∧ (InU64 a) := by
  obtain ⟨a, h0, h1, h2⟩ := (R83).cell (e := fun a : Int => V.int .u64 a) (fun _ => rfl) (fun h => cells_int Try.underlying83 h) hval hd
  exact ⟨a, h0, wf_u64 h1⟩
theorem arg105 {H : Type} {eh : TypeId × Value → H} {w W0 : World} {r : Reach} {b0 : Nat} {v : Value} {d : DataW H} {ps : List MemPlace} (hval : Value.okWide Try.prog W0 r b0 105 v) (hd : DataW.Trod eh Try.prog w 0 (fun _ => true) true 105 v d ps) (hb : Rows.uptoBulk d ≤ 1048576) : ∃ a : Int, Rd w (fun b => b < w.heap.size) noG ((fun a : Int => V.int .u64 a) a) v ∧ (InU64 a) := by
  obtain ⟨a, h0, h1, h2⟩ := (R105).cell (e := fun a : Int => V.int .u64 a) (fun _ => rfl) (fun h => cells_int Try.underlying105 h) hval hd
  have h2 := Nat.le_trans (h2 _ meas) hb
  exact ⟨a, h0, wf_u64 h1⟩
theorem sarg105 {H : Type} {eh : TypeId × Value → H} {w W0 : World} {r : Reach} {b0 : Nat} {v : Value} {d : DataW H} {ps : List MemPlace} (hval : Value.okWide Try.prog W0 r b0 105 v) (hd : DataW.Trod eh Try.prog w 0 (fun _ => true) true 105 v d ps) : ∃ a : Int, Rd w (fun b => b < w.heap.size) noG ((fun a : Int => V.int .u64 a) a) v ∧ (InU64 a) := by
  obtain ⟨a, h0, h1, h2⟩ := (R105).cell (e := fun a : Int => V.int .u64 a) (fun _ => rfl) (fun h => cells_int Try.underlying105 h) hval hd
  exact ⟨a, h0, wf_u64 h1⟩
theorem arg112 {H : Type} {eh : TypeId × Value → H} {w W0 : World} {r : Reach} {b0 : Nat} {v : Value} {d : DataW H} {ps : List MemPlace} (hval : Value.okWide Try.prog W0 r b0 112 v) (hd : DataW.Trod eh Try.prog w 0 (fun _ => true) true 112 v d ps) (hb : Rows.uptoBulk d ≤ 1048576) : ∃ a : List (List UInt8), Rd w (fun b => b < w.heap.size) noG ((fun a : List (List UInt8) => V.sl 2 1 (listRow a)) a) v ∧ (a.length ≤ 1048575 ∧ ∀ x ∈ a, x.length ≤ 1048575) := by
  obtain ⟨a, h0, h1, h2⟩ := (R112).cell (e := fun a : List (List UInt8) => V.sl 2 1 (listRow a)) (enc112) (fun h => cells_slice Try.underlying112 h) hval hd
  have h2 := Nat.le_trans (h2 _ meas) hb
  exact ⟨a, h0, ⟨by have := length_le_sum (R41).siz (R41).pos a; have h2 : (a.map (R41).siz).sum + 1 ≤ 1048576 := h2; omega, fun x hx => by have h3 := length_le_sum (R5).siz (R5).pos x; have h4 : (R41).siz x ≤ (a.map (R41).siz).sum := mem_le_sum (List.mem_map_of_mem hx); have h5 : (R41).siz x = (x.map (R5).siz).sum + 1 := rfl; have h2 : (a.map (R41).siz).sum + 1 ≤ 1048576 := h2; omega⟩⟩
theorem sarg112 {H : Type} {eh : TypeId × Value → H} {w W0 : World} {r : Reach} {b0 : Nat} {v : Value} {d : DataW H} {ps : List MemPlace} (hval : Value.okWide Try.prog W0 r b0 112 v) (hd : DataW.Trod eh Try.prog w 0 (fun _ => true) true 112 v d ps) : ∃ a : List (List UInt8), Rd w (fun b => b < w.heap.size) noG ((fun a : List (List UInt8) => V.sl 2 1 (listRow a)) a) v ∧ (a.length ≤ 9223372036854775807 ∧ ∀ x ∈ a, x.length ≤ 9223372036854775807) := by
  obtain ⟨a, h0, h1, h2⟩ := (R112).cell (e := fun a : List (List UInt8) => V.sl 2 1 (listRow a)) (enc112) (fun h => cells_slice Try.underlying112 h) hval hd
  exact ⟨a, h0, ⟨by have := Rd.sl_len h0; simpa using this, fun x hx => rd_list h0 x hx⟩⟩
theorem arg115 {H : Type} {eh : TypeId × Value → H} {w W0 : World} {r : Reach} {b0 : Nat} {v : Value} {d : DataW H} {ps : List MemPlace} (hval : Value.okWide Try.prog W0 r b0 115 v) (hd : DataW.Trod eh Try.prog w 0 (fun _ => true) true 115 v d ps) (hb : Rows.uptoBulk d ≤ 1048576) : ∃ a : List ByteArray, Rd w (fun b => b < w.heap.size) noG ((fun a : List ByteArray => V.sl 2 1 (strRow a)) a) v ∧ (a.length ≤ 1048575) := by
  obtain ⟨a, h0, h1, h2⟩ := (R115).cell (e := fun a : List ByteArray => V.sl 2 1 (strRow a)) (enc115) (fun h => cells_slice Try.underlying115 h) hval hd
  have h2 := Nat.le_trans (h2 _ meas) hb
  exact ⟨a, h0, by have := length_le_sum (R9).siz (R9).pos a; have h2 : (a.map (R9).siz).sum + 1 ≤ 1048576 := h2; omega⟩
theorem sarg115 {H : Type} {eh : TypeId × Value → H} {w W0 : World} {r : Reach} {b0 : Nat} {v : Value} {d : DataW H} {ps : List MemPlace} (hval : Value.okWide Try.prog W0 r b0 115 v) (hd : DataW.Trod eh Try.prog w 0 (fun _ => true) true 115 v d ps) : ∃ a : List ByteArray, Rd w (fun b => b < w.heap.size) noG ((fun a : List ByteArray => V.sl 2 1 (strRow a)) a) v ∧ (a.length ≤ 9223372036854775807) := by
  obtain ⟨a, h0, h1, h2⟩ := (R115).cell (e := fun a : List ByteArray => V.sl 2 1 (strRow a)) (enc115) (fun h => cells_slice Try.underlying115 h) hval hd
  exact ⟨a, h0, by have := Rd.sl_len h0; simpa using this⟩
theorem arg24 {H : Type} {eh : TypeId × Value → H} {w W0 : World} {r : Reach} {b0 : Nat} {v : Value} {d : DataW H} {ps : List MemPlace} (hval : Value.okWide Try.prog W0 r b0 24 v) (hd : DataW.Trod eh Try.prog w 0 (fun _ => true) true 24 v d ps) (hb : Rows.uptoBulk d ≤ 1048576) : ∃ a : List GLogged, Rd w (fun b => b < w.heap.size) noG ((fun a : List GLogged => V.sl 2 10 (GLogged.row a)) a) v ∧ (a.length ≤ 1048575 ∧ ∀ x ∈ a, GLogged.ok x) := by
  obtain ⟨a, h0, h1, h2⟩ := (R24).cell (e := fun a : List GLogged => V.sl 2 10 (GLogged.row a)) (enc24) (fun h => cells_slice Try.underlying24 h) hval hd
  have h2 := Nat.le_trans (h2 _ meas) hb
  exact ⟨a, h0, ⟨by have := length_le_sum (R33).siz (R33).pos a; have h2 : (a.map (R33).siz).sum + 1 ≤ 1048576 := h2; omega, (fun y hy => h1 y hy)⟩⟩
theorem sarg24 {H : Type} {eh : TypeId × Value → H} {w W0 : World} {r : Reach} {b0 : Nat} {v : Value} {d : DataW H} {ps : List MemPlace} (hval : Value.okWide Try.prog W0 r b0 24 v) (hd : DataW.Trod eh Try.prog w 0 (fun _ => true) true 24 v d ps) : ∃ a : List GLogged, Rd w (fun b => b < w.heap.size) noG ((fun a : List GLogged => V.sl 2 10 (GLogged.row a)) a) v ∧ (a.length ≤ 9223372036854775807 ∧ ∀ x ∈ a, GLogged.ok x) := by
  obtain ⟨a, h0, h1, h2⟩ := (R24).cell (e := fun a : List GLogged => V.sl 2 10 (GLogged.row a)) (enc24) (fun h => cells_slice Try.underlying24 h) hval hd
  exact ⟨a, h0, ⟨by have := Rd.sl_len h0; simpa using this, (fun y hy => h1 y hy)⟩⟩
theorem arg45 {H : Type} {eh : TypeId × Value → H} {w W0 : World} {r : Reach} {b0 : Nat} {v : Value} {d : DataW H} {ps : List MemPlace} (hval : Value.okWide Try.prog W0 r b0 45 v) (hd : DataW.Trod eh Try.prog w 0 (fun _ => true) true 45 v d ps) (hb : Rows.uptoBulk d ≤ 1048576) : ∃ a : List GL08Act, Rd w (fun b => b < w.heap.size) noG ((fun a : List GL08Act => V.sl 2 3 (GL08Act.row a)) a) v ∧ (a.length ≤ 1048575 ∧ ∀ x ∈ a, GL08Act.ok x) := by
  obtain ⟨a, h0, h1, h2⟩ := (R45).cell (e := fun a : List GL08Act => V.sl 2 3 (GL08Act.row a)) (enc45) (fun h => cells_slice Try.underlying45 h) hval hd
  have h2 := Nat.le_trans (h2 _ meas) hb
  exact ⟨a, h0, ⟨by have := length_le_sum (R50).siz (R50).pos a; have h2 : (a.map (R50).siz).sum + 1 ≤ 1048576 := h2; omega, (fun y hy => h1 y hy)⟩⟩
theorem sarg45 {H : Type} {eh : TypeId × Value → H} {w W0 : World} {r : Reach} {b0 : Nat} {v : Value} {d : DataW H} {ps : List MemPlace} (hval : Value.okWide Try.prog W0 r b0 45 v) (hd : DataW.Trod eh Try.prog w 0 (fun _ => true) true 45 v d ps) : ∃ a : List GL08Act, Rd w (fun b => b < w.heap.size) noG ((fun a : List GL08Act => V.sl 2 3 (GL08Act.row a)) a) v ∧ (a.length ≤ 9223372036854775807 ∧ ∀ x ∈ a, GL08Act.ok x) := by
  obtain ⟨a, h0, h1, h2⟩ := (R45).cell (e := fun a : List GL08Act => V.sl 2 3 (GL08Act.row a)) (enc45) (fun h => cells_slice Try.underlying45 h) hval hd
  exact ⟨a, h0, ⟨by have := Rd.sl_len h0; simpa using this, (fun y hy => h1 y hy)⟩⟩
end Go.Proofs.Ytlelalnahlpcpaa
