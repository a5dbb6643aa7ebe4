/-
  How arguments of the program's types read.
-/
import Derived.Test.YtpahppndnpeiaaaT1
import Derived.Test.YtpahppndnpeiaaaPLD
set_option linter.unusedSimpArgs false
set_option linter.unusedVariables false
set_option maxRecDepth 20000
namespace Go.Proofs.Ytpahppndnpeiaaa
open Go.Lift

theorem laid : laidOutB Try.prog = true := by kernel_rfl
theorem own : ownKnob Try.prog.godebug = none := by kernel_rfl

theorem bulk_one {H : Type} (d : DataW H) : 1 ≤ Rows.uptoBulk d := by
  cases d with
  | lit l => cases l <;> simp [Rows.uptoBulk]
  | _ => simp [Rows.uptoBulk]
theorem bulk_all {H : Type} : ∀ l : List (DataW H), Rows.uptoBulkAll l = (l.map Rows.uptoBulk).sum
  | [] => by simp [Rows.uptoBulkAll]
  | d :: l => by simp [Rows.uptoBulkAll, bulk_all l]
theorem meas {H : Type} : Meas (Rows.uptoBulk (H := H)) := by
  refine ⟨bulk_one, fun b => by simp [Rows.uptoBulk], fun es sp => ?_, fun ps => ?_⟩
  · simp only [Rows.uptoBulk, bulk_all]; omega
  · simp only [Rows.uptoBulk, bulk_all]; omega
theorem bulk_le {H : Type} {l : List (DataW H)} (h : Rows.uptoSmall H l = true) : Rows.uptoBulkAll l ≤ 1048576 := of_decide_eq_true h
theorem glob0 {W : World} {I : Nat → Prop} (h : ∀ g, GLB g = none) : GlobAt W I := fun g cs hg => by rw [h g] at hg; cases hg
theorem bytes_eq (a b : ByteArray) : (a.toList == b.toList) = decide (a = b) := by
  rw [Bool.eq_iff_iff, beq_iff_eq, decide_eq_true_iff, ByteArray.toList_eq, ByteArray.toList_eq]
  exact ⟨fun h => by cases a; cases b; simp at h; simp [h], fun h => by rw [h]⟩
theorem part_le {H : Type} {d : DataW H} {l : List (DataW H)} (h : d ∈ l) : Rows.uptoBulk d ≤ Rows.uptoBulkAll l := by
  induction l with
  | nil => cases h
  | cons x r ih =>
    simp only [Rows.uptoBulkAll]
    rcases List.mem_cons.1 h with rfl | e
    · omega
    · have := ih e; omega

theorem cells2 : Try.prog.cellsOf 2 = 1 := by kernel_rfl
noncomputable def R2 : Reader Try.prog 2 Int := rdInt .i64 Try.underlying2 cells2
theorem cells3 : Try.prog.cellsOf 3 = 1 := by kernel_rfl
noncomputable def R3 : Reader Try.prog 3 Int := rdInt .i64 Try.underlying3 cells3
theorem cells4 : Try.prog.cellsOf 4 = 1 := by kernel_rfl
noncomputable def R4 : Reader Try.prog 4 Bool := rdBool Try.underlying4 cells4
theorem cells5 : Try.prog.cellsOf 5 = 1 := by kernel_rfl
noncomputable def R5 : Reader Try.prog 5 UInt8 := rdByte Try.underlying5 cells5
theorem cells9 : Try.prog.cellsOf 9 = 1 := by kernel_rfl
noncomputable def R9 : Reader Try.prog 9 ByteArray := rdStr Try.underlying9 cells9
theorem cells12 : Try.prog.cellsOf 12 = 1 := by kernel_rfl
noncomputable def R12 : Reader Try.prog 12 Int := rdInt .u64 Try.underlying12 cells12
theorem cells21 : Try.prog.cellsOf 21 = 1 := by kernel_rfl
noncomputable def R21 : Reader Try.prog 21 Int := rdInt .i32 Try.underlying21 cells21
theorem cells30 : Try.prog.cellsOf 30 = 1 := by kernel_rfl
noncomputable def R30 : Reader Try.prog 30 (List UInt8) := rdSlice Try.underlying30 cells30 R5
theorem enc30 (a : List UInt8) : (R30).enc a = [.sl 2 1 (byteRow a)] := by
  show [V.sl 2 (Try.prog.cellsOf 5) (a.map (R5).enc)] = _
  rw [cells5]
  first | rfl | (congr 1; congr 1; exact congrArg (fun f => a.map f) (funext fun x => rfl))
theorem cells32 : Try.prog.cellsOf 32 = 3 := by kernel_rfl
noncomputable def Q32 : FReader Try.prog [⟨ "Which", 3, 0, false, "", "", 0⟩, ⟨ "N", 3, 1, false, "", "", 8⟩, ⟨ "B", 30, 2, false, "", "", 16⟩] 0 (Int × Int × (List UInt8) × Unit) := frCons (f := ⟨ "Which", 3, 0, false, "", "", 0⟩) (off := 0) (off' := 1) R3 (frCons (f := ⟨ "N", 3, 1, false, "", "", 8⟩) (off := 1) (off' := 2) R3 (frCons (f := ⟨ "B", 30, 2, false, "", "", 16⟩) (off := 2) (off' := 3) R30 (frNil) rfl (by rw [show Try.prog.cellsOf 30 = 1 from cells30])) rfl (by rw [show Try.prog.cellsOf 3 = 1 from cells3])) rfl (by rw [show Try.prog.cellsOf 3 = 1 from cells3])
noncomputable def R32 : Reader Try.prog 32 GL07Act := rdStruct Try.underlying32 Q32 (by rw [cells32]; simp [Q32, frCons, frNil, cells3, cells30]) (fun b => ⟨b.1, b.2.1, b.2.2.1⟩) GL07Act.cells (fun b => by
    show _ = (R3).enc b.1 ++ ((R3).enc b.2.1 ++ ((R30).enc b.2.2.1 ++ (([] : List V))))
    have h2 := enc30 (b.2.2.1);
    rw [h2]; rfl) (fun a => ⟨⟨a.Which, a.N, a.B, ()⟩, rfl⟩) GL07Act.ok (fun b h => by
    obtain ⟨o0, o1, o2, _⟩ := h
    exact ⟨wf_i64 o0, wf_i64 o1⟩) (fun _ => 0) (fun _ => Nat.zero_le _)
theorem enc32 (a : GL07Act) : (R32).enc a = a.cells := rfl
theorem cells44 : Try.prog.cellsOf 44 = 1 := by kernel_rfl
noncomputable def R44 : Reader Try.prog 44 Int := rdInt .i64 Try.underlying44 cells44
theorem cells22 : Try.prog.cellsOf 22 = 1 := by kernel_rfl
noncomputable def R22 : Reader Try.prog 22 (List GL07Act) := rdSlice Try.underlying22 cells22 R32
theorem enc22 (a : List GL07Act) : (R22).enc a = [.sl 2 3 (GL07Act.row a)] := by
  show [V.sl 2 (Try.prog.cellsOf 32) (a.map (R32).enc)] = _
  rw [cells32]
  first | rfl | (congr 1; congr 1; exact congrArg (fun f => a.map f) (funext fun x => enc32 x))
theorem arg2 {H : Type} {eh : TypeId × Value → H} {w W0 : World} {r : Reach} {b0 : Nat} {v : Value} {d : DataW H} {ps : List MemPlace} (hval : Value.okWide Try.prog W0 r b0 2 v) (hd : DataW.Trod eh Try.prog w 0 (fun _ => true) true 2 v d ps) (hb : Rows.uptoBulk d ≤ 1048576) : ∃ a : Int, Rd w (fun b => b < w.heap.size) noG ((fun a : Int => V.int .i64 a) a) v ∧ (In64 a) := by
  obtain ⟨a, h0, h1, h2⟩ := (R2).cell (e := fun a : Int => V.int .i64 a) (fun _ => rfl) (fun h => cells_int Try.underlying2 h) hval hd
  have h2 := Nat.le_trans (h2 _ meas) hb
  exact ⟨a, h0, wf_i64 h1⟩
theorem sarg2 {H : Type} {eh : TypeId × Value → H} {w W0 : World} {r : Reach} {b0 : Nat} {v : Value} {d : DataW H} {ps : List MemPlace} (hval : Value.okWide Try.prog W0 r b0 2 v) (hd : DataW.Trod eh Try.prog w 0 (fun _ => true) true 2 v d ps) : ∃ a : Int, Rd w (fun b => b < w.heap.size) noG ((fun a : Int => V.int .i64 a) a) v ∧ (In64 a) := by
  obtain ⟨a, h0, h1, h2⟩ := (R2).cell (e := fun a : Int => V.int .i64 a) (fun _ => rfl) (fun h => cells_int Try.underlying2 h) hval hd
  exact ⟨a, h0, wf_i64 h1⟩
theorem arg3 {H : Type} {eh : TypeId × Value → H} {w W0 : World} {r : Reach} {b0 : Nat} {v : Value} {d : DataW H} {ps : List MemPlace} (hval : Value.okWide Try.prog W0 r b0 3 v) (hd : DataW.Trod eh Try.prog w 0 (fun _ => true) true 3 v d ps) (hb : Rows.uptoBulk d ≤ 1048576) : ∃ a : Int, Rd w (fun b => b < w.heap.size) noG ((fun a : Int => V.int .i64 a) a) v ∧ (In64 a) := by
  obtain ⟨a, h0, h1, h2⟩ := (R3).cell (e := fun a : Int => V.int .i64 a) (fun _ => rfl) (fun h => cells_int Try.underlying3 h) hval hd
  have h2 := Nat.le_trans (h2 _ meas) hb
  exact ⟨a, h0, wf_i64 h1⟩
theorem sarg3 {H : Type} {eh : TypeId × Value → H} {w W0 : World} {r : Reach} {b0 : Nat} {v : Value} {d : DataW H} {ps : List MemPlace} (hval : Value.okWide Try.prog W0 r b0 3 v) (hd : DataW.Trod eh Try.prog w 0 (fun _ => true) true 3 v d ps) : ∃ a : Int, Rd w (fun b => b < w.heap.size) noG ((fun a : Int => V.int .i64 a) a) v ∧ (In64 a) := by
  obtain ⟨a, h0, h1, h2⟩ := (R3).cell (e := fun a : Int => V.int .i64 a) (fun _ => rfl) (fun h => cells_int Try.underlying3 h) hval hd
  exact ⟨a, h0, wf_i64 h1⟩
theorem arg4 {H : Type} {eh : TypeId × Value → H} {w W0 : World} {r : Reach} {b0 : Nat} {v : Value} {d : DataW H} {ps : List MemPlace} (hval : Value.okWide Try.prog W0 r b0 4 v) (hd : DataW.Trod eh Try.prog w 0 (fun _ => true) true 4 v d ps) (hb : Rows.uptoBulk d ≤ 1048576) : ∃ a : Bool, Rd w (fun b => b < w.heap.size) noG ((fun a : Bool => V.bool a) a) v ∧ (True) := by
  obtain ⟨a, h0, h1, h2⟩ := (R4).cell (e := fun a : Bool => V.bool a) (fun _ => rfl) (fun h => cells_bool Try.underlying4 h) hval hd
  have h2 := Nat.le_trans (h2 _ meas) hb
  exact ⟨a, h0, trivial⟩
theorem sarg4 {H : Type} {eh : TypeId × Value → H} {w W0 : World} {r : Reach} {b0 : Nat} {v : Value} {d : DataW H} {ps : List MemPlace} (hval : Value.okWide Try.prog W0 r b0 4 v) (hd : DataW.Trod eh Try.prog w 0 (fun _ => true) true 4 v d ps) : ∃ a : Bool, Rd w (fun b => b < w.heap.size) noG ((fun a : Bool => V.bool a) a) v ∧ (True) := by
  obtain ⟨a, h0, h1, h2⟩ := (R4).cell (e := fun a : Bool => V.bool a) (fun _ => rfl) (fun h => cells_bool Try.underlying4 h) hval hd
  exact ⟨a, h0, trivial⟩
theorem arg5 {H : Type} {eh : TypeId × Value → H} {w W0 : World} {r : Reach} {b0 : Nat} {v : Value} {d : DataW H} {ps : List MemPlace} (hval : Value.okWide Try.prog W0 r b0 5 v) (hd : DataW.Trod eh Try.prog w 0 (fun _ => true) true 5 v d ps) (hb : Rows.uptoBulk d ≤ 1048576) : ∃ a : UInt8, Rd w (fun b => b < w.heap.size) noG ((fun a : UInt8 => V.int .u8 a.toNat) a) v ∧ (True) := by
  obtain ⟨a, h0, h1, h2⟩ := (R5).cell (e := fun a : UInt8 => V.int .u8 a.toNat) (fun _ => rfl) (fun h => cells_int Try.underlying5 h) hval hd
  have h2 := Nat.le_trans (h2 _ meas) hb
  exact ⟨a, h0, trivial⟩
theorem sarg5 {H : Type} {eh : TypeId × Value → H} {w W0 : World} {r : Reach} {b0 : Nat} {v : Value} {d : DataW H} {ps : List MemPlace} (hval : Value.okWide Try.prog W0 r b0 5 v) (hd : DataW.Trod eh Try.prog w 0 (fun _ => true) true 5 v d ps) : ∃ a : UInt8, Rd w (fun b => b < w.heap.size) noG ((fun a : UInt8 => V.int .u8 a.toNat) a) v ∧ (True) := by
  obtain ⟨a, h0, h1, h2⟩ := (R5).cell (e := fun a : UInt8 => V.int .u8 a.toNat) (fun _ => rfl) (fun h => cells_int Try.underlying5 h) hval hd
  exact ⟨a, h0, trivial⟩
theorem arg9 {H : Type} {eh : TypeId × Value → H} {w W0 : World} {r : Reach} {b0 : Nat} {v : Value} {d : DataW H} {ps : List MemPlace} (hval : Value.okWide Try.prog W0 r b0 9 v) (hd : DataW.Trod eh Try.prog w 0 (fun _ => true) true 9 v d ps) (hb : Rows.uptoBulk d ≤ 1048576) : ∃ a : ByteArray, Rd w (fun b => b < w.heap.size) noG ((fun a : ByteArray => V.str a) a) v ∧ (a.size ≤ 1048575) := by
  obtain ⟨a, h0, h1, h2⟩ := (R9).cell (e := fun a : ByteArray => V.str a) (fun _ => rfl) (fun h => cells_str Try.underlying9 h) hval hd
  have h2 := Nat.le_trans (h2 _ meas) hb
  exact ⟨a, h0, by have h2 : a.size + 1 ≤ 1048576 := h2; omega⟩
theorem sarg9 {H : Type} {eh : TypeId × Value → H} {w W0 : World} {r : Reach} {b0 : Nat} {v : Value} {d : DataW H} {ps : List MemPlace} (hval : Value.okWide Try.prog W0 r b0 9 v) (hd : DataW.Trod eh Try.prog w 0 (fun _ => true) true 9 v d ps) : ∃ a : ByteArray, Rd w (fun b => b < w.heap.size) noG ((fun a : ByteArray => V.str a) a) v ∧ (a.size ≤ 9223372036854775807) := by
  obtain ⟨a, h0, h1, h2⟩ := (R9).cell (e := fun a : ByteArray => V.str a) (fun _ => rfl) (fun h => cells_str Try.underlying9 h) hval hd
  exact ⟨a, h0, h1⟩
theorem arg12 {H : Type} {eh : TypeId × Value → H} {w W0 : World} {r : Reach} {b0 : Nat} {v : Value} {d : DataW H} {ps : List MemPlace} (hval : Value.okWide Try.prog W0 r b0 12 v) (hd : DataW.Trod eh Try.prog w 0 (fun _ => true) true 12 v d ps) (hb : Rows.uptoBulk d ≤ 1048576) : ∃ a : Int, Rd w (fun b => b < w.heap.size) noG ((fun a : Int => V.int .u64 a) a) v ∧ (InU64 a) := by
  obtain ⟨a, h0, h1, h2⟩ := (R12).cell (e := fun a : Int => V.int .u64 a) (fun _ => rfl) (fun h => cells_int Try.underlying12 h) hval hd
  have h2 := Nat.le_trans (h2 _ meas) hb
  exact ⟨a, h0, wf_u64 h1⟩
theorem sarg12 {H : Type} {eh : TypeId × Value → H} {w W0 : World} {r : Reach} {b0 : Nat} {v : Value} {d : DataW H} {ps : List MemPlace} (hval : Value.okWide Try.prog W0 r b0 12 v) (hd : DataW.Trod eh Try.prog w 0 (fun _ => true) true 12 v d ps) : ∃ a : Int, Rd w (fun b => b < w.heap.size) noG ((fun a : Int => V.int .u64 a) a) v ∧ (InU64 a) := by
  obtain ⟨a, h0, h1, h2⟩ := (R12).cell (e := fun a : Int => V.int .u64 a) (fun _ => rfl) (fun h => cells_int Try.underlying12 h) hval hd
  exact ⟨a, h0, wf_u64 h1⟩
theorem arg30 {H : Type} {eh : TypeId × Value → H} {w W0 : World} {r : Reach} {b0 : Nat} {v : Value} {d : DataW H} {ps : List MemPlace} (hval : Value.okWide Try.prog W0 r b0 30 v) (hd : DataW.Trod eh Try.prog w 0 (fun _ => true) true 30 v d ps) (hb : Rows.uptoBulk d ≤ 1048576) : ∃ a : List UInt8, Rd w (fun b => b < w.heap.size) noG ((fun a : List UInt8 => V.sl 2 1 (byteRow a)) a) v ∧ (a.length ≤ 1048575) := by
  obtain ⟨a, h0, h1, h2⟩ := (R30).cell (e := fun a : List UInt8 => V.sl 2 1 (byteRow a)) (enc30) (fun h => cells_slice Try.underlying30 h) hval hd
  have h2 := Nat.le_trans (h2 _ meas) hb
  exact ⟨a, h0, by have := length_le_sum (R5).siz (R5).pos a; have h2 : (a.map (R5).siz).sum + 1 ≤ 1048576 := h2; omega⟩
theorem sarg30 {H : Type} {eh : TypeId × Value → H} {w W0 : World} {r : Reach} {b0 : Nat} {v : Value} {d : DataW H} {ps : List MemPlace} (hval : Value.okWide Try.prog W0 r b0 30 v) (hd : DataW.Trod eh Try.prog w 0 (fun _ => true) true 30 v d ps) : ∃ a : List UInt8, Rd w (fun b => b < w.heap.size) noG ((fun a : List UInt8 => V.sl 2 1 (byteRow a)) a) v ∧ (a.length ≤ 9223372036854775807) := by
  obtain ⟨a, h0, h1, h2⟩ := (R30).cell (e := fun a : List UInt8 => V.sl 2 1 (byteRow a)) (enc30) (fun h => cells_slice Try.underlying30 h) hval hd
  exact ⟨a, h0, by have := Rd.sl_len h0; simpa using this⟩
theorem arg32 {H : Type} {eh : TypeId × Value → H} {w W0 : World} {r : Reach} {b0 : Nat} {v : Value} {d : DataW H} {ps : List MemPlace} (hval : Value.okWide Try.prog W0 r b0 32 v) (hd : DataW.Trod eh Try.prog w 0 (fun _ => true) true 32 v d ps) (_hb : Rows.uptoBulk d ≤ 1048576) : ∃ a : GL07Act, Rd w (fun b => b < w.heap.size) noG (vL07Act a) v ∧ GL07Act.ok a := by
  obtain ⟨a, h0, h1, _⟩ := (R32).agg Try.underlying32 hval hd
  exact ⟨a, h0, h1⟩
theorem sarg32 {H : Type} {eh : TypeId × Value → H} {w W0 : World} {r : Reach} {b0 : Nat} {v : Value} {d : DataW H} {ps : List MemPlace} (hval : Value.okWide Try.prog W0 r b0 32 v) (hd : DataW.Trod eh Try.prog w 0 (fun _ => true) true 32 v d ps) : ∃ a : GL07Act, Rd w (fun b => b < w.heap.size) noG (vL07Act a) v ∧ GL07Act.ok a := by
  obtain ⟨a, h0, h1, _⟩ := (R32).agg Try.underlying32 hval hd
  exact ⟨a, h0, h1⟩
theorem arg44 {H : Type} {eh : TypeId × Value → H} {w W0 : World} {r : Reach} {b0 : Nat} {v : Value} {d : DataW H} {ps : List MemPlace} (hval : Value.okWide Try.prog W0 r b0 44 v) (hd : DataW.Trod eh Try.prog w 0 (fun _ => true) true 44 v d ps) (hb : Rows.uptoBulk d ≤ 1048576) : ∃ a : Int, Rd w (fun b => b < w.heap.size) noG ((fun a : Int => V.int .i64 a) a) v ∧ (In64 a) := by
  obtain ⟨a, h0, h1, h2⟩ := (R44).cell (e := fun a : Int => V.int .i64 a) (fun _ => rfl) (fun h => cells_int Try.underlying44 h) hval hd
  have h2 := Nat.le_trans (h2 _ meas) hb
  exact ⟨a, h0, wf_i64 h1⟩
theorem sarg44 {H : Type} {eh : TypeId × Value → H} {w W0 : World} {r : Reach} {b0 : Nat} {v : Value} {d : DataW H} {ps : List MemPlace} (hval : Value.okWide Try.prog W0 r b0 44 v) (hd : DataW.Trod eh Try.prog w 0 (fun _ => true) true 44 v d ps) : ∃ a : Int, Rd w (fun b => b < w.heap.size) noG ((fun a : Int => V.int .i64 a) a) v ∧ (In64 a) := by
  obtain ⟨a, h0, h1, h2⟩ := (R44).cell (e := fun a : Int => V.int .i64 a) (fun _ => rfl) (fun h => cells_int Try.underlying44 h) hval hd
  exact ⟨a, h0, wf_i64 h1⟩
theorem arg22 {H : Type} {eh : TypeId × Value → H} {w W0 : World} {r : Reach} {b0 : Nat} {v : Value} {d : DataW H} {ps : List MemPlace} (hval : Value.okWide Try.prog W0 r b0 22 v) (hd : DataW.Trod eh Try.prog w 0 (fun _ => true) true 22 v d ps) (hb : Rows.uptoBulk d ≤ 1048576) : ∃ a : List GL07Act, Rd w (fun b => b < w.heap.size) noG ((fun a : List GL07Act => V.sl 2 3 (GL07Act.row a)) a) v ∧ (a.length ≤ 1048575 ∧ ∀ x ∈ a, GL07Act.ok x) := by
  obtain ⟨a, h0, h1, h2⟩ := (R22).cell (e := fun a : List GL07Act => V.sl 2 3 (GL07Act.row a)) (enc22) (fun h => cells_slice Try.underlying22 h) hval hd
  have h2 := Nat.le_trans (h2 _ meas) hb
  exact ⟨a, h0, ⟨by have := length_le_sum (R32).siz (R32).pos a; have h2 : (a.map (R32).siz).sum + 1 ≤ 1048576 := h2; omega, (fun y hy => h1 y hy)⟩⟩
theorem sarg22 {H : Type} {eh : TypeId × Value → H} {w W0 : World} {r : Reach} {b0 : Nat} {v : Value} {d : DataW H} {ps : List MemPlace} (hval : Value.okWide Try.prog W0 r b0 22 v) (hd : DataW.Trod eh Try.prog w 0 (fun _ => true) true 22 v d ps) : ∃ a : List GL07Act, Rd w (fun b => b < w.heap.size) noG ((fun a : List GL07Act => V.sl 2 3 (GL07Act.row a)) a) v ∧ (a.length ≤ 9223372036854775807 ∧ ∀ x ∈ a, GL07Act.ok x) := by
  obtain ⟨a, h0, h1, h2⟩ := (R22).cell (e := fun a : List GL07Act => V.sl 2 3 (GL07Act.row a)) (enc22) (fun h => cells_slice Try.underlying22 h) hval hd
  exact ⟨a, h0, ⟨by have := Rd.sl_len h0; simpa using this, (fun y hy => h1 y hy)⟩⟩
end Go.Proofs.Ytpahppndnpeiaaa
