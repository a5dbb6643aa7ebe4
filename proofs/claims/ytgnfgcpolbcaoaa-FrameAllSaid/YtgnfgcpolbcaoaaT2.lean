/-
  How arguments of the program's types read.
-/
import Derived.Test.YtgnfgcpolbcaoaaT1
import Derived.Test.YtgnfgcpolbcaoaaL25
namespace Go.Proofs.Ytgnfgcpolbcaoaa
open Go.Lift

theorem laid : laidOutB Try.prog = true := by kernel_rfl
theorem own : ownKnob Try.prog.godebug = none := by kernel_rfl
def In64 (n : Int) : Prop := -9223372036854775808 ≤ n ∧ n ≤ 9223372036854775807
def InU64 (n : Int) : Prop := 0 ≤ n ∧ n ≤ 18446744073709551615

theorem bulk_one {H : Type} (d : DataW H) : 1 ≤ Rows.uptoBulk d := by
  cases d with
  | lit l => cases l <;> simp [Rows.uptoBulk]
  | _ => simp [Rows.uptoBulk]
theorem bulk_all {H : Type} : ∀ l : List (DataW H), Rows.uptoBulkAll l = (l.map Rows.uptoBulk).sum
  | [] => by simp [Rows.uptoBulkAll]
  | d :: l => by simp [Rows.uptoBulkAll, bulk_all l]
theorem meas {H : Type} : Meas (Rows.uptoBulk (H := H)) := by
  refine ⟨bulk_one, fun b => by simp [Rows.uptoBulk], fun es sp => ?_, fun ps => ?_⟩
  · simp only [Rows.uptoBulk, bulk_all]; omega
  · simp only [Rows.uptoBulk, bulk_all]; omega
theorem bulk_le {H : Type} {l : List (DataW H)} (h : Rows.uptoSmall H l = true) : Rows.uptoBulkAll l ≤ 1048576 := of_decide_eq_true h
theorem part_le {H : Type} {d : DataW H} {l : List (DataW H)} (h : d ∈ l) : Rows.uptoBulk d ≤ Rows.uptoBulkAll l := by
  induction l with
  | nil => cases h
  | cons x r ih =>
    simp only [Rows.uptoBulkAll]
    rcases List.mem_cons.1 h with rfl | e
    · omega
    · have := ih e; omega

theorem cells2 : Try.prog.cellsOf 2 = 1 := by kernel_rfl
noncomputable def R2 : Reader Try.prog 2 Int := rdInt .i64 Try.underlying2 cells2
theorem cells3 : Try.prog.cellsOf 3 = 1 := by kernel_rfl
noncomputable def R3 : Reader Try.prog 3 Int := rdInt .i64 Try.underlying3 cells3
theorem cells4 : Try.prog.cellsOf 4 = 1 := by kernel_rfl
noncomputable def R4 : Reader Try.prog 4 Bool := rdBool Try.underlying4 cells4
theorem cells5 : Try.prog.cellsOf 5 = 1 := by kernel_rfl
noncomputable def R5 : Reader Try.prog 5 UInt8 := rdByte Try.underlying5 cells5
theorem cells9 : Try.prog.cellsOf 9 = 1 := by kernel_rfl
noncomputable def R9 : Reader Try.prog 9 ByteArray := rdStr Try.underlying9 cells9
theorem cells12 : Try.prog.cellsOf 12 = 1 := by kernel_rfl
noncomputable def R12 : Reader Try.prog 12 Int := rdInt .u64 Try.underlying12 cells12
theorem cells21 : Try.prog.cellsOf 21 = 1 := by kernel_rfl
noncomputable def R21 : Reader Try.prog 21 Int := rdInt .i32 Try.underlying21 cells21
theorem cells27 : Try.prog.cellsOf 27 = 1 := by kernel_rfl
noncomputable def R27 : Reader Try.prog 27 Int := rdInt .i64 Try.underlying27 cells27
theorem cells46 : Try.prog.cellsOf 46 = 1 := by kernel_rfl
noncomputable def R46 : Reader Try.prog 46 Int := rdInt .u64 Try.underlying46 cells46
theorem cells54 : Try.prog.cellsOf 54 = 1 := by kernel_rfl
noncomputable def R54 : Reader Try.prog 54 Int := rdInt .u64 Try.underlying54 cells54
theorem cells65 : Try.prog.cellsOf 65 = 1 := by kernel_rfl
noncomputable def R65 : Reader Try.prog 65 Int := rdInt .u32 Try.underlying65 cells65
theorem cells22 : Try.prog.cellsOf 22 = 1 := by kernel_rfl
noncomputable def R22 : Reader Try.prog 22 (List UInt8) := rdSlice Try.underlying22 cells22 R5
theorem cells31 : Try.prog.cellsOf 31 = 1 := by kernel_rfl
noncomputable def R31 : Reader Try.prog 31 (List (List UInt8)) := rdSlice Try.underlying31 cells31 R22
theorem arg2 {H : Type} {eh : TypeId × Value → H} {w W0 : World} {r : Reach} {b0 : Nat} {v : Value} {d : DataW H} {ps : List MemPlace} (hval : Value.okWide Try.prog W0 r b0 2 v) (hd : DataW.Trod eh Try.prog w 0 (fun _ => true) true 2 v d ps) (hb : Rows.uptoBulk d ≤ 1048576) : ∃ a : Int, Rd w (fun b => b < w.heap.size) noG ((fun a : Int => V.int .i64 a) a) v ∧ (In64 a) := by
  obtain ⟨a, h0, h1, h2⟩ := (R2).cell (e := fun a : Int => V.int .i64 a) (fun _ => rfl) (fun h => cells_int Try.underlying2 h) hval hd
  have h2 := Nat.le_trans (h2 _ meas) hb
  exact ⟨a, h0, wf_i64 h1⟩
theorem sarg2 {H : Type} {eh : TypeId × Value → H} {w W0 : World} {r : Reach} {b0 : Nat} {v : Value} {d : DataW H} {ps : List MemPlace} (hval : Value.okWide Try.prog W0 r b0 2 v) (hd : DataW.Trod eh Try.prog w 0 (fun _ => true) true 2 v d ps) : ∃ a : Int, Rd w (fun b => b < w.heap.size) noG ((fun a : Int => V.int .i64 a) a) v ∧ (In64 a) := by
  obtain ⟨a, h0, h1, h2⟩ := (R2).cell (e := fun a : Int => V.int .i64 a) (fun _ => rfl) (fun h => cells_int Try.underlying2 h) hval hd
  exact ⟨a, h0, wf_i64 h1⟩
theorem arg3 {H : Type} {eh : TypeId × Value → H} {w W0 : World} {r : Reach} {b0 : Nat} {v : Value} {d : DataW H} {ps : List MemPlace} (hval : Value.okWide Try.prog W0 r b0 3 v) (hd : DataW.Trod eh Try.prog w 0 (fun _ => true) true 3 v d ps) (hb : Rows.uptoBulk d ≤ 1048576) : ∃ a : Int, Rd w (fun b => b < w.heap.size) noG ((fun a : Int => V.int .i64 a) a) v ∧ (In64 a) := by
  obtain ⟨a, h0, h1, h2⟩ := (R3).cell (e := fun a : Int => V.int .i64 a) (fun _ => rfl) (fun h => cells_int Try.underlying3 h) hval hd
  have h2 := Nat.le_trans (h2 _ meas) hb
  exact ⟨a, h0, wf_i64 h1⟩
theorem sarg3 {H : Type} {eh : TypeId × Value → H} {w W0 : World} {r : Reach} {b0 : Nat} {v : Value} {d : DataW H} {ps : List MemPlace} (hval : Value.okWide Try.prog W0 r b0 3 v) (hd : DataW.Trod eh Try.prog w 0 (fun _ => true) true 3 v d ps) : ∃ a : Int, Rd w (fun b => b < w.heap.size) noG ((fun a : Int => V.int .i64 a) a) v ∧ (In64 a) := by
  obtain ⟨a, h0, h1, h2⟩ := (R3).cell (e := fun a : Int => V.int .i64 a) (fun _ => rfl) (fun h => cells_int Try.underlying3 h) hval hd
  exact ⟨a, h0, wf_i64 h1⟩
theorem arg4 {H : Type} {eh : TypeId × Value → H} {w W0 : World} {r : Reach} {b0 : Nat} {v : Value} {d : DataW H} {ps : List MemPlace} (hval : Value.okWide Try.prog W0 r b0 4 v) (hd : DataW.Trod eh Try.prog w 0 (fun _ => true) true 4 v d ps) (hb : Rows.uptoBulk d ≤ 1048576) : ∃ a : Bool, Rd w (fun b => b < w.heap.size) noG ((fun a : Bool => V.bool a) a) v ∧ (True) := by
  obtain ⟨a, h0, h1, h2⟩ := (R4).cell (e := fun a : Bool => V.bool a) (fun _ => rfl) (fun h => cells_bool Try.underlying4 h) hval hd
  have h2 := Nat.le_trans (h2 _ meas) hb
  exact ⟨a, h0, trivial⟩
theorem sarg4 {H : Type} {eh : TypeId × Value → H} {w W0 : World} {r : Reach} {b0 : Nat} {v : Value} {d : DataW H} {ps : List MemPlace} (hval : Value.okWide Try.prog W0 r b0 4 v) (hd : DataW.Trod eh Try.prog w 0 (fun _ => true) true 4 v d ps) : ∃ a : Bool, Rd w (fun b => b < w.heap.size) noG ((fun a : Bool => V.bool a) a) v ∧ (True) := by
  obtain ⟨a, h0, h1, h2⟩ := (R4).cell (e := fun a : Bool => V.bool a) (fun _ => rfl) (fun h => cells_bool Try.underlying4 h) hval hd
  exact ⟨a, h0, trivial⟩
theorem arg5 {H : Type} {eh : TypeId × Value → H} {w W0 : World} {r : Reach} {b0 : Nat} {v : Value} {d : DataW H} {ps : List MemPlace} (hval : Value.okWide Try.prog W0 r b0 5 v) (hd : DataW.Trod eh Try.prog w 0 (fun _ => true) true 5 v d ps) (hb : Rows.uptoBulk d ≤ 1048576) : ∃ a : UInt8, Rd w (fun b => b < w.heap.size) noG ((fun a : UInt8 => V.int .u8 a.toNat) a) v ∧ (True) := by
  obtain ⟨a, h0, h1, h2⟩ := (R5).cell (e := fun a : UInt8 => V.int .u8 a.toNat) (fun _ => rfl) (fun h => cells_int Try.underlying5 h) hval hd
  have h2 := Nat.le_trans (h2 _ meas) hb
  exact ⟨a, h0, trivial⟩
theorem sarg5 {H : Type} {eh : TypeId × Value → H} {w W0 : World} {r : Reach} {b0 : Nat} {v : Value} {d : DataW H} {ps : List MemPlace} (hval : Value.okWide Try.prog W0 r b0 5 v) (hd : DataW.Trod eh Try.prog w 0 (fun _ => true) true 5 v d ps) : ∃ a : UInt8, Rd w (fun b => b < w.heap.size) noG ((fun a : UInt8 => V.int .u8 a.toNat) a) v ∧ (True) := by
  obtain ⟨a, h0, h1, h2⟩ := (R5).cell (e := fun a : UInt8 => V.int .u8 a.toNat) (fun _ => rfl) (fun h => cells_int Try.underlying5 h) hval hd
  exact ⟨a, h0, trivial⟩
theorem arg9 {H : Type} {eh : TypeId × Value → H} {w W0 : World} {r : Reach} {b0 : Nat} {v : Value} {d : DataW H} {ps : List MemPlace} (hval : Value.okWide Try.prog W0 r b0 9 v) (hd : DataW.Trod eh Try.prog w 0 (fun _ => true) true 9 v d ps) (hb : Rows.uptoBulk d ≤ 1048576) : ∃ a : ByteArray, Rd w (fun b => b < w.heap.size) noG ((fun a : ByteArray => V.str a) a) v ∧ (a.size ≤ 1048575) := by
  obtain ⟨a, h0, h1, h2⟩ := (R9).cell (e := fun a : ByteArray => V.str a) (fun _ => rfl) (fun h => cells_str Try.underlying9 h) hval hd
  have h2 := Nat.le_trans (h2 _ meas) hb
  exact ⟨a, h0, by have h2 : a.size + 1 ≤ 1048576 := h2; omega⟩
theorem arg12 {H : Type} {eh : TypeId × Value → H} {w W0 : World} {r : Reach} {b0 : Nat} {v : Value} {d : DataW H} {ps : List MemPlace} (hval : Value.okWide Try.prog W0 r b0 12 v) (hd : DataW.Trod eh Try.prog w 0 (fun _ => true) true 12 v d ps) (hb : Rows.uptoBulk d ≤ 1048576) : ∃ a : Int, Rd w (fun b => b < w.heap.size) noG ((fun a : Int => V.int .u64 a) a) v ∧ (InU64 a) := by
  obtain ⟨a, h0, h1, h2⟩ := (R12).cell (e := fun a : Int => V.int .u64 a) (fun _ => rfl) (fun h => cells_int Try.underlying12 h) hval hd
  have h2 := Nat.le_trans (h2 _ meas) hb
  exact ⟨a, h0, wf_u64 h1⟩
theorem sarg12 {H : Type} {eh : TypeId × Value → H} {w W0 : World} {r : Reach} {b0 : Nat} {v : Value} {d : DataW H} {ps : List MemPlace} (hval : Value.okWide Try.prog W0 r b0 12 v) (hd : DataW.Trod eh Try.prog w 0 (fun _ => true) true 12 v d ps) : ∃ a : Int, Rd w (fun b => b < w.heap.size) noG ((fun a : Int => V.int .u64 a) a) v ∧ (InU64 a) := by
  obtain ⟨a, h0, h1, h2⟩ := (R12).cell (e := fun a : Int => V.int .u64 a) (fun _ => rfl) (fun h => cells_int Try.underlying12 h) hval hd
  exact ⟨a, h0, wf_u64 h1⟩
theorem arg27 {H : Type} {eh : TypeId × Value → H} {w W0 : World} {r : Reach} {b0 : Nat} {v : Value} {d : DataW H} {ps : List MemPlace} (hval : Value.okWide Try.prog W0 r b0 27 v) (hd : DataW.Trod eh Try.prog w 0 (fun _ => true) true 27 v d ps) (hb : Rows.uptoBulk d ≤ 1048576) : ∃ a : Int, Rd w (fun b => b < w.heap.size) noG ((fun a : Int => V.int .i64 a) a) v ∧ (In64 a) := by
  obtain ⟨a, h0, h1, h2⟩ := (R27).cell (e := fun a : Int => V.int .i64 a) (fun _ => rfl) (fun h => cells_int Try.underlying27 h) hval hd
  have h2 := Nat.le_trans (h2 _ meas) hb
  exact ⟨a, h0, wf_i64 h1⟩
theorem sarg27 {H : Type} {eh : TypeId × Value → H} {w W0 : World} {r : Reach} {b0 : Nat} {v : Value} {d : DataW H} {ps : List MemPlace} (hval : Value.okWide Try.prog W0 r b0 27 v) (hd : DataW.Trod eh Try.prog w 0 (fun _ => true) true 27 v d ps) : ∃ a : Int, Rd w (fun b => b < w.heap.size) noG ((fun a : Int => V.int .i64 a) a) v ∧ (In64 a) := by
  obtain ⟨a, h0, h1, h2⟩ := (R27).cell (e := fun a : Int => V.int .i64 a) (fun _ => rfl) (fun h => cells_int Try.underlying27 h) hval hd
  exact ⟨a, h0, wf_i64 h1⟩
theorem arg46 {H : Type} {eh : TypeId × Value → H} {w W0 : World} {r : Reach} {b0 : Nat} {v : Value} {d : DataW H} {ps : List MemPlace} (hval : Value.okWide Try.prog W0 r b0 46 v) (hd : DataW.Trod eh Try.prog w 0 (fun _ => true) true 46 v d ps) (hb : Rows.uptoBulk d ≤ 1048576) : ∃ a : Int, Rd w (fun b => b < w.heap.size) noG ((fun a : Int => V.int .u64 a) a) v ∧ (InU64 a) := by
  obtain ⟨a, h0, h1, h2⟩ := (R46).cell (e := fun a : Int => V.int .u64 a) (fun _ => rfl) (fun h => cells_int Try.underlying46 h) hval hd
  have h2 := Nat.le_trans (h2 _ meas) hb
  exact ⟨a, h0, wf_u64 h1⟩
theorem sarg46 {H : Type} {eh : TypeId × Value → H} {w W0 : World} {r : Reach} {b0 : Nat} {v : Value} {d : DataW H} {ps : List MemPlace} (hval : Value.okWide Try.prog W0 r b0 46 v) (hd : DataW.Trod eh Try.prog w 0 (fun _ => true) true 46 v d ps) : ∃ a : Int, Rd w (fun b => b < w.heap.size) noG ((fun a : Int => V.int .u64 a) a) v ∧ (InU64 a) := by
  obtain ⟨a, h0, h1, h2⟩ := (R46).cell (e := fun a : Int => V.int .u64 a) (fun _ => rfl) (fun h => cells_int Try.underlying46 h) hval hd
  exact ⟨a, h0, wf_u64 h1⟩
theorem arg54 {H : Type} {eh : TypeId × Value → H} {w W0 : World} {r : Reach} {b0 : Nat} {v : Value} {d : DataW H} {ps : List MemPlace} (hval : Value.okWide Try.prog W0 r b0 54 v) (hd : DataW.Trod eh Try.prog w 0 (fun _ => true) true 54 v d ps) (hb : Rows.uptoBulk d ≤ 1048576) : ∃ a : Int, Rd w (fun b => b < w.heap.size) noG ((fun a : Int => V.int .u64 a) a) v ∧ (InU64 a) := by
  obtain ⟨a, h0, h1, h2⟩ := (R54).cell (e := fun a : Int => V.int .u64 a) (fun _ => rfl) (fun h => cells_int Try.underlying54 h) hval hd
  have h2 := Nat.le_trans (h2 _ meas) hb
  exact ⟨a, h0, wf_u64 h1⟩
theorem sarg54 {H : Type} {eh : TypeId × Value → H} {w W0 : World} {r : Reach} {b0 : Nat} {v : Value} {d : DataW H} {ps : List MemPlace} (hval : Value.okWide Try.prog W0 r b0 54 v) (hd : DataW.Trod eh Try.prog w 0 (fun _ => true) true 54 v d ps) : ∃ a : Int, Rd w (fun b => b < w.heap.size) noG ((fun a : Int => V.int .u64 a) a) v ∧ (InU64 a) := by
  obtain ⟨a, h0, h1, h2⟩ := (R54).cell (e := fun a : Int => V.int .u64 a) (fun _ => rfl) (fun h => cells_int Try.underlying54 h) hval hd
  exact ⟨a, h0, wf_u64 h1⟩
theorem arg22 {H : Type} {eh : TypeId × Value → H} {w W0 : World} {r : Reach} {b0 : Nat} {v : Value} {d : DataW H} {ps : List MemPlace} (hval : Value.okWide Try.prog W0 r b0 22 v) (hd : DataW.Trod eh Try.prog w 0 (fun _ => true) true 22 v d ps) (hb : Rows.uptoBulk d ≤ 1048576) : ∃ a : List UInt8, Rd w (fun b => b < w.heap.size) noG ((fun a : List UInt8 => V.sl 2 1 (byteRow a)) a) v ∧ (a.length ≤ 1048575) := by
  obtain ⟨a, h0, h1, h2⟩ := (R22).cell (e := fun a : List UInt8 => V.sl 2 1 (byteRow a)) (fun a => by show [V.sl 2 (Try.prog.cellsOf 5) _] = _; rw [cells5]; rfl) (fun h => cells_slice Try.underlying22 h) hval hd
  have h2 := Nat.le_trans (h2 _ meas) hb
  exact ⟨a, h0, by have := length_le_sum (R5).siz (R5).pos a; have h2 : (a.map (R5).siz).sum + 1 ≤ 1048576 := h2; omega⟩
theorem arg31 {H : Type} {eh : TypeId × Value → H} {w W0 : World} {r : Reach} {b0 : Nat} {v : Value} {d : DataW H} {ps : List MemPlace} (hval : Value.okWide Try.prog W0 r b0 31 v) (hd : DataW.Trod eh Try.prog w 0 (fun _ => true) true 31 v d ps) (hb : Rows.uptoBulk d ≤ 1048576) : ∃ a : List (List UInt8), Rd w (fun b => b < w.heap.size) noG ((fun a : List (List UInt8) => V.sl 2 1 (listRow a)) a) v ∧ (a.length ≤ 1048575 ∧ ∀ x ∈ a, x.length ≤ 1048575) := by
  obtain ⟨a, h0, h1, h2⟩ := (R31).cell (e := fun a : List (List UInt8) => V.sl 2 1 (listRow a)) (fun a => by show [V.sl 2 (Try.prog.cellsOf 22) (a.map fun b => [V.sl 2 (Try.prog.cellsOf 5) _])] = _; rw [cells22, cells5]; rfl) (fun h => cells_slice Try.underlying31 h) hval hd
  have h2 := Nat.le_trans (h2 _ meas) hb
  exact ⟨a, h0, ⟨by have := length_le_sum (R22).siz (R22).pos a; have h2 : (a.map (R22).siz).sum + 1 ≤ 1048576 := h2; omega, fun x hx => by have h3 := length_le_sum (R5).siz (R5).pos x; have h4 : (R22).siz x ≤ (a.map (R22).siz).sum := mem_le_sum (List.mem_map_of_mem hx); have h5 : (R22).siz x = (x.map (R5).siz).sum + 1 := rfl; have h2 : (a.map (R22).siz).sum + 1 ≤ 1048576 := h2; omega⟩⟩
theorem sarg9 {H : Type} {eh : TypeId × Value → H} {w W0 : World} {r : Reach} {b0 : Nat} {v : Value} {d : DataW H} {ps : List MemPlace} (hval : Value.okWide Try.prog W0 r b0 9 v) (hd : DataW.Trod eh Try.prog w 0 (fun _ => true) true 9 v d ps) : ∃ a : ByteArray, Rd w (fun b => b < w.heap.size) noG ((fun a : ByteArray => V.str a) a) v ∧ (a.size ≤ 9223372036854775807) := by
  obtain ⟨a, h0, h1, h2⟩ := (R9).cell (e := fun a : ByteArray => V.str a) (fun _ => rfl) (fun h => cells_str Try.underlying9 h) hval hd
  exact ⟨a, h0, h1⟩
theorem sarg22 {H : Type} {eh : TypeId × Value → H} {w W0 : World} {r : Reach} {b0 : Nat} {v : Value} {d : DataW H} {ps : List MemPlace} (hval : Value.okWide Try.prog W0 r b0 22 v) (hd : DataW.Trod eh Try.prog w 0 (fun _ => true) true 22 v d ps) : ∃ a : List UInt8, Rd w (fun b => b < w.heap.size) noG ((fun a : List UInt8 => V.sl 2 1 (byteRow a)) a) v ∧ (a.length ≤ 9223372036854775807) := by
  obtain ⟨a, h0, h1, h2⟩ := (R22).cell (e := fun a : List UInt8 => V.sl 2 1 (byteRow a)) (fun a => by show [V.sl 2 (Try.prog.cellsOf 5) _] = _; rw [cells5]; rfl) (fun h => cells_slice Try.underlying22 h) hval hd
  exact ⟨a, h0, by have := Rd.sl_len h0; simpa using this⟩
theorem sarg31 {H : Type} {eh : TypeId × Value → H} {w W0 : World} {r : Reach} {b0 : Nat} {v : Value} {d : DataW H} {ps : List MemPlace} (hval : Value.okWide Try.prog W0 r b0 31 v) (hd : DataW.Trod eh Try.prog w 0 (fun _ => true) true 31 v d ps) : ∃ a : List (List UInt8), Rd w (fun b => b < w.heap.size) noG ((fun a : List (List UInt8) => V.sl 2 1 (listRow a)) a) v ∧ (a.length ≤ 9223372036854775807 ∧ ∀ x ∈ a, x.length ≤ 9223372036854775807) := by
  obtain ⟨a, h0, h1, h2⟩ := (R31).cell (e := fun a : List (List UInt8) => V.sl 2 1 (listRow a)) (fun a => by show [V.sl 2 (Try.prog.cellsOf 22) (a.map fun b => [V.sl 2 (Try.prog.cellsOf 5) _])] = _; rw [cells22, cells5]; rfl) (fun h => cells_slice Try.underlying31 h) hval hd
  exact ⟨a, h0, ⟨by have := Rd.sl_len h0; simpa using this, fun x hx => rd_list h0 x hx⟩⟩
end Go.Proofs.Ytgnfgcpolbcaoaa
