/-
  The program's types.
-/
import Derived.Test.YtgnfgcpolbcaoaaRows
import Derived.Test.YtgnfgcpolbcaoaaL22
import Derived.KernelRfl
namespace Go.Proofs.Ytgnfgcpolbcaoaa
open Go.Lift

theorem typeOk_of {P : Program} {t : TypeId} {ti : TI} (z : Value) (h1 : P.underlying t = some ti.desc) (h2 : (P.info? t).map (fun i => (i.zero, i.size, i.bytes)) = some (some z, ti.size, ti.bytes)) (h3 : z.cells.size = ti.size ∧ z.cells.toList.map ofCell = ti.zero)
    (h4 : ti.agg = (match ti.desc with | .struct _ | .array _ _ => true | _ => false)) : TypeOk P t ti := by
  refine ⟨h1, ?_, h4⟩
  cases hi : P.info? t with
  | none => rw [hi] at h2; cases h2
  | some i =>
    rw [hi] at h2
    simp only [Option.map_some, Option.some.injEq, Prod.mk.injEq] at h2
    exact ⟨i, z, rfl, h2.2.1, h2.2.2, h2.1, h3.1, h3.2⟩

def T (t : TypeId) : Option TI := match t with
  | 2 => some ⟨.int .i64, 1, 8, [.int .i64 0], false⟩
  | 3 => some ⟨.int .i64, 1, 8, [.int .i64 0], false⟩
  | 4 => some ⟨.bool, 1, 1, [.bool false], false⟩
  | 5 => some ⟨.int .u8, 1, 1, [.int .u8 0], false⟩
  | 9 => some ⟨.string, 1, 16, [.str .empty], false⟩
  | 12 => some ⟨.int .u64, 1, 8, [.int .u64 0], false⟩
  | 21 => some ⟨.int .i32, 1, 4, [.int .i32 0], false⟩
  | 22 => some ⟨.slice 5, 1, 24, [.sl 0 1 []], false⟩
  | 27 => some ⟨.int .i64, 1, 8, [.int .i64 0], false⟩
  | 31 => some ⟨.slice 22, 1, 24, [.sl 0 1 []], false⟩
  | 46 => some ⟨.int .u64, 1, 8, [.int .u64 0], false⟩
  | 54 => some ⟨.int .u64, 1, 8, [.int .u64 0], false⟩
  | 65 => some ⟨.int .u32, 1, 4, [.int .u32 0], false⟩
  | 69 => some ⟨.pointer 5, 1, 8, [.pnil], false⟩
  | _ => none

theorem okT_2 : TypeOk Try.prog 2 ⟨.int .i64, 1, 8, [.int .i64 0], false⟩ := typeOk_of (.int .i64 0) (by kernel_rfl) (by kernel_rfl) ⟨rfl, rfl⟩ rfl
theorem okT_3 : TypeOk Try.prog 3 ⟨.int .i64, 1, 8, [.int .i64 0], false⟩ := typeOk_of (.int .i64 0) (by kernel_rfl) (by kernel_rfl) ⟨rfl, rfl⟩ rfl
theorem okT_4 : TypeOk Try.prog 4 ⟨.bool, 1, 1, [.bool false], false⟩ := typeOk_of (.bool false) (by kernel_rfl) (by kernel_rfl) ⟨rfl, rfl⟩ rfl
theorem okT_5 : TypeOk Try.prog 5 ⟨.int .u8, 1, 1, [.int .u8 0], false⟩ := typeOk_of (.int .u8 0) (by kernel_rfl) (by kernel_rfl) ⟨rfl, rfl⟩ rfl
theorem okT_9 : TypeOk Try.prog 9 ⟨.string, 1, 16, [.str .empty], false⟩ := typeOk_of (.string .empty) (by kernel_rfl) (by kernel_rfl) ⟨rfl, rfl⟩ rfl
theorem okT_12 : TypeOk Try.prog 12 ⟨.int .u64, 1, 8, [.int .u64 0], false⟩ := typeOk_of (.int .u64 0) (by kernel_rfl) (by kernel_rfl) ⟨rfl, rfl⟩ rfl
theorem okT_21 : TypeOk Try.prog 21 ⟨.int .i32, 1, 4, [.int .i32 0], false⟩ := typeOk_of (.int .i32 0) (by kernel_rfl) (by kernel_rfl) ⟨rfl, rfl⟩ rfl
theorem okT_22 : TypeOk Try.prog 22 ⟨.slice 5, 1, 24, [.sl 0 1 []], false⟩ := typeOk_of (.slice none 0 0) (by kernel_rfl) (by kernel_rfl) ⟨rfl, rfl⟩ rfl
theorem okT_27 : TypeOk Try.prog 27 ⟨.int .i64, 1, 8, [.int .i64 0], false⟩ := typeOk_of (.int .i64 0) (by kernel_rfl) (by kernel_rfl) ⟨rfl, rfl⟩ rfl
theorem okT_31 : TypeOk Try.prog 31 ⟨.slice 22, 1, 24, [.sl 0 1 []], false⟩ := typeOk_of (.slice none 0 0) (by kernel_rfl) (by kernel_rfl) ⟨rfl, rfl⟩ rfl
theorem okT_46 : TypeOk Try.prog 46 ⟨.int .u64, 1, 8, [.int .u64 0], false⟩ := typeOk_of (.int .u64 0) (by kernel_rfl) (by kernel_rfl) ⟨rfl, rfl⟩ rfl
theorem okT_54 : TypeOk Try.prog 54 ⟨.int .u64, 1, 8, [.int .u64 0], false⟩ := typeOk_of (.int .u64 0) (by kernel_rfl) (by kernel_rfl) ⟨rfl, rfl⟩ rfl
theorem okT_65 : TypeOk Try.prog 65 ⟨.int .u32, 1, 4, [.int .u32 0], false⟩ := typeOk_of (.int .u32 0) (by kernel_rfl) (by kernel_rfl) ⟨rfl, rfl⟩ rfl
theorem okT_69 : TypeOk Try.prog 69 ⟨.pointer 5, 1, 8, [.pnil], false⟩ := typeOk_of (.pointer none) (by kernel_rfl) (by kernel_rfl) ⟨rfl, rfl⟩ rfl

theorem types_ok : TypesOk Try.prog T := by
  intro t ti h
  unfold T at h
  split at h
  · cases h; exact okT_2
  · cases h; exact okT_3
  · cases h; exact okT_4
  · cases h; exact okT_5
  · cases h; exact okT_9
  · cases h; exact okT_12
  · cases h; exact okT_21
  · cases h; exact okT_22
  · cases h; exact okT_27
  · cases h; exact okT_31
  · cases h; exact okT_46
  · cases h; exact okT_54
  · cases h; exact okT_65
  · cases h; exact okT_69
  · cases h

@[simp] theorem T_2 : T 2 = some ⟨.int .i64, 1, 8, [.int .i64 0], false⟩ := rfl
@[simp] theorem D_2 : descOf T 2 = some (.int .i64) := rfl
@[simp] theorem S_2 : sizeT T 2 = some 1 := rfl
@[simp] theorem T_3 : T 3 = some ⟨.int .i64, 1, 8, [.int .i64 0], false⟩ := rfl
@[simp] theorem D_3 : descOf T 3 = some (.int .i64) := rfl
@[simp] theorem S_3 : sizeT T 3 = some 1 := rfl
@[simp] theorem T_4 : T 4 = some ⟨.bool, 1, 1, [.bool false], false⟩ := rfl
@[simp] theorem D_4 : descOf T 4 = some (.bool) := rfl
@[simp] theorem S_4 : sizeT T 4 = some 1 := rfl
@[simp] theorem T_5 : T 5 = some ⟨.int .u8, 1, 1, [.int .u8 0], false⟩ := rfl
@[simp] theorem D_5 : descOf T 5 = some (.int .u8) := rfl
@[simp] theorem S_5 : sizeT T 5 = some 1 := rfl
@[simp] theorem T_9 : T 9 = some ⟨.string, 1, 16, [.str .empty], false⟩ := rfl
@[simp] theorem D_9 : descOf T 9 = some (.string) := rfl
@[simp] theorem S_9 : sizeT T 9 = some 1 := rfl
@[simp] theorem T_12 : T 12 = some ⟨.int .u64, 1, 8, [.int .u64 0], false⟩ := rfl
@[simp] theorem D_12 : descOf T 12 = some (.int .u64) := rfl
@[simp] theorem S_12 : sizeT T 12 = some 1 := rfl
@[simp] theorem T_21 : T 21 = some ⟨.int .i32, 1, 4, [.int .i32 0], false⟩ := rfl
@[simp] theorem D_21 : descOf T 21 = some (.int .i32) := rfl
@[simp] theorem S_21 : sizeT T 21 = some 1 := rfl
@[simp] theorem T_22 : T 22 = some ⟨.slice 5, 1, 24, [.sl 0 1 []], false⟩ := rfl
@[simp] theorem D_22 : descOf T 22 = some (.slice 5) := rfl
@[simp] theorem S_22 : sizeT T 22 = some 1 := rfl
@[simp] theorem T_27 : T 27 = some ⟨.int .i64, 1, 8, [.int .i64 0], false⟩ := rfl
@[simp] theorem D_27 : descOf T 27 = some (.int .i64) := rfl
@[simp] theorem S_27 : sizeT T 27 = some 1 := rfl
@[simp] theorem T_31 : T 31 = some ⟨.slice 22, 1, 24, [.sl 0 1 []], false⟩ := rfl
@[simp] theorem D_31 : descOf T 31 = some (.slice 22) := rfl
@[simp] theorem S_31 : sizeT T 31 = some 1 := rfl
@[simp] theorem T_46 : T 46 = some ⟨.int .u64, 1, 8, [.int .u64 0], false⟩ := rfl
@[simp] theorem D_46 : descOf T 46 = some (.int .u64) := rfl
@[simp] theorem S_46 : sizeT T 46 = some 1 := rfl
@[simp] theorem T_54 : T 54 = some ⟨.int .u64, 1, 8, [.int .u64 0], false⟩ := rfl
@[simp] theorem D_54 : descOf T 54 = some (.int .u64) := rfl
@[simp] theorem S_54 : sizeT T 54 = some 1 := rfl
@[simp] theorem T_65 : T 65 = some ⟨.int .u32, 1, 4, [.int .u32 0], false⟩ := rfl
@[simp] theorem D_65 : descOf T 65 = some (.int .u32) := rfl
@[simp] theorem S_65 : sizeT T 65 = some 1 := rfl
@[simp] theorem T_69 : T 69 = some ⟨.pointer 5, 1, 8, [.pnil], false⟩ := rfl
@[simp] theorem D_69 : descOf T 69 = some (.pointer 5) := rfl
@[simp] theorem S_69 : sizeT T 69 = some 1 := rfl

def C0 : FuncId → List V → List AObj → Option CRes := fun _ _ _ => none
theorem C0_ok : SpecsOk Try.prog C0 := fun f ⟨_, _, _, h⟩ => by cases h
theorem follows : Try.prog.follows .mixedOrders = true := by kernel_rfl
end Go.Proofs.Ytgnfgcpolbcaoaa
