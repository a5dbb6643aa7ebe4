/-
  The program's types.
-/
import Derived.Test.YtgmmhhackiimcaaRows
import Derived.Test.YtgmmhhackiimcaaPLC
import Derived.KernelRfl
namespace Go.Proofs.Ytgmmhhackiimcaa
open Go.Lift

theorem typeOk_of {P : Program} {t : TypeId} {ti : TI} (z : Value) (h1 : P.underlying t = some ti.desc) (h2 : (P.info? t).map (fun i => (i.zero, i.size, i.bytes)) = some (some z, ti.size, ti.bytes)) (h3 : z.cells.size = ti.size ∧ z.cells.toList.map ofCell = ti.zero)
    (h4 : ti.agg = (match ti.desc with | .struct _ | .array _ _ => true | _ => false)) : TypeOk P t ti := by
  refine ⟨h1, ?_, h4⟩
  cases hi : P.info? t with
  | none => rw [hi] at h2; cases h2
  | some i =>
    rw [hi] at h2
    simp only [Option.map_some, Option.some.injEq, Prod.mk.injEq] at h2
    exact ⟨i, z, rfl, h2.2.1, h2.2.2, h2.1, h3.1, h3.2⟩

def T (t : TypeId) : Option TI := match t with
  | 2 => some ⟨.int .i64, 1, 8, [.int .i64 0], false⟩
  | 3 => some ⟨.int .i64, 1, 8, [.int .i64 0], false⟩
  | 4 => some ⟨.bool, 1, 1, [.bool false], false⟩
  | 5 => some ⟨.int .u8, 1, 1, [.int .u8 0], false⟩
  | 9 => some ⟨.string, 1, 16, [.str .empty], false⟩
  | 12 => some ⟨.int .u64, 1, 8, [.int .u64 0], false⟩
  | 21 => some ⟨.int .i32, 1, 4, [.int .i32 0], false⟩
  | 22 => some ⟨.slice 46, 1, 24, [.sl 0 1 []], false⟩
  | 23 => some ⟨.slice 48, 1, 24, [.sl 0 1 []], false⟩
  | 24 => some ⟨.slice 57, 1, 24, [.sl 0 1 []], false⟩
  | 25 => some ⟨.slice 59, 1, 24, [.sl 0 1 []], false⟩
  | 26 => some ⟨.slice 3, 1, 24, [.sl 0 1 []], false⟩
  | 27 => some ⟨.struct #[⟨ "Regions", 3, 0, false, "", "", 0⟩, ⟨ "Zones", 22, 1, false, "", "", 8⟩, ⟨ "Cells", 23, 2, false, "", "", 32⟩, ⟨ "Tenants", 24, 3, false, "", "", 56⟩, ⟨ "Versions", 25, 4, false, "", "", 80⟩, ⟨ "Replicas", 26, 5, false, "", "", 104⟩, ⟨ "Observers", 26, 6, false, "", "", 128⟩, ⟨ "Blast", 3, 7, false, "", "", 152⟩, ⟨ "Lease", 3, 8, false, "", "", 160⟩, ⟨ "Bake", 3, 9, false, "", "", 168⟩], 10, 176, [.int .i64 0, .sl 0 1 [], .sl 0 1 [], .sl 0 1 [], .sl 0 1 [], .sl 0 1 [], .sl 0 1 [], .int .i64 0, .int .i64 0, .int .i64 0], true⟩
  | 28 => some ⟨.struct #[⟨ "Regions", 3, 0, false, "", "", 0⟩, ⟨ "Zones", 22, 1, false, "", "", 8⟩, ⟨ "Cells", 23, 2, false, "", "", 32⟩, ⟨ "Tenants", 24, 3, false, "", "", 56⟩, ⟨ "Versions", 25, 4, false, "", "", 80⟩, ⟨ "Replicas", 26, 5, false, "", "", 104⟩, ⟨ "Observers", 26, 6, false, "", "", 128⟩, ⟨ "Blast", 3, 7, false, "", "", 152⟩, ⟨ "Lease", 3, 8, false, "", "", 160⟩, ⟨ "Bake", 3, 9, false, "", "", 168⟩], 10, 176, [.int .i64 0, .sl 0 1 [], .sl 0 1 [], .sl 0 1 [], .sl 0 1 [], .sl 0 1 [], .sl 0 1 [], .int .i64 0, .int .i64 0, .int .i64 0], true⟩
  | 34 => some ⟨.int .i64, 1, 8, [.int .i64 0], false⟩
  | 45 => some ⟨.struct #[⟨ "Region", 3, 0, false, "", "", 0⟩], 1, 8, [.int .i64 0], true⟩
  | 46 => some ⟨.struct #[⟨ "Region", 3, 0, false, "", "", 0⟩], 1, 8, [.int .i64 0], true⟩
  | 47 => some ⟨.struct #[⟨ "Zone", 3, 0, false, "", "", 0⟩, ⟨ "Capacity", 3, 1, false, "", "", 8⟩], 2, 16, [.int .i64 0, .int .i64 0], true⟩
  | 48 => some ⟨.struct #[⟨ "Zone", 3, 0, false, "", "", 0⟩, ⟨ "Capacity", 3, 1, false, "", "", 8⟩], 2, 16, [.int .i64 0, .int .i64 0], true⟩
  | 49 => some ⟨.int .u64, 1, 8, [.int .u64 0], false⟩
  | 52 => some ⟨.pointer 66, 1, 8, [.pnil], false⟩
  | 56 => some ⟨.struct #[⟨ "Load", 3, 0, false, "", "", 0⟩, ⟨ "Shadow", 3, 1, false, "", "", 8⟩, ⟨ "Priority", 3, 2, false, "", "", 16⟩, ⟨ "Lag", 3, 3, false, "", "", 24⟩, ⟨ "Allowed", 3, 4, false, "", "", 32⟩, ⟨ "Group", 3, 5, false, "", "", 40⟩, ⟨ "Noisy", 4, 6, false, "", "", 48⟩], 7, 56, [.int .i64 0, .int .i64 0, .int .i64 0, .int .i64 0, .int .i64 0, .int .i64 0, .bool false], true⟩
  | 57 => some ⟨.struct #[⟨ "Load", 3, 0, false, "", "", 0⟩, ⟨ "Shadow", 3, 1, false, "", "", 8⟩, ⟨ "Priority", 3, 2, false, "", "", 16⟩, ⟨ "Lag", 3, 3, false, "", "", 24⟩, ⟨ "Allowed", 3, 4, false, "", "", 32⟩, ⟨ "Group", 3, 5, false, "", "", 40⟩, ⟨ "Noisy", 4, 6, false, "", "", 48⟩], 7, 56, [.int .i64 0, .int .i64 0, .int .i64 0, .int .i64 0, .int .i64 0, .int .i64 0, .bool false], true⟩
  | 58 => some ⟨.struct #[⟨ "Low", 3, 0, false, "", "", 0⟩, ⟨ "High", 3, 1, false, "", "", 8⟩], 2, 16, [.int .i64 0, .int .i64 0], true⟩
  | 59 => some ⟨.struct #[⟨ "Low", 3, 0, false, "", "", 0⟩, ⟨ "High", 3, 1, false, "", "", 8⟩], 2, 16, [.int .i64 0, .int .i64 0], true⟩
  | 65 => some ⟨.struct #[⟨ "L", 26, 0, false, "", "", 0⟩, ⟨ "At", 3, 1, false, "", "", 24⟩], 2, 32, [.sl 0 1 [], .int .i64 0], true⟩
  | 66 => some ⟨.struct #[⟨ "L", 26, 0, false, "", "", 0⟩, ⟨ "At", 3, 1, false, "", "", 24⟩], 2, 32, [.sl 0 1 [], .int .i64 0], true⟩
  | 74 => some ⟨.int .u32, 1, 4, [.int .u32 0], false⟩
  | 78 => some ⟨.pointer 5, 1, 8, [.pnil], false⟩
  | _ => none

theorem okT_2 : TypeOk Try.prog 2 ⟨.int .i64, 1, 8, [.int .i64 0], false⟩ := typeOk_of (.int .i64 0) (by kernel_rfl) (by kernel_rfl) ⟨rfl, rfl⟩ rfl
theorem okT_3 : TypeOk Try.prog 3 ⟨.int .i64, 1, 8, [.int .i64 0], false⟩ := typeOk_of (.int .i64 0) (by kernel_rfl) (by kernel_rfl) ⟨rfl, rfl⟩ rfl
theorem okT_4 : TypeOk Try.prog 4 ⟨.bool, 1, 1, [.bool false], false⟩ := typeOk_of (.bool false) (by kernel_rfl) (by kernel_rfl) ⟨rfl, rfl⟩ rfl
theorem okT_5 : TypeOk Try.prog 5 ⟨.int .u8, 1, 1, [.int .u8 0], false⟩ := typeOk_of (.int .u8 0) (by kernel_rfl) (by kernel_rfl) ⟨rfl, rfl⟩ rfl
theorem okT_9 : TypeOk Try.prog 9 ⟨.string, 1, 16, [.str .empty], false⟩ := typeOk_of (.string .empty) (by kernel_rfl) (by kernel_rfl) ⟨rfl, rfl⟩ rfl
theorem okT_12 : TypeOk Try.prog 12 ⟨.int .u64, 1, 8, [.int .u64 0], false⟩ := typeOk_of (.int .u64 0) (by kernel_rfl) (by kernel_rfl) ⟨rfl, rfl⟩ rfl
theorem okT_21 : TypeOk Try.prog 21 ⟨.int .i32, 1, 4, [.int .i32 0], false⟩ := typeOk_of (.int .i32 0) (by kernel_rfl) (by kernel_rfl) ⟨rfl, rfl⟩ rfl
theorem okT_22 : TypeOk Try.prog 22 ⟨.slice 46, 1, 24, [.sl 0 1 []], false⟩ := typeOk_of (.slice none 0 0) (by kernel_rfl) (by kernel_rfl) ⟨rfl, rfl⟩ rfl
theorem okT_23 : TypeOk Try.prog 23 ⟨.slice 48, 1, 24, [.sl 0 1 []], false⟩ := typeOk_of (.slice none 0 0) (by kernel_rfl) (by kernel_rfl) ⟨rfl, rfl⟩ rfl
theorem okT_24 : TypeOk Try.prog 24 ⟨.slice 57, 1, 24, [.sl 0 1 []], false⟩ := typeOk_of (.slice none 0 0) (by kernel_rfl) (by kernel_rfl) ⟨rfl, rfl⟩ rfl
theorem okT_25 : TypeOk Try.prog 25 ⟨.slice 59, 1, 24, [.sl 0 1 []], false⟩ := typeOk_of (.slice none 0 0) (by kernel_rfl) (by kernel_rfl) ⟨rfl, rfl⟩ rfl
theorem okT_26 : TypeOk Try.prog 26 ⟨.slice 3, 1, 24, [.sl 0 1 []], false⟩ := typeOk_of (.slice none 0 0) (by kernel_rfl) (by kernel_rfl) ⟨rfl, rfl⟩ rfl
theorem okT_27 : TypeOk Try.prog 27 ⟨.struct #[⟨ "Regions", 3, 0, false, "", "", 0⟩, ⟨ "Zones", 22, 1, false, "", "", 8⟩, ⟨ "Cells", 23, 2, false, "", "", 32⟩, ⟨ "Tenants", 24, 3, false, "", "", 56⟩, ⟨ "Versions", 25, 4, false, "", "", 80⟩, ⟨ "Replicas", 26, 5, false, "", "", 104⟩, ⟨ "Observers", 26, 6, false, "", "", 128⟩, ⟨ "Blast", 3, 7, false, "", "", 152⟩, ⟨ "Lease", 3, 8, false, "", "", 160⟩, ⟨ "Bake", 3, 9, false, "", "", 168⟩], 10, 176, [.int .i64 0, .sl 0 1 [], .sl 0 1 [], .sl 0 1 [], .sl 0 1 [], .sl 0 1 [], .sl 0 1 [], .int .i64 0, .int .i64 0, .int .i64 0], true⟩ := typeOk_of (.agg #[.int .i64 0, .slice none 0 0, .slice none 0 0, .slice none 0 0, .slice none 0 0, .slice none 0 0, .slice none 0 0, .int .i64 0, .int .i64 0, .int .i64 0]) (by kernel_rfl) (by kernel_rfl) ⟨rfl, rfl⟩ rfl
theorem okT_28 : TypeOk Try.prog 28 ⟨.struct #[⟨ "Regions", 3, 0, false, "", "", 0⟩, ⟨ "Zones", 22, 1, false, "", "", 8⟩, ⟨ "Cells", 23, 2, false, "", "", 32⟩, ⟨ "Tenants", 24, 3, false, "", "", 56⟩, ⟨ "Versions", 25, 4, false, "", "", 80⟩, ⟨ "Replicas", 26, 5, false, "", "", 104⟩, ⟨ "Observers", 26, 6, false, "", "", 128⟩, ⟨ "Blast", 3, 7, false, "", "", 152⟩, ⟨ "Lease", 3, 8, false, "", "", 160⟩, ⟨ "Bake", 3, 9, false, "", "", 168⟩], 10, 176, [.int .i64 0, .sl 0 1 [], .sl 0 1 [], .sl 0 1 [], .sl 0 1 [], .sl 0 1 [], .sl 0 1 [], .int .i64 0, .int .i64 0, .int .i64 0], true⟩ := typeOk_of (.agg #[.int .i64 0, .slice none 0 0, .slice none 0 0, .slice none 0 0, .slice none 0 0, .slice none 0 0, .slice none 0 0, .int .i64 0, .int .i64 0, .int .i64 0]) (by kernel_rfl) (by kernel_rfl) ⟨rfl, rfl⟩ rfl
theorem okT_34 : TypeOk Try.prog 34 ⟨.int .i64, 1, 8, [.int .i64 0], false⟩ := typeOk_of (.int .i64 0) (by kernel_rfl) (by kernel_rfl) ⟨rfl, rfl⟩ rfl
theorem okT_45 : TypeOk Try.prog 45 ⟨.struct #[⟨ "Region", 3, 0, false, "", "", 0⟩], 1, 8, [.int .i64 0], true⟩ := typeOk_of (.agg #[.int .i64 0]) (by kernel_rfl) (by kernel_rfl) ⟨rfl, rfl⟩ rfl
theorem okT_46 : TypeOk Try.prog 46 ⟨.struct #[⟨ "Region", 3, 0, false, "", "", 0⟩], 1, 8, [.int .i64 0], true⟩ := typeOk_of (.agg #[.int .i64 0]) (by kernel_rfl) (by kernel_rfl) ⟨rfl, rfl⟩ rfl
theorem okT_47 : TypeOk Try.prog 47 ⟨.struct #[⟨ "Zone", 3, 0, false, "", "", 0⟩, ⟨ "Capacity", 3, 1, false, "", "", 8⟩], 2, 16, [.int .i64 0, .int .i64 0], true⟩ := typeOk_of (.agg #[.int .i64 0, .int .i64 0]) (by kernel_rfl) (by kernel_rfl) ⟨rfl, rfl⟩ rfl
theorem okT_48 : TypeOk Try.prog 48 ⟨.struct #[⟨ "Zone", 3, 0, false, "", "", 0⟩, ⟨ "Capacity", 3, 1, false, "", "", 8⟩], 2, 16, [.int .i64 0, .int .i64 0], true⟩ := typeOk_of (.agg #[.int .i64 0, .int .i64 0]) (by kernel_rfl) (by kernel_rfl) ⟨rfl, rfl⟩ rfl
theorem okT_49 : TypeOk Try.prog 49 ⟨.int .u64, 1, 8, [.int .u64 0], false⟩ := typeOk_of (.int .u64 0) (by kernel_rfl) (by kernel_rfl) ⟨rfl, rfl⟩ rfl
theorem okT_52 : TypeOk Try.prog 52 ⟨.pointer 66, 1, 8, [.pnil], false⟩ := typeOk_of (.pointer none) (by kernel_rfl) (by kernel_rfl) ⟨rfl, rfl⟩ rfl
theorem okT_56 : TypeOk Try.prog 56 ⟨.struct #[⟨ "Load", 3, 0, false, "", "", 0⟩, ⟨ "Shadow", 3, 1, false, "", "", 8⟩, ⟨ "Priority", 3, 2, false, "", "", 16⟩, ⟨ "Lag", 3, 3, false, "", "", 24⟩, ⟨ "Allowed", 3, 4, false, "", "", 32⟩, ⟨ "Group", 3, 5, false, "", "", 40⟩, ⟨ "Noisy", 4, 6, false, "", "", 48⟩], 7, 56, [.int .i64 0, .int .i64 0, .int .i64 0, .int .i64 0, .int .i64 0, .int .i64 0, .bool false], true⟩ := typeOk_of (.agg #[.int .i64 0, .int .i64 0, .int .i64 0, .int .i64 0, .int .i64 0, .int .i64 0, .bool false]) (by kernel_rfl) (by kernel_rfl) ⟨rfl, rfl⟩ rfl
theorem okT_57 : TypeOk Try.prog 57 ⟨.struct #[⟨ "Load", 3, 0, false, "", "", 0⟩, ⟨ "Shadow", 3, 1, false, "", "", 8⟩, ⟨ "Priority", 3, 2, false, "", "", 16⟩, ⟨ "Lag", 3, 3, false, "", "", 24⟩, ⟨ "Allowed", 3, 4, false, "", "", 32⟩, ⟨ "Group", 3, 5, false, "", "", 40⟩, ⟨ "Noisy", 4, 6, false, "", "", 48⟩], 7, 56, [.int .i64 0, .int .i64 0, .int .i64 0, .int .i64 0, .int .i64 0, .int .i64 0, .bool false], true⟩ := typeOk_of (.agg #[.int .i64 0, .int .i64 0, .int .i64 0, .int .i64 0, .int .i64 0, .int .i64 0, .bool false]) (by kernel_rfl) (by kernel_rfl) ⟨rfl, rfl⟩ rfl
theorem okT_58 : TypeOk Try.prog 58 ⟨.struct #[⟨ "Low", 3, 0, false, "", "", 0⟩, ⟨ "High", 3, 1, false, "", "", 8⟩], 2, 16, [.int .i64 0, .int .i64 0], true⟩ := typeOk_of (.agg #[.int .i64 0, .int .i64 0]) (by kernel_rfl) (by kernel_rfl) ⟨rfl, rfl⟩ rfl
theorem okT_59 : TypeOk Try.prog 59 ⟨.struct #[⟨ "Low", 3, 0, false, "", "", 0⟩, ⟨ "High", 3, 1, false, "", "", 8⟩], 2, 16, [.int .i64 0, .int .i64 0], true⟩ := typeOk_of (.agg #[.int .i64 0, .int .i64 0]) (by kernel_rfl) (by kernel_rfl) ⟨rfl, rfl⟩ rfl
theorem okT_65 : TypeOk Try.prog 65 ⟨.struct #[⟨ "L", 26, 0, false, "", "", 0⟩, ⟨ "At", 3, 1, false, "", "", 24⟩], 2, 32, [.sl 0 1 [], .int .i64 0], true⟩ := typeOk_of (.agg #[.slice none 0 0, .int .i64 0]) (by kernel_rfl) (by kernel_rfl) ⟨rfl, rfl⟩ rfl
theorem okT_66 : TypeOk Try.prog 66 ⟨.struct #[⟨ "L", 26, 0, false, "", "", 0⟩, ⟨ "At", 3, 1, false, "", "", 24⟩], 2, 32, [.sl 0 1 [], .int .i64 0], true⟩ := typeOk_of (.agg #[.slice none 0 0, .int .i64 0]) (by kernel_rfl) (by kernel_rfl) ⟨rfl, rfl⟩ rfl
theorem okT_74 : TypeOk Try.prog 74 ⟨.int .u32, 1, 4, [.int .u32 0], false⟩ := typeOk_of (.int .u32 0) (by kernel_rfl) (by kernel_rfl) ⟨rfl, rfl⟩ rfl
theorem okT_78 : TypeOk Try.prog 78 ⟨.pointer 5, 1, 8, [.pnil], false⟩ := typeOk_of (.pointer none) (by kernel_rfl) (by kernel_rfl) ⟨rfl, rfl⟩ rfl

theorem types_ok : TypesOk Try.prog T := by
  intro t ti h
  unfold T at h
  split at h
  · cases h; exact okT_2
  · cases h; exact okT_3
  · cases h; exact okT_4
  · cases h; exact okT_5
  · cases h; exact okT_9
  · cases h; exact okT_12
  · cases h; exact okT_21
  · cases h; exact okT_22
  · cases h; exact okT_23
  · cases h; exact okT_24
  · cases h; exact okT_25
  · cases h; exact okT_26
  · cases h; exact okT_27
  · cases h; exact okT_28
  · cases h; exact okT_34
  · cases h; exact okT_45
  · cases h; exact okT_46
  · cases h; exact okT_47
  · cases h; exact okT_48
  · cases h; exact okT_49
  · cases h; exact okT_52
  · cases h; exact okT_56
  · cases h; exact okT_57
  · cases h; exact okT_58
  · cases h; exact okT_59
  · cases h; exact okT_65
  · cases h; exact okT_66
  · cases h; exact okT_74
  · cases h; exact okT_78
  · cases h

@[simp] theorem T_2 : T 2 = some ⟨.int .i64, 1, 8, [.int .i64 0], false⟩ := rfl
@[simp] theorem D_2 : descOf T 2 = some (.int .i64) := rfl
@[simp] theorem S_2 : sizeT T 2 = some 1 := rfl
@[simp] theorem T_3 : T 3 = some ⟨.int .i64, 1, 8, [.int .i64 0], false⟩ := rfl
@[simp] theorem D_3 : descOf T 3 = some (.int .i64) := rfl
@[simp] theorem S_3 : sizeT T 3 = some 1 := rfl
@[simp] theorem T_4 : T 4 = some ⟨.bool, 1, 1, [.bool false], false⟩ := rfl
@[simp] theorem D_4 : descOf T 4 = some (.bool) := rfl
@[simp] theorem S_4 : sizeT T 4 = some 1 := rfl
@[simp] theorem T_5 : T 5 = some ⟨.int .u8, 1, 1, [.int .u8 0], false⟩ := rfl
@[simp] theorem D_5 : descOf T 5 = some (.int .u8) := rfl
@[simp] theorem S_5 : sizeT T 5 = some 1 := rfl
@[simp] theorem T_9 : T 9 = some ⟨.string, 1, 16, [.str .empty], false⟩ := rfl
@[simp] theorem D_9 : descOf T 9 = some (.string) := rfl
@[simp] theorem S_9 : sizeT T 9 = some 1 := rfl
@[simp] theorem T_12 : T 12 = some ⟨.int .u64, 1, 8, [.int .u64 0], false⟩ := rfl
@[simp] theorem D_12 : descOf T 12 = some (.int .u64) := rfl
@[simp] theorem S_12 : sizeT T 12 = some 1 := rfl
@[simp] theorem T_21 : T 21 = some ⟨.int .i32, 1, 4, [.int .i32 0], false⟩ := rfl
@[simp] theorem D_21 : descOf T 21 = some (.int .i32) := rfl
@[simp] theorem S_21 : sizeT T 21 = some 1 := rfl
@[simp] theorem T_22 : T 22 = some ⟨.slice 46, 1, 24, [.sl 0 1 []], false⟩ := rfl
@[simp] theorem D_22 : descOf T 22 = some (.slice 46) := rfl
@[simp] theorem S_22 : sizeT T 22 = some 1 := rfl
@[simp] theorem T_23 : T 23 = some ⟨.slice 48, 1, 24, [.sl 0 1 []], false⟩ := rfl
@[simp] theorem D_23 : descOf T 23 = some (.slice 48) := rfl
@[simp] theorem S_23 : sizeT T 23 = some 1 := rfl
@[simp] theorem T_24 : T 24 = some ⟨.slice 57, 1, 24, [.sl 0 1 []], false⟩ := rfl
@[simp] theorem D_24 : descOf T 24 = some (.slice 57) := rfl
@[simp] theorem S_24 : sizeT T 24 = some 1 := rfl
@[simp] theorem T_25 : T 25 = some ⟨.slice 59, 1, 24, [.sl 0 1 []], false⟩ := rfl
@[simp] theorem D_25 : descOf T 25 = some (.slice 59) := rfl
@[simp] theorem S_25 : sizeT T 25 = some 1 := rfl
@[simp] theorem T_26 : T 26 = some ⟨.slice 3, 1, 24, [.sl 0 1 []], false⟩ := rfl
@[simp] theorem D_26 : descOf T 26 = some (.slice 3) := rfl
@[simp] theorem S_26 : sizeT T 26 = some 1 := rfl
@[simp] theorem T_27 : T 27 = some ⟨.struct #[⟨ "Regions", 3, 0, false, "", "", 0⟩, ⟨ "Zones", 22, 1, false, "", "", 8⟩, ⟨ "Cells", 23, 2, false, "", "", 32⟩, ⟨ "Tenants", 24, 3, false, "", "", 56⟩, ⟨ "Versions", 25, 4, false, "", "", 80⟩, ⟨ "Replicas", 26, 5, false, "", "", 104⟩, ⟨ "Observers", 26, 6, false, "", "", 128⟩, ⟨ "Blast", 3, 7, false, "", "", 152⟩, ⟨ "Lease", 3, 8, false, "", "", 160⟩, ⟨ "Bake", 3, 9, false, "", "", 168⟩], 10, 176, [.int .i64 0, .sl 0 1 [], .sl 0 1 [], .sl 0 1 [], .sl 0 1 [], .sl 0 1 [], .sl 0 1 [], .int .i64 0, .int .i64 0, .int .i64 0], true⟩ := rfl
@[simp] theorem D_27 : descOf T 27 = some (.struct #[⟨ "Regions", 3, 0, false, "", "", 0⟩, ⟨ "Zones", 22, 1, false, "", "", 8⟩, ⟨ "Cells", 23, 2, false, "", "", 32⟩, ⟨ "Tenants", 24, 3, false, "", "", 56⟩, ⟨ "Versions", 25, 4, false, "", "", 80⟩, ⟨ "Replicas", 26, 5, false, "", "", 104⟩, ⟨ "Observers", 26, 6, false, "", "", 128⟩, ⟨ "Blast", 3, 7, false, "", "", 152⟩, ⟨ "Lease", 3, 8, false, "", "", 160⟩, ⟨ "Bake", 3, 9, false, "", "", 168⟩]) := rfl
@[simp] theorem S_27 : sizeT T 27 = some 10 := rfl
@[simp] theorem T_28 : T 28 = some ⟨.struct #[⟨ "Regions", 3, 0, false, "", "", 0⟩, ⟨ "Zones", 22, 1, false, "", "", 8⟩, ⟨ "Cells", 23, 2, false, "", "", 32⟩, ⟨ "Tenants", 24, 3, false, "", "", 56⟩, ⟨ "Versions", 25, 4, false, "", "", 80⟩, ⟨ "Replicas", 26, 5, false, "", "", 104⟩, ⟨ "Observers", 26, 6, false, "", "", 128⟩, ⟨ "Blast", 3, 7, false, "", "", 152⟩, ⟨ "Lease", 3, 8, false, "", "", 160⟩, ⟨ "Bake", 3, 9, false, "", "", 168⟩], 10, 176, [.int .i64 0, .sl 0 1 [], .sl 0 1 [], .sl 0 1 [], .sl 0 1 [], .sl 0 1 [], .sl 0 1 [], .int .i64 0, .int .i64 0, .int .i64 0], true⟩ := rfl
@[simp] theorem D_28 : descOf T 28 = some (.struct #[⟨ "Regions", 3, 0, false, "", "", 0⟩, ⟨ "Zones", 22, 1, false, "", "", 8⟩, ⟨ "Cells", 23, 2, false, "", "", 32⟩, ⟨ "Tenants", 24, 3, false, "", "", 56⟩, ⟨ "Versions", 25, 4, false, "", "", 80⟩, ⟨ "Replicas", 26, 5, false, "", "", 104⟩, ⟨ "Observers", 26, 6, false, "", "", 128⟩, ⟨ "Blast", 3, 7, false, "", "", 152⟩, ⟨ "Lease", 3, 8, false, "", "", 160⟩, ⟨ "Bake", 3, 9, false, "", "", 168⟩]) := rfl
@[simp] theorem S_28 : sizeT T 28 = some 10 := rfl
@[simp] theorem T_34 : T 34 = some ⟨.int .i64, 1, 8, [.int .i64 0], false⟩ := rfl
@[simp] theorem D_34 : descOf T 34 = some (.int .i64) := rfl
@[simp] theorem S_34 : sizeT T 34 = some 1 := rfl
@[simp] theorem T_45 : T 45 = some ⟨.struct #[⟨ "Region", 3, 0, false, "", "", 0⟩], 1, 8, [.int .i64 0], true⟩ := rfl
@[simp] theorem D_45 : descOf T 45 = some (.struct #[⟨ "Region", 3, 0, false, "", "", 0⟩]) := rfl
@[simp] theorem S_45 : sizeT T 45 = some 1 := rfl
@[simp] theorem T_46 : T 46 = some ⟨.struct #[⟨ "Region", 3, 0, false, "", "", 0⟩], 1, 8, [.int .i64 0], true⟩ := rfl
@[simp] theorem D_46 : descOf T 46 = some (.struct #[⟨ "Region", 3, 0, false, "", "", 0⟩]) := rfl
@[simp] theorem S_46 : sizeT T 46 = some 1 := rfl
@[simp] theorem T_47 : T 47 = some ⟨.struct #[⟨ "Zone", 3, 0, false, "", "", 0⟩, ⟨ "Capacity", 3, 1, false, "", "", 8⟩], 2, 16, [.int .i64 0, .int .i64 0], true⟩ := rfl
@[simp] theorem D_47 : descOf T 47 = some (.struct #[⟨ "Zone", 3, 0, false, "", "", 0⟩, ⟨ "Capacity", 3, 1, false, "", "", 8⟩]) := rfl
@[simp] theorem S_47 : sizeT T 47 = some 2 := rfl
@[simp] theorem T_48 : T 48 = some ⟨.struct #[⟨ "Zone", 3, 0, false, "", "", 0⟩, ⟨ "Capacity", 3, 1, false, "", "", 8⟩], 2, 16, [.int .i64 0, .int .i64 0], true⟩ := rfl
@[simp] theorem D_48 : descOf T 48 = some (.struct #[⟨ "Zone", 3, 0, false, "", "", 0⟩, ⟨ "Capacity", 3, 1, false, "", "", 8⟩]) := rfl
@[simp] theorem S_48 : sizeT T 48 = some 2 := rfl
@[simp] theorem T_49 : T 49 = some ⟨.int .u64, 1, 8, [.int .u64 0], false⟩ := rfl
@[simp] theorem D_49 : descOf T 49 = some (.int .u64) := rfl
@[simp] theorem S_49 : sizeT T 49 = some 1 := rfl
@[simp] theorem T_52 : T 52 = some ⟨.pointer 66, 1, 8, [.pnil], false⟩ := rfl
@[simp] theorem D_52 : descOf T 52 = some (.pointer 66) := rfl
@[simp] theorem S_52 : sizeT T 52 = some 1 := rfl
@[simp] theorem T_56 : T 56 = some ⟨.struct #[⟨ "Load", 3, 0, false, "", "", 0⟩, ⟨ "Shadow", 3, 1, false, "", "", 8⟩, ⟨ "Priority", 3, 2, false, "", "", 16⟩, ⟨ "Lag", 3, 3, false, "", "", 24⟩, ⟨ "Allowed", 3, 4, false, "", "", 32⟩, ⟨ "Group", 3, 5, false, "", "", 40⟩, ⟨ "Noisy", 4, 6, false, "", "", 48⟩], 7, 56, [.int .i64 0, .int .i64 0, .int .i64 0, .int .i64 0, .int .i64 0, .int .i64 0, .bool false], true⟩ := rfl
@[simp] theorem D_56 : descOf T 56 = some (.struct #[⟨ "Load", 3, 0, false, "", "", 0⟩, ⟨ "Shadow", 3, 1, false, "", "", 8⟩, ⟨ "Priority", 3, 2, false, "", "", 16⟩, ⟨ "Lag", 3, 3, false, "", "", 24⟩, ⟨ "Allowed", 3, 4, false, "", "", 32⟩, ⟨ "Group", 3, 5, false, "", "", 40⟩, ⟨ "Noisy", 4, 6, false, "", "", 48⟩]) := rfl
@[simp] theorem S_56 : sizeT T 56 = some 7 := rfl
@[simp] theorem T_57 : T 57 = some ⟨.struct #[⟨ "Load", 3, 0, false, "", "", 0⟩, ⟨ "Shadow", 3, 1, false, "", "", 8⟩, ⟨ "Priority", 3, 2, false, "", "", 16⟩, ⟨ "Lag", 3, 3, false, "", "", 24⟩, ⟨ "Allowed", 3, 4, false, "", "", 32⟩, ⟨ "Group", 3, 5, false, "", "", 40⟩, ⟨ "Noisy", 4, 6, false, "", "", 48⟩], 7, 56, [.int .i64 0, .int .i64 0, .int .i64 0, .int .i64 0, .int .i64 0, .int .i64 0, .bool false], true⟩ := rfl
@[simp] theorem D_57 : descOf T 57 = some (.struct #[⟨ "Load", 3, 0, false, "", "", 0⟩, ⟨ "Shadow", 3, 1, false, "", "", 8⟩, ⟨ "Priority", 3, 2, false, "", "", 16⟩, ⟨ "Lag", 3, 3, false, "", "", 24⟩, ⟨ "Allowed", 3, 4, false, "", "", 32⟩, ⟨ "Group", 3, 5, false, "", "", 40⟩, ⟨ "Noisy", 4, 6, false, "", "", 48⟩]) := rfl
@[simp] theorem S_57 : sizeT T 57 = some 7 := rfl
@[simp] theorem T_58 : T 58 = some ⟨.struct #[⟨ "Low", 3, 0, false, "", "", 0⟩, ⟨ "High", 3, 1, false, "", "", 8⟩], 2, 16, [.int .i64 0, .int .i64 0], true⟩ := rfl
@[simp] theorem D_58 : descOf T 58 = some (.struct #[⟨ "Low", 3, 0, false, "", "", 0⟩, ⟨ "High", 3, 1, false, "", "", 8⟩]) := rfl
@[simp] theorem S_58 : sizeT T 58 = some 2 := rfl
@[simp] theorem T_59 : T 59 = some ⟨.struct #[⟨ "Low", 3, 0, false, "", "", 0⟩, ⟨ "High", 3, 1, false, "", "", 8⟩], 2, 16, [.int .i64 0, .int .i64 0], true⟩ := rfl
@[simp] theorem D_59 : descOf T 59 = some (.struct #[⟨ "Low", 3, 0, false, "", "", 0⟩, ⟨ "High", 3, 1, false, "", "", 8⟩]) := rfl
@[simp] theorem S_59 : sizeT T 59 = some 2 := rfl
@[simp] theorem T_65 : T 65 = some ⟨.struct #[⟨ "L", 26, 0, false, "", "", 0⟩, ⟨ "At", 3, 1, false, "", "", 24⟩], 2, 32, [.sl 0 1 [], .int .i64 0], true⟩ := rfl
@[simp] theorem D_65 : descOf T 65 = some (.struct #[⟨ "L", 26, 0, false, "", "", 0⟩, ⟨ "At", 3, 1, false, "", "", 24⟩]) := rfl
@[simp] theorem S_65 : sizeT T 65 = some 2 := rfl
@[simp] theorem T_66 : T 66 = some ⟨.struct #[⟨ "L", 26, 0, false, "", "", 0⟩, ⟨ "At", 3, 1, false, "", "", 24⟩], 2, 32, [.sl 0 1 [], .int .i64 0], true⟩ := rfl
@[simp] theorem D_66 : descOf T 66 = some (.struct #[⟨ "L", 26, 0, false, "", "", 0⟩, ⟨ "At", 3, 1, false, "", "", 24⟩]) := rfl
@[simp] theorem S_66 : sizeT T 66 = some 2 := rfl
@[simp] theorem T_74 : T 74 = some ⟨.int .u32, 1, 4, [.int .u32 0], false⟩ := rfl
@[simp] theorem D_74 : descOf T 74 = some (.int .u32) := rfl
@[simp] theorem S_74 : sizeT T 74 = some 1 := rfl
@[simp] theorem T_78 : T 78 = some ⟨.pointer 5, 1, 8, [.pnil], false⟩ := rfl
@[simp] theorem D_78 : descOf T 78 = some (.pointer 5) := rfl
@[simp] theorem S_78 : sizeT T 78 = some 1 := rfl

def C0 : FuncId → List V → List AObj → Option CRes := fun _ _ _ => none
theorem C0_ok : SpecsOk Try.prog C0 := fun f ⟨_, _, _, h⟩ => by cases h
theorem follows : Try.prog.follows .mixedOrders = true := by kernel_rfl
end Go.Proofs.Ytgmmhhackiimcaa
