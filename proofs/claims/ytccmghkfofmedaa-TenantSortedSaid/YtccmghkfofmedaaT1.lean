/-
  The program's types.
-/
import Derived.Test.YtccmghkfofmedaaRows
import Derived.Test.YtccmghkfofmedaaPLC
import Derived.KernelRfl
namespace Go.Proofs.Ytccmghkfofmedaa
open Go.Lift

theorem typeOk_of {P : Program} {t : TypeId} {ti : TI} (z : Value) (h1 : P.underlying t = some ti.desc) (h2 : (P.info? t).map (fun i => (i.zero, i.size, i.bytes)) = some (some z, ti.size, ti.bytes)) (h3 : z.cells.size = ti.size ∧ z.cells.toList.map ofCell = ti.zero)
    (h4 : ti.agg = (match ti.desc with | .struct _ | .array _ _ => true | _ => false)) : TypeOk P t ti := by
  refine ⟨h1, ?_, h4⟩
  cases hi : P.info? t with
  | none => rw [hi] at h2; cases h2
  | some i =>
    rw [hi] at h2
    simp only [Option.map_some, Option.some.injEq, Prod.mk.injEq] at h2
    exact ⟨i, z, rfl, h2.2.1, h2.2.2, h2.1, h3.1, h3.2⟩

def T (t : TypeId) : Option TI := match t with
  | 2 => some ⟨.int .i64, 1, 8, [.int .i64 0], false⟩
  | 3 => some ⟨.int .i64, 1, 8, [.int .i64 0], false⟩
  | 4 => some ⟨.bool, 1, 1, [.bool false], false⟩
  | 5 => some ⟨.int .u8, 1, 1, [.int .u8 0], false⟩
  | 9 => some ⟨.string, 1, 16, [.str .empty], false⟩
  | 12 => some ⟨.int .u64, 1, 8, [.int .u64 0], false⟩
  | 21 => some ⟨.int .i32, 1, 4, [.int .i32 0], false⟩
  | 22 => some ⟨.slice 59, 1, 24, [.sl 0 1 []], false⟩
  | 23 => some ⟨.slice 61, 1, 24, [.sl 0 1 []], false⟩
  | 24 => some ⟨.slice 38, 1, 24, [.sl 0 1 []], false⟩
  | 25 => some ⟨.slice 63, 1, 24, [.sl 0 1 []], false⟩
  | 26 => some ⟨.slice 3, 1, 24, [.sl 0 1 []], false⟩
  | 27 => some ⟨.struct #[⟨ "Regions", 3, 0, false, "", "", 0⟩, ⟨ "Zones", 22, 1, false, "", "", 8⟩, ⟨ "Cells", 23, 2, false, "", "", 32⟩, ⟨ "Tenants", 24, 3, false, "", "", 56⟩, ⟨ "Versions", 25, 4, false, "", "", 80⟩, ⟨ "Replicas", 26, 5, false, "", "", 104⟩, ⟨ "Observers", 26, 6, false, "", "", 128⟩, ⟨ "Blast", 3, 7, false, "", "", 152⟩, ⟨ "Lease", 3, 8, false, "", "", 160⟩, ⟨ "Bake", 3, 9, false, "", "", 168⟩], 10, 176, [.int .i64 0, .sl 0 1 [], .sl 0 1 [], .sl 0 1 [], .sl 0 1 [], .sl 0 1 [], .sl 0 1 [], .int .i64 0, .int .i64 0, .int .i64 0], true⟩
  | 28 => some ⟨.struct #[⟨ "Regions", 3, 0, false, "", "", 0⟩, ⟨ "Zones", 22, 1, false, "", "", 8⟩, ⟨ "Cells", 23, 2, false, "", "", 32⟩, ⟨ "Tenants", 24, 3, false, "", "", 56⟩, ⟨ "Versions", 25, 4, false, "", "", 80⟩, ⟨ "Replicas", 26, 5, false, "", "", 104⟩, ⟨ "Observers", 26, 6, false, "", "", 128⟩, ⟨ "Blast", 3, 7, false, "", "", 152⟩, ⟨ "Lease", 3, 8, false, "", "", 160⟩, ⟨ "Bake", 3, 9, false, "", "", 168⟩], 10, 176, [.int .i64 0, .sl 0 1 [], .sl 0 1 [], .sl 0 1 [], .sl 0 1 [], .sl 0 1 [], .sl 0 1 [], .int .i64 0, .int .i64 0, .int .i64 0], true⟩
  | 34 => some ⟨.int .i64, 1, 8, [.int .i64 0], false⟩
  | 37 => some ⟨.struct #[⟨ "Load", 3, 0, false, "", "", 0⟩, ⟨ "Shadow", 3, 1, false, "", "", 8⟩, ⟨ "Priority", 3, 2, false, "", "", 16⟩, ⟨ "Lag", 3, 3, false, "", "", 24⟩, ⟨ "Allowed", 3, 4, false, "", "", 32⟩, ⟨ "Group", 3, 5, false, "", "", 40⟩, ⟨ "Noisy", 4, 6, false, "", "", 48⟩], 7, 56, [.int .i64 0, .int .i64 0, .int .i64 0, .int .i64 0, .int .i64 0, .int .i64 0, .bool false], true⟩
  | 38 => some ⟨.struct #[⟨ "Load", 3, 0, false, "", "", 0⟩, ⟨ "Shadow", 3, 1, false, "", "", 8⟩, ⟨ "Priority", 3, 2, false, "", "", 16⟩, ⟨ "Lag", 3, 3, false, "", "", 24⟩, ⟨ "Allowed", 3, 4, false, "", "", 32⟩, ⟨ "Group", 3, 5, false, "", "", 40⟩, ⟨ "Noisy", 4, 6, false, "", "", 48⟩], 7, 56, [.int .i64 0, .int .i64 0, .int .i64 0, .int .i64 0, .int .i64 0, .int .i64 0, .bool false], true⟩
  | 50 => some ⟨.int .u64, 1, 8, [.int .u64 0], false⟩
  | 54 => some ⟨.pointer 69, 1, 8, [.pnil], false⟩
  | 58 => some ⟨.struct #[⟨ "Region", 3, 0, false, "", "", 0⟩], 1, 8, [.int .i64 0], true⟩
  | 59 => some ⟨.struct #[⟨ "Region", 3, 0, false, "", "", 0⟩], 1, 8, [.int .i64 0], true⟩
  | 60 => some ⟨.struct #[⟨ "Zone", 3, 0, false, "", "", 0⟩, ⟨ "Capacity", 3, 1, false, "", "", 8⟩], 2, 16, [.int .i64 0, .int .i64 0], true⟩
  | 61 => some ⟨.struct #[⟨ "Zone", 3, 0, false, "", "", 0⟩, ⟨ "Capacity", 3, 1, false, "", "", 8⟩], 2, 16, [.int .i64 0, .int .i64 0], true⟩
  | 62 => some ⟨.struct #[⟨ "Low", 3, 0, false, "", "", 0⟩, ⟨ "High", 3, 1, false, "", "", 8⟩], 2, 16, [.int .i64 0, .int .i64 0], true⟩
  | 63 => some ⟨.struct #[⟨ "Low", 3, 0, false, "", "", 0⟩, ⟨ "High", 3, 1, false, "", "", 8⟩], 2, 16, [.int .i64 0, .int .i64 0], true⟩
  | 68 => some ⟨.struct #[⟨ "L", 26, 0, false, "", "", 0⟩, ⟨ "At", 3, 1, false, "", "", 24⟩], 2, 32, [.sl 0 1 [], .int .i64 0], true⟩
  | 69 => some ⟨.struct #[⟨ "L", 26, 0, false, "", "", 0⟩, ⟨ "At", 3, 1, false, "", "", 24⟩], 2, 32, [.sl 0 1 [], .int .i64 0], true⟩
  | 76 => some ⟨.int .i64, 1, 8, [.int .i64 0], false⟩
  | 84 => some ⟨.int .u32, 1, 4, [.int .u32 0], false⟩
  | 86 => some ⟨.int .u64, 1, 8, [.int .u64 0], false⟩
  | 87 => some ⟨.int .u64, 1, 8, [.int .u64 0], false⟩
  | 91 => some ⟨.pointer 3, 1, 8, [.pnil], false⟩
  | 93 => some ⟨.pointer 87, 1, 8, [.pnil], false⟩
  | 106 => some ⟨.pointer 5, 1, 8, [.pnil], false⟩
  | _ => none

theorem okT_2 : TypeOk Try.prog 2 ⟨.int .i64, 1, 8, [.int .i64 0], false⟩ := typeOk_of (.int .i64 0) (by kernel_rfl) (by kernel_rfl) ⟨rfl, rfl⟩ rfl
theorem okT_3 : TypeOk Try.prog 3 ⟨.int .i64, 1, 8, [.int .i64 0], false⟩ := typeOk_of (.int .i64 0) (by kernel_rfl) (by kernel_rfl) ⟨rfl, rfl⟩ rfl
theorem okT_4 : TypeOk Try.prog 4 ⟨.bool, 1, 1, [.bool false], false⟩ := typeOk_of (.bool false) (by kernel_rfl) (by kernel_rfl) ⟨rfl, rfl⟩ rfl
theorem okT_5 : TypeOk Try.prog 5 ⟨.int .u8, 1, 1, [.int .u8 0], false⟩ := typeOk_of (.int .u8 0) (by kernel_rfl) (by kernel_rfl) ⟨rfl, rfl⟩ rfl
theorem okT_9 : TypeOk Try.prog 9 ⟨.string, 1, 16, [.str .empty], false⟩ := typeOk_of (.string .empty) (by kernel_rfl) (by kernel_rfl) ⟨rfl, rfl⟩ rfl
theorem okT_12 : TypeOk Try.prog 12 ⟨.int .u64, 1, 8, [.int .u64 0], false⟩ := typeOk_of (.int .u64 0) (by kernel_rfl) (by kernel_rfl) ⟨rfl, rfl⟩ rfl
theorem okT_21 : TypeOk Try.prog 21 ⟨.int .i32, 1, 4, [.int .i32 0], false⟩ := typeOk_of (.int .i32 0) (by kernel_rfl) (by kernel_rfl) ⟨rfl, rfl⟩ rfl
theorem okT_22 : TypeOk Try.prog 22 ⟨.slice 59, 1, 24, [.sl 0 1 []], false⟩ := typeOk_of (.slice none 0 0) (by kernel_rfl) (by kernel_rfl) ⟨rfl, rfl⟩ rfl
theorem okT_23 : TypeOk Try.prog 23 ⟨.slice 61, 1, 24, [.sl 0 1 []], false⟩ := typeOk_of (.slice none 0 0) (by kernel_rfl) (by kernel_rfl) ⟨rfl, rfl⟩ rfl
theorem okT_24 : TypeOk Try.prog 24 ⟨.slice 38, 1, 24, [.sl 0 1 []], false⟩ := typeOk_of (.slice none 0 0) (by kernel_rfl) (by kernel_rfl) ⟨rfl, rfl⟩ rfl
theorem okT_25 : TypeOk Try.prog 25 ⟨.slice 63, 1, 24, [.sl 0 1 []], false⟩ := typeOk_of (.slice none 0 0) (by kernel_rfl) (by kernel_rfl) ⟨rfl, rfl⟩ rfl
theorem okT_26 : TypeOk Try.prog 26 ⟨.slice 3, 1, 24, [.sl 0 1 []], false⟩ := typeOk_of (.slice none 0 0) (by kernel_rfl) (by kernel_rfl) ⟨rfl, rfl⟩ rfl
theorem okT_27 : TypeOk Try.prog 27 ⟨.struct #[⟨ "Regions", 3, 0, false, "", "", 0⟩, ⟨ "Zones", 22, 1, false, "", "", 8⟩, ⟨ "Cells", 23, 2, false, "", "", 32⟩, ⟨ "Tenants", 24, 3, false, "", "", 56⟩, ⟨ "Versions", 25, 4, false, "", "", 80⟩, ⟨ "Replicas", 26, 5, false, "", "", 104⟩, ⟨ "Observers", 26, 6, false, "", "", 128⟩, ⟨ "Blast", 3, 7, false, "", "", 152⟩, ⟨ "Lease", 3, 8, false, "", "", 160⟩, ⟨ "Bake", 3, 9, false, "", "", 168⟩], 10, 176, [.int .i64 0, .sl 0 1 [], .sl 0 1 [], .sl 0 1 [], .sl 0 1 [], .sl 0 1 [], .sl 0 1 [], .int .i64 0, .int .i64 0, .int .i64 0], true⟩ := typeOk_of (.agg #[.int .i64 0, .slice none 0 0, .slice none 0 0, .slice none 0 0, .slice none 0 0, .slice none 0 0, .slice none 0 0, .int .i64 0, .int .i64 0, .int .i64 0]) (by kernel_rfl) (by kernel_rfl) ⟨rfl, rfl⟩ rfl
theorem okT_28 : TypeOk Try.prog 28 ⟨.struct #[⟨ "Regions", 3, 0, false, "", "", 0⟩, ⟨ "Zones", 22, 1, false, "", "", 8⟩, ⟨ "Cells", 23, 2, false, "", "", 32⟩, ⟨ "Tenants", 24, 3, false, "", "", 56⟩, ⟨ "Versions", 25, 4, false, "", "", 80⟩, ⟨ "Replicas", 26, 5, false, "", "", 104⟩, ⟨ "Observers", 26, 6, false, "", "", 128⟩, ⟨ "Blast", 3, 7, false, "", "", 152⟩, ⟨ "Lease", 3, 8, false, "", "", 160⟩, ⟨ "Bake", 3, 9, false, "", "", 168⟩], 10, 176, [.int .i64 0, .sl 0 1 [], .sl 0 1 [], .sl 0 1 [], .sl 0 1 [], .sl 0 1 [], .sl 0 1 [], .int .i64 0, .int .i64 0, .int .i64 0], true⟩ := typeOk_of (.agg #[.int .i64 0, .slice none 0 0, .slice none 0 0, .slice none 0 0, .slice none 0 0, .slice none 0 0, .slice none 0 0, .int .i64 0, .int .i64 0, .int .i64 0]) (by kernel_rfl) (by kernel_rfl) ⟨rfl, rfl⟩ rfl
theorem okT_34 : TypeOk Try.prog 34 ⟨.int .i64, 1, 8, [.int .i64 0], false⟩ := typeOk_of (.int .i64 0) (by kernel_rfl) (by kernel_rfl) ⟨rfl, rfl⟩ rfl
theorem okT_37 : TypeOk Try.prog 37 ⟨.struct #[⟨ "Load", 3, 0, false, "", "", 0⟩, ⟨ "Shadow", 3, 1, false, "", "", 8⟩, ⟨ "Priority", 3, 2, false, "", "", 16⟩, ⟨ "Lag", 3, 3, false, "", "", 24⟩, ⟨ "Allowed", 3, 4, false, "", "", 32⟩, ⟨ "Group", 3, 5, false, "", "", 40⟩, ⟨ "Noisy", 4, 6, false, "", "", 48⟩], 7, 56, [.int .i64 0, .int .i64 0, .int .i64 0, .int .i64 0, .int .i64 0, .int .i64 0, .bool false], true⟩ := typeOk_of (.agg #[.int .i64 0, .int .i64 0, .int .i64 0, .int .i64 0, .int .i64 0, .int .i64 0, .bool false]) (by kernel_rfl) (by kernel_rfl) ⟨rfl, rfl⟩ rfl
theorem okT_38 : TypeOk Try.prog 38 ⟨.struct #[⟨ "Load", 3, 0, false, "", "", 0⟩, ⟨ "Shadow", 3, 1, false, "", "", 8⟩, ⟨ "Priority", 3, 2, false, "", "", 16⟩, ⟨ "Lag", 3, 3, false, "", "", 24⟩, ⟨ "Allowed", 3, 4, false, "", "", 32⟩, ⟨ "Group", 3, 5, false, "", "", 40⟩, ⟨ "Noisy", 4, 6, false, "", "", 48⟩], 7, 56, [.int .i64 0, .int .i64 0, .int .i64 0, .int .i64 0, .int .i64 0, .int .i64 0, .bool false], true⟩ := typeOk_of (.agg #[.int .i64 0, .int .i64 0, .int .i64 0, .int .i64 0, .int .i64 0, .int .i64 0, .bool false]) (by kernel_rfl) (by kernel_rfl) ⟨rfl, rfl⟩ rfl
theorem okT_50 : TypeOk Try.prog 50 ⟨.int .u64, 1, 8, [.int .u64 0], false⟩ := typeOk_of (.int .u64 0) (by kernel_rfl) (by kernel_rfl) ⟨rfl, rfl⟩ rfl
theorem okT_54 : TypeOk Try.prog 54 ⟨.pointer 69, 1, 8, [.pnil], false⟩ := typeOk_of (.pointer none) (by kernel_rfl) (by kernel_rfl) ⟨rfl, rfl⟩ rfl
theorem okT_58 : TypeOk Try.prog 58 ⟨.struct #[⟨ "Region", 3, 0, false, "", "", 0⟩], 1, 8, [.int .i64 0], true⟩ := typeOk_of (.agg #[.int .i64 0]) (by kernel_rfl) (by kernel_rfl) ⟨rfl, rfl⟩ rfl
theorem okT_59 : TypeOk Try.prog 59 ⟨.struct #[⟨ "Region", 3, 0, false, "", "", 0⟩], 1, 8, [.int .i64 0], true⟩ := typeOk_of (.agg #[.int .i64 0]) (by kernel_rfl) (by kernel_rfl) ⟨rfl, rfl⟩ rfl
theorem okT_60 : TypeOk Try.prog 60 ⟨.struct #[⟨ "Zone", 3, 0, false, "", "", 0⟩, ⟨ "Capacity", 3, 1, false, "", "", 8⟩], 2, 16, [.int .i64 0, .int .i64 0], true⟩ := typeOk_of (.agg #[.int .i64 0, .int .i64 0]) (by kernel_rfl) (by kernel_rfl) ⟨rfl, rfl⟩ rfl
theorem okT_61 : TypeOk Try.prog 61 ⟨.struct #[⟨ "Zone", 3, 0, false, "", "", 0⟩, ⟨ "Capacity", 3, 1, false, "", "", 8⟩], 2, 16, [.int .i64 0, .int .i64 0], true⟩ := typeOk_of (.agg #[.int .i64 0, .int .i64 0]) (by kernel_rfl) (by kernel_rfl) ⟨rfl, rfl⟩ rfl
theorem okT_62 : TypeOk Try.prog 62 ⟨.struct #[⟨ "Low", 3, 0, false, "", "", 0⟩, ⟨ "High", 3, 1, false, "", "", 8⟩], 2, 16, [.int .i64 0, .int .i64 0], true⟩ := typeOk_of (.agg #[.int .i64 0, .int .i64 0]) (by kernel_rfl) (by kernel_rfl) ⟨rfl, rfl⟩ rfl
theorem okT_63 : TypeOk Try.prog 63 ⟨.struct #[⟨ "Low", 3, 0, false, "", "", 0⟩, ⟨ "High", 3, 1, false, "", "", 8⟩], 2, 16, [.int .i64 0, .int .i64 0], true⟩ := typeOk_of (.agg #[.int .i64 0, .int .i64 0]) (by kernel_rfl) (by kernel_rfl) ⟨rfl, rfl⟩ rfl
theorem okT_68 : TypeOk Try.prog 68 ⟨.struct #[⟨ "L", 26, 0, false, "", "", 0⟩, ⟨ "At", 3, 1, false, "", "", 24⟩], 2, 32, [.sl 0 1 [], .int .i64 0], true⟩ := typeOk_of (.agg #[.slice none 0 0, .int .i64 0]) (by kernel_rfl) (by kernel_rfl) ⟨rfl, rfl⟩ rfl
theorem okT_69 : TypeOk Try.prog 69 ⟨.struct #[⟨ "L", 26, 0, false, "", "", 0⟩, ⟨ "At", 3, 1, false, "", "", 24⟩], 2, 32, [.sl 0 1 [], .int .i64 0], true⟩ := typeOk_of (.agg #[.slice none 0 0, .int .i64 0]) (by kernel_rfl) (by kernel_rfl) ⟨rfl, rfl⟩ rfl
theorem okT_76 : TypeOk Try.prog 76 ⟨.int .i64, 1, 8, [.int .i64 0], false⟩ := typeOk_of (.int .i64 0) (by kernel_rfl) (by kernel_rfl) ⟨rfl, rfl⟩ rfl
theorem okT_84 : TypeOk Try.prog 84 ⟨.int .u32, 1, 4, [.int .u32 0], false⟩ := typeOk_of (.int .u32 0) (by kernel_rfl) (by kernel_rfl) ⟨rfl, rfl⟩ rfl
theorem okT_86 : TypeOk Try.prog 86 ⟨.int .u64, 1, 8, [.int .u64 0], false⟩ := typeOk_of (.int .u64 0) (by kernel_rfl) (by kernel_rfl) ⟨rfl, rfl⟩ rfl
theorem okT_87 : TypeOk Try.prog 87 ⟨.int .u64, 1, 8, [.int .u64 0], false⟩ := typeOk_of (.int .u64 0) (by kernel_rfl) (by kernel_rfl) ⟨rfl, rfl⟩ rfl
theorem okT_91 : TypeOk Try.prog 91 ⟨.pointer 3, 1, 8, [.pnil], false⟩ := typeOk_of (.pointer none) (by kernel_rfl) (by kernel_rfl) ⟨rfl, rfl⟩ rfl
theorem okT_93 : TypeOk Try.prog 93 ⟨.pointer 87, 1, 8, [.pnil], false⟩ := typeOk_of (.pointer none) (by kernel_rfl) (by kernel_rfl) ⟨rfl, rfl⟩ rfl
theorem okT_106 : TypeOk Try.prog 106 ⟨.pointer 5, 1, 8, [.pnil], false⟩ := typeOk_of (.pointer none) (by kernel_rfl) (by kernel_rfl) ⟨rfl, rfl⟩ rfl

theorem types_ok : TypesOk Try.prog T := by
  intro t ti h
  unfold T at h
  split at h
  · cases h; exact okT_2
  · cases h; exact okT_3
  · cases h; exact okT_4
  · cases h; exact okT_5
  · cases h; exact okT_9
  · cases h; exact okT_12
  · cases h; exact okT_21
  · cases h; exact okT_22
  · cases h; exact okT_23
  · cases h; exact okT_24
  · cases h; exact okT_25
  · cases h; exact okT_26
  · cases h; exact okT_27
  · cases h; exact okT_28
  · cases h; exact okT_34
  · cases h; exact okT_37
  · cases h; exact okT_38
  · cases h; exact okT_50
  · cases h; exact okT_54
  · cases h; exact okT_58
  · cases h; exact okT_59
  · cases h; exact okT_60
  · cases h; exact okT_61
  · cases h; exact okT_62
  · cases h; exact okT_63
  · cases h; exact okT_68
  · cases h; exact okT_69
  · cases h; exact okT_76
  · cases h; exact okT_84
  · cases h; exact okT_86
  · cases h; exact okT_87
  · cases h; exact okT_91
  · cases h; exact okT_93
  · cases h; exact okT_106
  · cases h

@[simp] theorem T_2 : T 2 = some ⟨.int .i64, 1, 8, [.int .i64 0], false⟩ := rfl
@[simp] theorem D_2 : descOf T 2 = some (.int .i64) := rfl
@[simp] theorem S_2 : sizeT T 2 = some 1 := rfl
@[simp] theorem T_3 : T 3 = some ⟨.int .i64, 1, 8, [.int .i64 0], false⟩ := rfl
@[simp] theorem D_3 : descOf T 3 = some (.int .i64) := rfl
@[simp] theorem S_3 : sizeT T 3 = some 1 := rfl
@[simp] theorem T_4 : T 4 = some ⟨.bool, 1, 1, [.bool false], false⟩ := rfl
@[simp] theorem D_4 : descOf T 4 = some (.bool) := rfl
@[simp] theorem S_4 : sizeT T 4 = some 1 := rfl
@[simp] theorem T_5 : T 5 = some ⟨.int .u8, 1, 1, [.int .u8 0], false⟩ := rfl
@[simp] theorem D_5 : descOf T 5 = some (.int .u8) := rfl
@[simp] theorem S_5 : sizeT T 5 = some 1 := rfl
@[simp] theorem T_9 : T 9 = some ⟨.string, 1, 16, [.str .empty], false⟩ := rfl
@[simp] theorem D_9 : descOf T 9 = some (.string) := rfl
@[simp] theorem S_9 : sizeT T 9 = some 1 := rfl
@[simp] theorem T_12 : T 12 = some ⟨.int .u64, 1, 8, [.int .u64 0], false⟩ := rfl
@[simp] theorem D_12 : descOf T 12 = some (.int .u64) := rfl
@[simp] theorem S_12 : sizeT T 12 = some 1 := rfl
@[simp] theorem T_21 : T 21 = some ⟨.int .i32, 1, 4, [.int .i32 0], false⟩ := rfl
@[simp] theorem D_21 : descOf T 21 = some (.int .i32) := rfl
@[simp] theorem S_21 : sizeT T 21 = some 1 := rfl
@[simp] theorem T_22 : T 22 = some ⟨.slice 59, 1, 24, [.sl 0 1 []], false⟩ := rfl
@[simp] theorem D_22 : descOf T 22 = some (.slice 59) := rfl
@[simp] theorem S_22 : sizeT T 22 = some 1 := rfl
@[simp] theorem T_23 : T 23 = some ⟨.slice 61, 1, 24, [.sl 0 1 []], false⟩ := rfl
@[simp] theorem D_23 : descOf T 23 = some (.slice 61) := rfl
@[simp] theorem S_23 : sizeT T 23 = some 1 := rfl
@[simp] theorem T_24 : T 24 = some ⟨.slice 38, 1, 24, [.sl 0 1 []], false⟩ := rfl
@[simp] theorem D_24 : descOf T 24 = some (.slice 38) := rfl
@[simp] theorem S_24 : sizeT T 24 = some 1 := rfl
@[simp] theorem T_25 : T 25 = some ⟨.slice 63, 1, 24, [.sl 0 1 []], false⟩ := rfl
@[simp] theorem D_25 : descOf T 25 = some (.slice 63) := rfl
@[simp] theorem S_25 : sizeT T 25 = some 1 := rfl
@[simp] theorem T_26 : T 26 = some ⟨.slice 3, 1, 24, [.sl 0 1 []], false⟩ := rfl
@[simp] theorem D_26 : descOf T 26 = some (.slice 3) := rfl
@[simp] theorem S_26 : sizeT T 26 = some 1 := rfl
@[simp] theorem T_27 : T 27 = some ⟨.struct #[⟨ "Regions", 3, 0, false, "", "", 0⟩, ⟨ "Zones", 22, 1, false, "", "", 8⟩, ⟨ "Cells", 23, 2, false, "", "", 32⟩, ⟨ "Tenants", 24, 3, false, "", "", 56⟩, ⟨ "Versions", 25, 4, false, "", "", 80⟩, ⟨ "Replicas", 26, 5, false, "", "", 104⟩, ⟨ "Observers", 26, 6, false, "", "", 128⟩, ⟨ "Blast", 3, 7, false, "", "", 152⟩, ⟨ "Lease", 3, 8, false, "", "", 160⟩, ⟨ "Bake", 3, 9, false, "", "", 168⟩], 10, 176, [.int .i64 0, .sl 0 1 [], .sl 0 1 [], .sl 0 1 [], .sl 0 1 [], .sl 0 1 [], .sl 0 1 [], .int .i64 0, .int .i64 0, .int .i64 0], true⟩ := rfl
@[simp] theorem D_27 : descOf T 27 = some (.struct #[⟨ "Regions", 3, 0, false, "", "", 0⟩, ⟨ "Zones", 22, 1, false, "", "", 8⟩, ⟨ "Cells", 23, 2, false, "", "", 32⟩, ⟨ "Tenants", 24, 3, false, "", "", 56⟩, ⟨ "Versions", 25, 4, false, "", "", 80⟩, ⟨ "Replicas", 26, 5, false, "", "", 104⟩, ⟨ "Observers", 26, 6, false, "", "", 128⟩, ⟨ "Blast", 3, 7, false, "", "", 152⟩, ⟨ "Lease", 3, 8, false, "", "", 160⟩, ⟨ "Bake", 3, 9, false, "", "", 168⟩]) := rfl
@[simp] theorem S_27 : sizeT T 27 = some 10 := rfl
@[simp] theorem T_28 : T 28 = some ⟨.struct #[⟨ "Regions", 3, 0, false, "", "", 0⟩, ⟨ "Zones", 22, 1, false, "", "", 8⟩, ⟨ "Cells", 23, 2, false, "", "", 32⟩, ⟨ "Tenants", 24, 3, false, "", "", 56⟩, ⟨ "Versions", 25, 4, false, "", "", 80⟩, ⟨ "Replicas", 26, 5, false, "", "", 104⟩, ⟨ "Observers", 26, 6, false, "", "", 128⟩, ⟨ "Blast", 3, 7, false, "", "", 152⟩, ⟨ "Lease", 3, 8, false, "", "", 160⟩, ⟨ "Bake", 3, 9, false, "", "", 168⟩], 10, 176, [.int .i64 0, .sl 0 1 [], .sl 0 1 [], .sl 0 1 [], .sl 0 1 [], .sl 0 1 [], .sl 0 1 [], .int .i64 0, .int .i64 0, .int .i64 0], true⟩ := rfl
@[simp] theorem D_28 : descOf T 28 = some (.struct #[⟨ "Regions", 3, 0, false, "", "", 0⟩, ⟨ "Zones", 22, 1, false, "", "", 8⟩, ⟨ "Cells", 23, 2, false, "", "", 32⟩, ⟨ "Tenants", 24, 3, false, "", "", 56⟩, ⟨ "Versions", 25, 4, false, "", "", 80⟩, ⟨ "Replicas", 26, 5, false, "", "", 104⟩, ⟨ "Observers", 26, 6, false, "", "", 128⟩, ⟨ "Blast", 3, 7, false, "", "", 152⟩, ⟨ "Lease", 3, 8, false, "", "", 160⟩, ⟨ "Bake", 3, 9, false, "", "", 168⟩]) := rfl
@[simp] theorem S_28 : sizeT T 28 = some 10 := rfl
@[simp] theorem T_34 : T 34 = some ⟨.int .i64, 1, 8, [.int .i64 0], false⟩ := rfl
@[simp] theorem D_34 : descOf T 34 = some (.int .i64) := rfl
@[simp] theorem S_34 : sizeT T 34 = some 1 := rfl
@[simp] theorem T_37 : T 37 = some ⟨.struct #[⟨ "Load", 3, 0, false, "", "", 0⟩, ⟨ "Shadow", 3, 1, false, "", "", 8⟩, ⟨ "Priority", 3, 2, false, "", "", 16⟩, ⟨ "Lag", 3, 3, false, "", "", 24⟩, ⟨ "Allowed", 3, 4, false, "", "", 32⟩, ⟨ "Group", 3, 5, false, "", "", 40⟩, ⟨ "Noisy", 4, 6, false, "", "", 48⟩], 7, 56, [.int .i64 0, .int .i64 0, .int .i64 0, .int .i64 0, .int .i64 0, .int .i64 0, .bool false], true⟩ := rfl
@[simp] theorem D_37 : descOf T 37 = some (.struct #[⟨ "Load", 3, 0, false, "", "", 0⟩, ⟨ "Shadow", 3, 1, false, "", "", 8⟩, ⟨ "Priority", 3, 2, false, "", "", 16⟩, ⟨ "Lag", 3, 3, false, "", "", 24⟩, ⟨ "Allowed", 3, 4, false, "", "", 32⟩, ⟨ "Group", 3, 5, false, "", "", 40⟩, ⟨ "Noisy", 4, 6, false, "", "", 48⟩]) := rfl
@[simp] theorem S_37 : sizeT T 37 = some 7 := rfl
@[simp] theorem T_38 : T 38 = some ⟨.struct #[⟨ "Load", 3, 0, false, "", "", 0⟩, ⟨ "Shadow", 3, 1, false, "", "", 8⟩, ⟨ "Priority", 3, 2, false, "", "", 16⟩, ⟨ "Lag", 3, 3, false, "", "", 24⟩, ⟨ "Allowed", 3, 4, false, "", "", 32⟩, ⟨ "Group", 3, 5, false, "", "", 40⟩, ⟨ "Noisy", 4, 6, false, "", "", 48⟩], 7, 56, [.int .i64 0, .int .i64 0, .int .i64 0, .int .i64 0, .int .i64 0, .int .i64 0, .bool false], true⟩ := rfl
@[simp] theorem D_38 : descOf T 38 = some (.struct #[⟨ "Load", 3, 0, false, "", "", 0⟩, ⟨ "Shadow", 3, 1, false, "", "", 8⟩, ⟨ "Priority", 3, 2, false, "", "", 16⟩, ⟨ "Lag", 3, 3, false, "", "", 24⟩, ⟨ "Allowed", 3, 4, false, "", "", 32⟩, ⟨ "Group", 3, 5, false, "", "", 40⟩, ⟨ "Noisy", 4, 6, false, "", "", 48⟩]) := rfl
@[simp] theorem S_38 : sizeT T 38 = some 7 := rfl
@[simp] theorem T_50 : T 50 = some ⟨.int .u64, 1, 8, [.int .u64 0], false⟩ := rfl
@[simp] theorem D_50 : descOf T 50 = some (.int .u64) := rfl
@[simp] theorem S_50 : sizeT T 50 = some 1 := rfl
@[simp] theorem T_54 : T 54 = some ⟨.pointer 69, 1, 8, [.pnil], false⟩ := rfl
@[simp] theorem D_54 : descOf T 54 = some (.pointer 69) := rfl
@[simp] theorem S_54 : sizeT T 54 = some 1 := rfl
@[simp] theorem T_58 : T 58 = some ⟨.struct #[⟨ "Region", 3, 0, false, "", "", 0⟩], 1, 8, [.int .i64 0], true⟩ := rfl
@[simp] theorem D_58 : descOf T 58 = some (.struct #[⟨ "Region", 3, 0, false, "", "", 0⟩]) := rfl
@[simp] theorem S_58 : sizeT T 58 = some 1 := rfl
@[simp] theorem T_59 : T 59 = some ⟨.struct #[⟨ "Region", 3, 0, false, "", "", 0⟩], 1, 8, [.int .i64 0], true⟩ := rfl
@[simp] theorem D_59 : descOf T 59 = some (.struct #[⟨ "Region", 3, 0, false, "", "", 0⟩]) := rfl
@[simp] theorem S_59 : sizeT T 59 = some 1 := rfl
@[simp] theorem T_60 : T 60 = some ⟨.struct #[⟨ "Zone", 3, 0, false, "", "", 0⟩, ⟨ "Capacity", 3, 1, false, "", "", 8⟩], 2, 16, [.int .i64 0, .int .i64 0], true⟩ := rfl
@[simp] theorem D_60 : descOf T 60 = some (.struct #[⟨ "Zone", 3, 0, false, "", "", 0⟩, ⟨ "Capacity", 3, 1, false, "", "", 8⟩]) := rfl
@[simp] theorem S_60 : sizeT T 60 = some 2 := rfl
@[simp] theorem T_61 : T 61 = some ⟨.struct #[⟨ "Zone", 3, 0, false, "", "", 0⟩, ⟨ "Capacity", 3, 1, false, "", "", 8⟩], 2, 16, [.int .i64 0, .int .i64 0], true⟩ := rfl
@[simp] theorem D_61 : descOf T 61 = some (.struct #[⟨ "Zone", 3, 0, false, "", "", 0⟩, ⟨ "Capacity", 3, 1, false, "", "", 8⟩]) := rfl
@[simp] theorem S_61 : sizeT T 61 = some 2 := rfl
@[simp] theorem T_62 : T 62 = some ⟨.struct #[⟨ "Low", 3, 0, false, "", "", 0⟩, ⟨ "High", 3, 1, false, "", "", 8⟩], 2, 16, [.int .i64 0, .int .i64 0], true⟩ := rfl
@[simp] theorem D_62 : descOf T 62 = some (.struct #[⟨ "Low", 3, 0, false, "", "", 0⟩, ⟨ "High", 3, 1, false, "", "", 8⟩]) := rfl
@[simp] theorem S_62 : sizeT T 62 = some 2 := rfl
@[simp] theorem T_63 : T 63 = some ⟨.struct #[⟨ "Low", 3, 0, false, "", "", 0⟩, ⟨ "High", 3, 1, false, "", "", 8⟩], 2, 16, [.int .i64 0, .int .i64 0], true⟩ := rfl
@[simp] theorem D_63 : descOf T 63 = some (.struct #[⟨ "Low", 3, 0, false, "", "", 0⟩, ⟨ "High", 3, 1, false, "", "", 8⟩]) := rfl
@[simp] theorem S_63 : sizeT T 63 = some 2 := rfl
@[simp] theorem T_68 : T 68 = some ⟨.struct #[⟨ "L", 26, 0, false, "", "", 0⟩, ⟨ "At", 3, 1, false, "", "", 24⟩], 2, 32, [.sl 0 1 [], .int .i64 0], true⟩ := rfl
@[simp] theorem D_68 : descOf T 68 = some (.struct #[⟨ "L", 26, 0, false, "", "", 0⟩, ⟨ "At", 3, 1, false, "", "", 24⟩]) := rfl
@[simp] theorem S_68 : sizeT T 68 = some 2 := rfl
@[simp] theorem T_69 : T 69 = some ⟨.struct #[⟨ "L", 26, 0, false, "", "", 0⟩, ⟨ "At", 3, 1, false, "", "", 24⟩], 2, 32, [.sl 0 1 [], .int .i64 0], true⟩ := rfl
@[simp] theorem D_69 : descOf T 69 = some (.struct #[⟨ "L", 26, 0, false, "", "", 0⟩, ⟨ "At", 3, 1, false, "", "", 24⟩]) := rfl
@[simp] theorem S_69 : sizeT T 69 = some 2 := rfl
@[simp] theorem T_76 : T 76 = some ⟨.int .i64, 1, 8, [.int .i64 0], false⟩ := rfl
@[simp] theorem D_76 : descOf T 76 = some (.int .i64) := rfl
@[simp] theorem S_76 : sizeT T 76 = some 1 := rfl
@[simp] theorem T_84 : T 84 = some ⟨.int .u32, 1, 4, [.int .u32 0], false⟩ := rfl
@[simp] theorem D_84 : descOf T 84 = some (.int .u32) := rfl
@[simp] theorem S_84 : sizeT T 84 = some 1 := rfl
@[simp] theorem T_86 : T 86 = some ⟨.int .u64, 1, 8, [.int .u64 0], false⟩ := rfl
@[simp] theorem D_86 : descOf T 86 = some (.int .u64) := rfl
@[simp] theorem S_86 : sizeT T 86 = some 1 := rfl
@[simp] theorem T_87 : T 87 = some ⟨.int .u64, 1, 8, [.int .u64 0], false⟩ := rfl
@[simp] theorem D_87 : descOf T 87 = some (.int .u64) := rfl
@[simp] theorem S_87 : sizeT T 87 = some 1 := rfl
@[simp] theorem T_91 : T 91 = some ⟨.pointer 3, 1, 8, [.pnil], false⟩ := rfl
@[simp] theorem D_91 : descOf T 91 = some (.pointer 3) := rfl
@[simp] theorem S_91 : sizeT T 91 = some 1 := rfl
@[simp] theorem T_93 : T 93 = some ⟨.pointer 87, 1, 8, [.pnil], false⟩ := rfl
@[simp] theorem D_93 : descOf T 93 = some (.pointer 87) := rfl
@[simp] theorem S_93 : sizeT T 93 = some 1 := rfl
@[simp] theorem T_106 : T 106 = some ⟨.pointer 5, 1, 8, [.pnil], false⟩ := rfl
@[simp] theorem D_106 : descOf T 106 = some (.pointer 5) := rfl
@[simp] theorem S_106 : sizeT T 106 = some 1 := rfl

def C0 : FuncId → List V → List AObj → Option CRes := fun _ _ _ => none
theorem C0_ok : SpecsOk Try.prog C0 := fun f ⟨_, _, _, h⟩ => by cases h
theorem follows : Try.prog.follows .mixedOrders = true := by kernel_rfl
end Go.Proofs.Ytccmghkfofmedaa
