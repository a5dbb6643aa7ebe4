/-
  The program's types.
-/
import Derived.Test.YtegjhmhhbmnljaaDoorRows
import Derived.Test.YtegjhmhhbmnljaaDoorPLC
import Derived.KernelRfl
namespace Go.Proofs.YtegjhmhhbmnljaaDoor
open Go.Lift

theorem typeOk_of {P : Program} {t : TypeId} {ti : TI} (z : Value) (h1 : P.underlying t = some ti.desc) (h2 : (P.info? t).map (fun i => (i.zero, i.size, i.bytes)) = some (some z, ti.size, ti.bytes)) (h3 : z.cells.size = ti.size ∧ z.cells.toList.map ofCell = ti.zero)
    (h4 : ti.agg = (match ti.desc with | .struct _ | .array _ _ => true | _ => false)) (h5 : ti.eqc = true → P.stoodInHeld t = false ∧ P.eqGuardType P.depth t = false) : TypeOk P t ti := by
  refine ⟨h1, ?_, h4, h5⟩
  cases hi : P.info? t with
  | none => rw [hi] at h2; cases h2
  | some i =>
    rw [hi] at h2
    simp only [Option.map_some, Option.some.injEq, Prod.mk.injEq] at h2
    exact ⟨i, z, rfl, h2.2.1, h2.2.2, h2.1, h3.1, h3.2⟩

def T (t : TypeId) : Option TI := match t with
  | 2 => some ⟨.int .i64, 1, 8, [.int .i64 0], false, false⟩
  | 3 => some ⟨.int .i64, 1, 8, [.int .i64 0], false, false⟩
  | 4 => some ⟨.bool, 1, 1, [.bool false], false, false⟩
  | 5 => some ⟨.int .u8, 1, 1, [.int .u8 0], false, false⟩
  | 9 => some ⟨.string, 1, 16, [.str .empty], false, false⟩
  | 12 => some ⟨.int .u64, 1, 8, [.int .u64 0], false, false⟩
  | 21 => some ⟨.int .i32, 1, 4, [.int .i32 0], false, false⟩
  | 22 => some ⟨.slice 3, 1, 24, [.sl 0 1 []], false, false⟩
  | 23 => some ⟨.struct #[⟨ "Kind", 3, 0, false, "", "", 0⟩, ⟨ "Tick", 3, 1, false, "", "", 8⟩, ⟨ "Tenant", 3, 2, false, "", "", 16⟩, ⟨ "Cell", 3, 3, false, "", "", 24⟩, ⟨ "Other", 3, 4, false, "", "", 32⟩, ⟨ "Epoch", 3, 5, false, "", "", 40⟩, ⟨ "From", 3, 6, false, "", "", 48⟩, ⟨ "Until", 3, 7, false, "", "", 56⟩, ⟨ "N", 3, 8, false, "", "", 64⟩], 9, 72, [.int .i64 0, .int .i64 0, .int .i64 0, .int .i64 0, .int .i64 0, .int .i64 0, .int .i64 0, .int .i64 0, .int .i64 0], true, true⟩
  | 24 => some ⟨.struct #[⟨ "Kind", 3, 0, false, "", "", 0⟩, ⟨ "Tick", 3, 1, false, "", "", 8⟩, ⟨ "Tenant", 3, 2, false, "", "", 16⟩, ⟨ "Cell", 3, 3, false, "", "", 24⟩, ⟨ "Other", 3, 4, false, "", "", 32⟩, ⟨ "Epoch", 3, 5, false, "", "", 40⟩, ⟨ "From", 3, 6, false, "", "", 48⟩, ⟨ "Until", 3, 7, false, "", "", 56⟩, ⟨ "N", 3, 8, false, "", "", 64⟩], 9, 72, [.int .i64 0, .int .i64 0, .int .i64 0, .int .i64 0, .int .i64 0, .int .i64 0, .int .i64 0, .int .i64 0, .int .i64 0], true, true⟩
  | 27 => some ⟨.slice 78, 1, 24, [.sl 0 1 []], false, false⟩
  | 28 => some ⟨.slice 80, 1, 24, [.sl 0 1 []], false, false⟩
  | 29 => some ⟨.slice 83, 1, 24, [.sl 0 1 []], false, false⟩
  | 30 => some ⟨.slice 85, 1, 24, [.sl 0 1 []], false, false⟩
  | 31 => some ⟨.struct #[⟨ "Regions", 3, 0, false, "", "", 0⟩, ⟨ "Zones", 27, 1, false, "", "", 8⟩, ⟨ "Cells", 28, 2, false, "", "", 32⟩, ⟨ "Tenants", 29, 3, false, "", "", 56⟩, ⟨ "Versions", 30, 4, false, "", "", 80⟩, ⟨ "Replicas", 22, 5, false, "", "", 104⟩, ⟨ "Observers", 22, 6, false, "", "", 128⟩, ⟨ "Blast", 3, 7, false, "", "", 152⟩, ⟨ "Lease", 3, 8, false, "", "", 160⟩, ⟨ "Bake", 3, 9, false, "", "", 168⟩], 10, 176, [.int .i64 0, .sl 0 1 [], .sl 0 1 [], .sl 0 1 [], .sl 0 1 [], .sl 0 1 [], .sl 0 1 [], .int .i64 0, .int .i64 0, .int .i64 0], true, false⟩
  | 32 => some ⟨.struct #[⟨ "Regions", 3, 0, false, "", "", 0⟩, ⟨ "Zones", 27, 1, false, "", "", 8⟩, ⟨ "Cells", 28, 2, false, "", "", 32⟩, ⟨ "Tenants", 29, 3, false, "", "", 56⟩, ⟨ "Versions", 30, 4, false, "", "", 80⟩, ⟨ "Replicas", 22, 5, false, "", "", 104⟩, ⟨ "Observers", 22, 6, false, "", "", 128⟩, ⟨ "Blast", 3, 7, false, "", "", 152⟩, ⟨ "Lease", 3, 8, false, "", "", 160⟩, ⟨ "Bake", 3, 9, false, "", "", 168⟩], 10, 176, [.int .i64 0, .sl 0 1 [], .sl 0 1 [], .sl 0 1 [], .sl 0 1 [], .sl 0 1 [], .sl 0 1 [], .int .i64 0, .int .i64 0, .int .i64 0], true, false⟩
  | 41 => some ⟨.slice 5, 1, 24, [.sl 0 1 []], false, false⟩
  | 43 => some ⟨.slice 41, 1, 24, [.sl 0 1 []], false, false⟩
  | 44 => some ⟨.int .i64, 1, 8, [.int .i64 0], false, false⟩
  | 54 => some ⟨.pointer 97, 1, 8, [.pnil], false, false⟩
  | 56 => some ⟨.slice 90, 1, 24, [.sl 0 1 []], false, false⟩
  | 57 => some ⟨.slice 116, 1, 24, [.sl 0 1 []], false, false⟩
  | 58 => some ⟨.struct #[⟨ "Tick", 3, 0, false, "", "", 0⟩, ⟨ "Count", 3, 1, false, "", "", 8⟩, ⟨ "Tenants", 56, 2, false, "", "", 16⟩, ⟨ "Cells", 57, 3, false, "", "", 40⟩, ⟨ "Proven", 3, 4, false, "", "", 64⟩, ⟨ "Evacuating", 3, 5, false, "", "", 72⟩, ⟨ "Low", 3, 6, false, "", "", 80⟩, ⟨ "High", 3, 7, false, "", "", 88⟩], 8, 96, [.int .i64 0, .int .i64 0, .sl 0 1 [], .sl 0 1 [], .int .i64 0, .int .i64 0, .int .i64 0, .int .i64 0], true, false⟩
  | 59 => some ⟨.struct #[⟨ "Tick", 3, 0, false, "", "", 0⟩, ⟨ "Count", 3, 1, false, "", "", 8⟩, ⟨ "Tenants", 56, 2, false, "", "", 16⟩, ⟨ "Cells", 57, 3, false, "", "", 40⟩, ⟨ "Proven", 3, 4, false, "", "", 64⟩, ⟨ "Evacuating", 3, 5, false, "", "", 72⟩, ⟨ "Low", 3, 6, false, "", "", 80⟩, ⟨ "High", 3, 7, false, "", "", 88⟩], 8, 96, [.int .i64 0, .int .i64 0, .sl 0 1 [], .sl 0 1 [], .int .i64 0, .int .i64 0, .int .i64 0, .int .i64 0], true, false⟩
  | 63 => some ⟨.struct #[⟨ "tenants", 3, 0, false, "", "cellplane/entry", 0⟩, ⟨ "cells", 3, 1, false, "", "cellplane/entry", 8⟩, ⟨ "regions", 3, 2, false, "", "cellplane/entry", 16⟩, ⟨ "versions", 3, 3, false, "", "cellplane/entry", 24⟩], 4, 32, [.int .i64 0, .int .i64 0, .int .i64 0, .int .i64 0], true, true⟩
  | 64 => some ⟨.struct #[⟨ "tenants", 3, 0, false, "", "cellplane/entry", 0⟩, ⟨ "cells", 3, 1, false, "", "cellplane/entry", 8⟩, ⟨ "regions", 3, 2, false, "", "cellplane/entry", 16⟩, ⟨ "versions", 3, 3, false, "", "cellplane/entry", 24⟩], 4, 32, [.int .i64 0, .int .i64 0, .int .i64 0, .int .i64 0], true, true⟩
  | 67 => some ⟨.pointer 3, 1, 8, [.pnil], false, false⟩
  | 68 => some ⟨.array 9 67, 9, 72, [.pnil, .pnil, .pnil, .pnil, .pnil, .pnil, .pnil, .pnil, .pnil], true, false⟩
  | 70 => some ⟨.pointer 24, 1, 8, [.pnil], false, false⟩
  | 73 => some ⟨.array 9 3, 9, 72, [.int .i64 0, .int .i64 0, .int .i64 0, .int .i64 0, .int .i64 0, .int .i64 0, .int .i64 0, .int .i64 0, .int .i64 0], true, false⟩
  | 74 => some ⟨.array 17 9, 17, 272, [.str .empty, .str .empty, .str .empty, .str .empty, .str .empty, .str .empty, .str .empty, .str .empty, .str .empty, .str .empty, .str .empty, .str .empty, .str .empty, .str .empty, .str .empty, .str .empty, .str .empty], true, false⟩
  | 75 => some ⟨.slice 9, 1, 24, [.sl 0 1 []], false, false⟩
  | 77 => some ⟨.struct #[⟨ "Region", 3, 0, false, "", "", 0⟩], 1, 8, [.int .i64 0], true, true⟩
  | 78 => some ⟨.struct #[⟨ "Region", 3, 0, false, "", "", 0⟩], 1, 8, [.int .i64 0], true, true⟩
  | 79 => some ⟨.struct #[⟨ "Zone", 3, 0, false, "", "", 0⟩, ⟨ "Capacity", 3, 1, false, "", "", 8⟩], 2, 16, [.int .i64 0, .int .i64 0], true, true⟩
  | 80 => some ⟨.struct #[⟨ "Zone", 3, 0, false, "", "", 0⟩, ⟨ "Capacity", 3, 1, false, "", "", 8⟩], 2, 16, [.int .i64 0, .int .i64 0], true, true⟩
  | 81 => some ⟨.int .u64, 1, 8, [.int .u64 0], false, false⟩
  | 82 => some ⟨.struct #[⟨ "Load", 3, 0, false, "", "", 0⟩, ⟨ "Shadow", 3, 1, false, "", "", 8⟩, ⟨ "Priority", 3, 2, false, "", "", 16⟩, ⟨ "Lag", 3, 3, false, "", "", 24⟩, ⟨ "Allowed", 3, 4, false, "", "", 32⟩, ⟨ "Group", 3, 5, false, "", "", 40⟩, ⟨ "Noisy", 4, 6, false, "", "", 48⟩], 7, 56, [.int .i64 0, .int .i64 0, .int .i64 0, .int .i64 0, .int .i64 0, .int .i64 0, .bool false], true, true⟩
  | 83 => some ⟨.struct #[⟨ "Load", 3, 0, false, "", "", 0⟩, ⟨ "Shadow", 3, 1, false, "", "", 8⟩, ⟨ "Priority", 3, 2, false, "", "", 16⟩, ⟨ "Lag", 3, 3, false, "", "", 24⟩, ⟨ "Allowed", 3, 4, false, "", "", 32⟩, ⟨ "Group", 3, 5, false, "", "", 40⟩, ⟨ "Noisy", 4, 6, false, "", "", 48⟩], 7, 56, [.int .i64 0, .int .i64 0, .int .i64 0, .int .i64 0, .int .i64 0, .int .i64 0, .bool false], true, true⟩
  | 84 => some ⟨.struct #[⟨ "Low", 3, 0, false, "", "", 0⟩, ⟨ "High", 3, 1, false, "", "", 8⟩], 2, 16, [.int .i64 0, .int .i64 0], true, true⟩
  | 85 => some ⟨.struct #[⟨ "Low", 3, 0, false, "", "", 0⟩, ⟨ "High", 3, 1, false, "", "", 8⟩], 2, 16, [.int .i64 0, .int .i64 0], true, true⟩
  | 87 => some ⟨.struct #[⟨ "Cell", 3, 0, false, "", "", 0⟩, ⟨ "Epoch", 3, 1, false, "", "", 8⟩, ⟨ "Version", 3, 2, false, "", "", 16⟩, ⟨ "From", 3, 3, false, "", "", 24⟩, ⟨ "Until", 3, 4, false, "", "", 32⟩], 5, 40, [.int .i64 0, .int .i64 0, .int .i64 0, .int .i64 0, .int .i64 0], true, true⟩
  | 88 => some ⟨.struct #[⟨ "Cell", 3, 0, false, "", "", 0⟩, ⟨ "Epoch", 3, 1, false, "", "", 8⟩, ⟨ "Version", 3, 2, false, "", "", 16⟩, ⟨ "From", 3, 3, false, "", "", 24⟩, ⟨ "Until", 3, 4, false, "", "", 32⟩], 5, 40, [.int .i64 0, .int .i64 0, .int .i64 0, .int .i64 0, .int .i64 0], true, true⟩
  | 89 => some ⟨.struct #[⟨ "Placed", 4, 0, false, "", "", 0⟩, ⟨ "Shed", 4, 1, false, "", "", 1⟩, ⟨ "Home", 3, 2, false, "", "", 8⟩, ⟨ "Standby", 3, 3, false, "", "", 16⟩, ⟨ "Next", 3, 4, false, "", "", 24⟩, ⟨ "Target", 3, 5, false, "", "", 32⟩, ⟨ "Epoch", 3, 6, false, "", "", 40⟩, ⟨ "Window", 88, 7, false, "", "", 48⟩], 12, 88, [.bool false, .bool false, .int .i64 0, .int .i64 0, .int .i64 0, .int .i64 0, .int .i64 0, .int .i64 0, .int .i64 0, .int .i64 0, .int .i64 0, .int .i64 0], true, true⟩
  | 90 => some ⟨.struct #[⟨ "Placed", 4, 0, false, "", "", 0⟩, ⟨ "Shed", 4, 1, false, "", "", 1⟩, ⟨ "Home", 3, 2, false, "", "", 8⟩, ⟨ "Standby", 3, 3, false, "", "", 16⟩, ⟨ "Next", 3, 4, false, "", "", 24⟩, ⟨ "Target", 3, 5, false, "", "", 32⟩, ⟨ "Epoch", 3, 6, false, "", "", 40⟩, ⟨ "Window", 88, 7, false, "", "", 48⟩], 12, 88, [.bool false, .bool false, .int .i64 0, .int .i64 0, .int .i64 0, .int .i64 0, .int .i64 0, .int .i64 0, .int .i64 0, .int .i64 0, .int .i64 0, .int .i64 0], true, true⟩
  | 96 => some ⟨.struct #[⟨ "L", 22, 0, false, "", "", 0⟩, ⟨ "At", 3, 1, false, "", "", 24⟩], 2, 32, [.sl 0 1 [], .int .i64 0], true, false⟩
  | 97 => some ⟨.struct #[⟨ "L", 22, 0, false, "", "", 0⟩, ⟨ "At", 3, 1, false, "", "", 24⟩], 2, 32, [.sl 0 1 [], .int .i64 0], true, false⟩
  | 100 => some ⟨.slice 24, 1, 24, [.sl 0 1 []], false, false⟩
  | 102 => some ⟨.struct #[⟨ "low", 3, 0, false, "", "cellplane/entry", 0⟩, ⟨ "high", 3, 1, false, "", "cellplane/entry", 8⟩], 2, 16, [.int .i64 0, .int .i64 0], true, true⟩
  | 103 => some ⟨.struct #[⟨ "low", 3, 0, false, "", "cellplane/entry", 0⟩, ⟨ "high", 3, 1, false, "", "cellplane/entry", 8⟩], 2, 16, [.int .i64 0, .int .i64 0], true, true⟩
  | 104 => some ⟨.struct #[⟨ "tenant", 103, 0, false, "", "cellplane/entry", 0⟩, ⟨ "cell", 103, 2, false, "", "cellplane/entry", 16⟩, ⟨ "other", 103, 4, false, "", "cellplane/entry", 32⟩, ⟨ "epoch", 103, 6, false, "", "cellplane/entry", 48⟩, ⟨ "from", 103, 8, false, "", "cellplane/entry", 64⟩, ⟨ "until", 103, 10, false, "", "cellplane/entry", 80⟩, ⟨ "n", 103, 12, false, "", "cellplane/entry", 96⟩], 14, 112, [.int .i64 0, .int .i64 0, .int .i64 0, .int .i64 0, .int .i64 0, .int .i64 0, .int .i64 0, .int .i64 0, .int .i64 0, .int .i64 0, .int .i64 0, .int .i64 0, .int .i64 0, .int .i64 0], true, true⟩
  | 105 => some ⟨.struct #[⟨ "tenant", 103, 0, false, "", "cellplane/entry", 0⟩, ⟨ "cell", 103, 2, false, "", "cellplane/entry", 16⟩, ⟨ "other", 103, 4, false, "", "cellplane/entry", 32⟩, ⟨ "epoch", 103, 6, false, "", "cellplane/entry", 48⟩, ⟨ "from", 103, 8, false, "", "cellplane/entry", 64⟩, ⟨ "until", 103, 10, false, "", "cellplane/entry", 80⟩, ⟨ "n", 103, 12, false, "", "cellplane/entry", 96⟩], 14, 112, [.int .i64 0, .int .i64 0, .int .i64 0, .int .i64 0, .int .i64 0, .int .i64 0, .int .i64 0, .int .i64 0, .int .i64 0, .int .i64 0, .int .i64 0, .int .i64 0, .int .i64 0, .int .i64 0], true, true⟩
  | 111 => some ⟨.int .u64, 1, 8, [.int .u64 0], false, false⟩
  | 115 => some ⟨.struct #[⟨ "Mode", 3, 0, false, "", "", 0⟩, ⟨ "Running", 3, 1, false, "", "", 8⟩, ⟨ "Wanted", 3, 2, false, "", "", 16⟩, ⟨ "Since", 3, 3, false, "", "", 24⟩], 4, 32, [.int .i64 0, .int .i64 0, .int .i64 0, .int .i64 0], true, true⟩
  | 116 => some ⟨.struct #[⟨ "Mode", 3, 0, false, "", "", 0⟩, ⟨ "Running", 3, 1, false, "", "", 8⟩, ⟨ "Wanted", 3, 2, false, "", "", 16⟩, ⟨ "Since", 3, 3, false, "", "", 24⟩], 4, 32, [.int .i64 0, .int .i64 0, .int .i64 0, .int .i64 0], true, true⟩
  | 130 => some ⟨.pointer 90, 1, 8, [.pnil], false, false⟩
  | 134 => some ⟨.pointer 116, 1, 8, [.pnil], false, false⟩
  | 145 => some ⟨.int .u32, 1, 4, [.int .u32 0], false, false⟩
  | 149 => some ⟨.pointer 5, 1, 8, [.pnil], false, false⟩
  | _ => none

theorem okT_2 : TypeOk Tryd.prog 2 ⟨.int .i64, 1, 8, [.int .i64 0], false, false⟩ := typeOk_of (.int .i64 0) (by kernel_rfl) (by kernel_rfl) ⟨rfl, rfl⟩ rfl (fun h => by cases h)
theorem okT_3 : TypeOk Tryd.prog 3 ⟨.int .i64, 1, 8, [.int .i64 0], false, false⟩ := typeOk_of (.int .i64 0) (by kernel_rfl) (by kernel_rfl) ⟨rfl, rfl⟩ rfl (fun h => by cases h)
theorem okT_4 : TypeOk Tryd.prog 4 ⟨.bool, 1, 1, [.bool false], false, false⟩ := typeOk_of (.bool false) (by kernel_rfl) (by kernel_rfl) ⟨rfl, rfl⟩ rfl (fun h => by cases h)
theorem okT_5 : TypeOk Tryd.prog 5 ⟨.int .u8, 1, 1, [.int .u8 0], false, false⟩ := typeOk_of (.int .u8 0) (by kernel_rfl) (by kernel_rfl) ⟨rfl, rfl⟩ rfl (fun h => by cases h)
theorem okT_9 : TypeOk Tryd.prog 9 ⟨.string, 1, 16, [.str .empty], false, false⟩ := typeOk_of (.string .empty) (by kernel_rfl) (by kernel_rfl) ⟨rfl, rfl⟩ rfl (fun h => by cases h)
theorem okT_12 : TypeOk Tryd.prog 12 ⟨.int .u64, 1, 8, [.int .u64 0], false, false⟩ := typeOk_of (.int .u64 0) (by kernel_rfl) (by kernel_rfl) ⟨rfl, rfl⟩ rfl (fun h => by cases h)
theorem okT_21 : TypeOk Tryd.prog 21 ⟨.int .i32, 1, 4, [.int .i32 0], false, false⟩ := typeOk_of (.int .i32 0) (by kernel_rfl) (by kernel_rfl) ⟨rfl, rfl⟩ rfl (fun h => by cases h)
theorem okT_22 : TypeOk Tryd.prog 22 ⟨.slice 3, 1, 24, [.sl 0 1 []], false, false⟩ := typeOk_of (.slice none 0 0) (by kernel_rfl) (by kernel_rfl) ⟨rfl, rfl⟩ rfl (fun h => by cases h)
theorem okT_23 : TypeOk Tryd.prog 23 ⟨.struct #[⟨ "Kind", 3, 0, false, "", "", 0⟩, ⟨ "Tick", 3, 1, false, "", "", 8⟩, ⟨ "Tenant", 3, 2, false, "", "", 16⟩, ⟨ "Cell", 3, 3, false, "", "", 24⟩, ⟨ "Other", 3, 4, false, "", "", 32⟩, ⟨ "Epoch", 3, 5, false, "", "", 40⟩, ⟨ "From", 3, 6, false, "", "", 48⟩, ⟨ "Until", 3, 7, false, "", "", 56⟩, ⟨ "N", 3, 8, false, "", "", 64⟩], 9, 72, [.int .i64 0, .int .i64 0, .int .i64 0, .int .i64 0, .int .i64 0, .int .i64 0, .int .i64 0, .int .i64 0, .int .i64 0], true, true⟩ := typeOk_of (.agg #[.int .i64 0, .int .i64 0, .int .i64 0, .int .i64 0, .int .i64 0, .int .i64 0, .int .i64 0, .int .i64 0, .int .i64 0]) (by kernel_rfl) (by kernel_rfl) ⟨rfl, rfl⟩ rfl (fun _ => ⟨by kernel_rfl, by kernel_rfl⟩)
theorem okT_24 : TypeOk Tryd.prog 24 ⟨.struct #[⟨ "Kind", 3, 0, false, "", "", 0⟩, ⟨ "Tick", 3, 1, false, "", "", 8⟩, ⟨ "Tenant", 3, 2, false, "", "", 16⟩, ⟨ "Cell", 3, 3, false, "", "", 24⟩, ⟨ "Other", 3, 4, false, "", "", 32⟩, ⟨ "Epoch", 3, 5, false, "", "", 40⟩, ⟨ "From", 3, 6, false, "", "", 48⟩, ⟨ "Until", 3, 7, false, "", "", 56⟩, ⟨ "N", 3, 8, false, "", "", 64⟩], 9, 72, [.int .i64 0, .int .i64 0, .int .i64 0, .int .i64 0, .int .i64 0, .int .i64 0, .int .i64 0, .int .i64 0, .int .i64 0], true, true⟩ := typeOk_of (.agg #[.int .i64 0, .int .i64 0, .int .i64 0, .int .i64 0, .int .i64 0, .int .i64 0, .int .i64 0, .int .i64 0, .int .i64 0]) (by kernel_rfl) (by kernel_rfl) ⟨rfl, rfl⟩ rfl (fun _ => ⟨by kernel_rfl, by kernel_rfl⟩)
theorem okT_27 : TypeOk Tryd.prog 27 ⟨.slice 78, 1, 24, [.sl 0 1 []], false, false⟩ := typeOk_of (.slice none 0 0) (by kernel_rfl) (by kernel_rfl) ⟨rfl, rfl⟩ rfl (fun h => by cases h)
theorem okT_28 : TypeOk Tryd.prog 28 ⟨.slice 80, 1, 24, [.sl 0 1 []], false, false⟩ := typeOk_of (.slice none 0 0) (by kernel_rfl) (by kernel_rfl) ⟨rfl, rfl⟩ rfl (fun h => by cases h)
theorem okT_29 : TypeOk Tryd.prog 29 ⟨.slice 83, 1, 24, [.sl 0 1 []], false, false⟩ := typeOk_of (.slice none 0 0) (by kernel_rfl) (by kernel_rfl) ⟨rfl, rfl⟩ rfl (fun h => by cases h)
theorem okT_30 : TypeOk Tryd.prog 30 ⟨.slice 85, 1, 24, [.sl 0 1 []], false, false⟩ := typeOk_of (.slice none 0 0) (by kernel_rfl) (by kernel_rfl) ⟨rfl, rfl⟩ rfl (fun h => by cases h)
theorem okT_31 : TypeOk Tryd.prog 31 ⟨.struct #[⟨ "Regions", 3, 0, false, "", "", 0⟩, ⟨ "Zones", 27, 1, false, "", "", 8⟩, ⟨ "Cells", 28, 2, false, "", "", 32⟩, ⟨ "Tenants", 29, 3, false, "", "", 56⟩, ⟨ "Versions", 30, 4, false, "", "", 80⟩, ⟨ "Replicas", 22, 5, false, "", "", 104⟩, ⟨ "Observers", 22, 6, false, "", "", 128⟩, ⟨ "Blast", 3, 7, false, "", "", 152⟩, ⟨ "Lease", 3, 8, false, "", "", 160⟩, ⟨ "Bake", 3, 9, false, "", "", 168⟩], 10, 176, [.int .i64 0, .sl 0 1 [], .sl 0 1 [], .sl 0 1 [], .sl 0 1 [], .sl 0 1 [], .sl 0 1 [], .int .i64 0, .int .i64 0, .int .i64 0], true, false⟩ := typeOk_of (.agg #[.int .i64 0, .slice none 0 0, .slice none 0 0, .slice none 0 0, .slice none 0 0, .slice none 0 0, .slice none 0 0, .int .i64 0, .int .i64 0, .int .i64 0]) (by kernel_rfl) (by kernel_rfl) ⟨rfl, rfl⟩ rfl (fun h => by cases h)
theorem okT_32 : TypeOk Tryd.prog 32 ⟨.struct #[⟨ "Regions", 3, 0, false, "", "", 0⟩, ⟨ "Zones", 27, 1, false, "", "", 8⟩, ⟨ "Cells", 28, 2, false, "", "", 32⟩, ⟨ "Tenants", 29, 3, false, "", "", 56⟩, ⟨ "Versions", 30, 4, false, "", "", 80⟩, ⟨ "Replicas", 22, 5, false, "", "", 104⟩, ⟨ "Observers", 22, 6, false, "", "", 128⟩, ⟨ "Blast", 3, 7, false, "", "", 152⟩, ⟨ "Lease", 3, 8, false, "", "", 160⟩, ⟨ "Bake", 3, 9, false, "", "", 168⟩], 10, 176, [.int .i64 0, .sl 0 1 [], .sl 0 1 [], .sl 0 1 [], .sl 0 1 [], .sl 0 1 [], .sl 0 1 [], .int .i64 0, .int .i64 0, .int .i64 0], true, false⟩ := typeOk_of (.agg #[.int .i64 0, .slice none 0 0, .slice none 0 0, .slice none 0 0, .slice none 0 0, .slice none 0 0, .slice none 0 0, .int .i64 0, .int .i64 0, .int .i64 0]) (by kernel_rfl) (by kernel_rfl) ⟨rfl, rfl⟩ rfl (fun h => by cases h)
theorem okT_41 : TypeOk Tryd.prog 41 ⟨.slice 5, 1, 24, [.sl 0 1 []], false, false⟩ := typeOk_of (.slice none 0 0) (by kernel_rfl) (by kernel_rfl) ⟨rfl, rfl⟩ rfl (fun h => by cases h)
theorem okT_43 : TypeOk Tryd.prog 43 ⟨.slice 41, 1, 24, [.sl 0 1 []], false, false⟩ := typeOk_of (.slice none 0 0) (by kernel_rfl) (by kernel_rfl) ⟨rfl, rfl⟩ rfl (fun h => by cases h)
theorem okT_44 : TypeOk Tryd.prog 44 ⟨.int .i64, 1, 8, [.int .i64 0], false, false⟩ := typeOk_of (.int .i64 0) (by kernel_rfl) (by kernel_rfl) ⟨rfl, rfl⟩ rfl (fun h => by cases h)
theorem okT_54 : TypeOk Tryd.prog 54 ⟨.pointer 97, 1, 8, [.pnil], false, false⟩ := typeOk_of (.pointer none) (by kernel_rfl) (by kernel_rfl) ⟨rfl, rfl⟩ rfl (fun h => by cases h)
theorem okT_56 : TypeOk Tryd.prog 56 ⟨.slice 90, 1, 24, [.sl 0 1 []], false, false⟩ := typeOk_of (.slice none 0 0) (by kernel_rfl) (by kernel_rfl) ⟨rfl, rfl⟩ rfl (fun h => by cases h)
theorem okT_57 : TypeOk Tryd.prog 57 ⟨.slice 116, 1, 24, [.sl 0 1 []], false, false⟩ := typeOk_of (.slice none 0 0) (by kernel_rfl) (by kernel_rfl) ⟨rfl, rfl⟩ rfl (fun h => by cases h)
theorem okT_58 : TypeOk Tryd.prog 58 ⟨.struct #[⟨ "Tick", 3, 0, false, "", "", 0⟩, ⟨ "Count", 3, 1, false, "", "", 8⟩, ⟨ "Tenants", 56, 2, false, "", "", 16⟩, ⟨ "Cells", 57, 3, false, "", "", 40⟩, ⟨ "Proven", 3, 4, false, "", "", 64⟩, ⟨ "Evacuating", 3, 5, false, "", "", 72⟩, ⟨ "Low", 3, 6, false, "", "", 80⟩, ⟨ "High", 3, 7, false, "", "", 88⟩], 8, 96, [.int .i64 0, .int .i64 0, .sl 0 1 [], .sl 0 1 [], .int .i64 0, .int .i64 0, .int .i64 0, .int .i64 0], true, false⟩ := typeOk_of (.agg #[.int .i64 0, .int .i64 0, .slice none 0 0, .slice none 0 0, .int .i64 0, .int .i64 0, .int .i64 0, .int .i64 0]) (by kernel_rfl) (by kernel_rfl) ⟨rfl, rfl⟩ rfl (fun h => by cases h)
theorem okT_59 : TypeOk Tryd.prog 59 ⟨.struct #[⟨ "Tick", 3, 0, false, "", "", 0⟩, ⟨ "Count", 3, 1, false, "", "", 8⟩, ⟨ "Tenants", 56, 2, false, "", "", 16⟩, ⟨ "Cells", 57, 3, false, "", "", 40⟩, ⟨ "Proven", 3, 4, false, "", "", 64⟩, ⟨ "Evacuating", 3, 5, false, "", "", 72⟩, ⟨ "Low", 3, 6, false, "", "", 80⟩, ⟨ "High", 3, 7, false, "", "", 88⟩], 8, 96, [.int .i64 0, .int .i64 0, .sl 0 1 [], .sl 0 1 [], .int .i64 0, .int .i64 0, .int .i64 0, .int .i64 0], true, false⟩ := typeOk_of (.agg #[.int .i64 0, .int .i64 0, .slice none 0 0, .slice none 0 0, .int .i64 0, .int .i64 0, .int .i64 0, .int .i64 0]) (by kernel_rfl) (by kernel_rfl) ⟨rfl, rfl⟩ rfl (fun h => by cases h)
theorem okT_63 : TypeOk Tryd.prog 63 ⟨.struct #[⟨ "tenants", 3, 0, false, "", "cellplane/entry", 0⟩, ⟨ "cells", 3, 1, false, "", "cellplane/entry", 8⟩, ⟨ "regions", 3, 2, false, "", "cellplane/entry", 16⟩, ⟨ "versions", 3, 3, false, "", "cellplane/entry", 24⟩], 4, 32, [.int .i64 0, .int .i64 0, .int .i64 0, .int .i64 0], true, true⟩ := typeOk_of (.agg #[.int .i64 0, .int .i64 0, .int .i64 0, .int .i64 0]) (by kernel_rfl) (by kernel_rfl) ⟨rfl, rfl⟩ rfl (fun _ => ⟨by kernel_rfl, by kernel_rfl⟩)
theorem okT_64 : TypeOk Tryd.prog 64 ⟨.struct #[⟨ "tenants", 3, 0, false, "", "cellplane/entry", 0⟩, ⟨ "cells", 3, 1, false, "", "cellplane/entry", 8⟩, ⟨ "regions", 3, 2, false, "", "cellplane/entry", 16⟩, ⟨ "versions", 3, 3, false, "", "cellplane/entry", 24⟩], 4, 32, [.int .i64 0, .int .i64 0, .int .i64 0, .int .i64 0], true, true⟩ := typeOk_of (.agg #[.int .i64 0, .int .i64 0, .int .i64 0, .int .i64 0]) (by kernel_rfl) (by kernel_rfl) ⟨rfl, rfl⟩ rfl (fun _ => ⟨by kernel_rfl, by kernel_rfl⟩)
theorem okT_67 : TypeOk Tryd.prog 67 ⟨.pointer 3, 1, 8, [.pnil], false, false⟩ := typeOk_of (.pointer none) (by kernel_rfl) (by kernel_rfl) ⟨rfl, rfl⟩ rfl (fun h => by cases h)
theorem okT_68 : TypeOk Tryd.prog 68 ⟨.array 9 67, 9, 72, [.pnil, .pnil, .pnil, .pnil, .pnil, .pnil, .pnil, .pnil, .pnil], true, false⟩ := typeOk_of (.agg #[.pointer none, .pointer none, .pointer none, .pointer none, .pointer none, .pointer none, .pointer none, .pointer none, .pointer none]) (by kernel_rfl) (by kernel_rfl) ⟨rfl, rfl⟩ rfl (fun h => by cases h)
theorem okT_70 : TypeOk Tryd.prog 70 ⟨.pointer 24, 1, 8, [.pnil], false, false⟩ := typeOk_of (.pointer none) (by kernel_rfl) (by kernel_rfl) ⟨rfl, rfl⟩ rfl (fun h => by cases h)
theorem okT_73 : TypeOk Tryd.prog 73 ⟨.array 9 3, 9, 72, [.int .i64 0, .int .i64 0, .int .i64 0, .int .i64 0, .int .i64 0, .int .i64 0, .int .i64 0, .int .i64 0, .int .i64 0], true, false⟩ := typeOk_of (.agg #[.int .i64 0, .int .i64 0, .int .i64 0, .int .i64 0, .int .i64 0, .int .i64 0, .int .i64 0, .int .i64 0, .int .i64 0]) (by kernel_rfl) (by kernel_rfl) ⟨rfl, rfl⟩ rfl (fun h => by cases h)
theorem okT_74 : TypeOk Tryd.prog 74 ⟨.array 17 9, 17, 272, [.str .empty, .str .empty, .str .empty, .str .empty, .str .empty, .str .empty, .str .empty, .str .empty, .str .empty, .str .empty, .str .empty, .str .empty, .str .empty, .str .empty, .str .empty, .str .empty, .str .empty], true, false⟩ := typeOk_of (.agg #[.string .empty, .string .empty, .string .empty, .string .empty, .string .empty, .string .empty, .string .empty, .string .empty, .string .empty, .string .empty, .string .empty, .string .empty, .string .empty, .string .empty, .string .empty, .string .empty, .string .empty]) (by kernel_rfl) (by kernel_rfl) ⟨rfl, rfl⟩ rfl (fun h => by cases h)
theorem okT_75 : TypeOk Tryd.prog 75 ⟨.slice 9, 1, 24, [.sl 0 1 []], false, false⟩ := typeOk_of (.slice none 0 0) (by kernel_rfl) (by kernel_rfl) ⟨rfl, rfl⟩ rfl (fun h => by cases h)
theorem okT_77 : TypeOk Tryd.prog 77 ⟨.struct #[⟨ "Region", 3, 0, false, "", "", 0⟩], 1, 8, [.int .i64 0], true, true⟩ := typeOk_of (.agg #[.int .i64 0]) (by kernel_rfl) (by kernel_rfl) ⟨rfl, rfl⟩ rfl (fun _ => ⟨by kernel_rfl, by kernel_rfl⟩)
theorem okT_78 : TypeOk Tryd.prog 78 ⟨.struct #[⟨ "Region", 3, 0, false, "", "", 0⟩], 1, 8, [.int .i64 0], true, true⟩ := typeOk_of (.agg #[.int .i64 0]) (by kernel_rfl) (by kernel_rfl) ⟨rfl, rfl⟩ rfl (fun _ => ⟨by kernel_rfl, by kernel_rfl⟩)
theorem okT_79 : TypeOk Tryd.prog 79 ⟨.struct #[⟨ "Zone", 3, 0, false, "", "", 0⟩, ⟨ "Capacity", 3, 1, false, "", "", 8⟩], 2, 16, [.int .i64 0, .int .i64 0], true, true⟩ := typeOk_of (.agg #[.int .i64 0, .int .i64 0]) (by kernel_rfl) (by kernel_rfl) ⟨rfl, rfl⟩ rfl (fun _ => ⟨by kernel_rfl, by kernel_rfl⟩)
theorem okT_80 : TypeOk Tryd.prog 80 ⟨.struct #[⟨ "Zone", 3, 0, false, "", "", 0⟩, ⟨ "Capacity", 3, 1, false, "", "", 8⟩], 2, 16, [.int .i64 0, .int .i64 0], true, true⟩ := typeOk_of (.agg #[.int .i64 0, .int .i64 0]) (by kernel_rfl) (by kernel_rfl) ⟨rfl, rfl⟩ rfl (fun _ => ⟨by kernel_rfl, by kernel_rfl⟩)
theorem okT_81 : TypeOk Tryd.prog 81 ⟨.int .u64, 1, 8, [.int .u64 0], false, false⟩ := typeOk_of (.int .u64 0) (by kernel_rfl) (by kernel_rfl) ⟨rfl, rfl⟩ rfl (fun h => by cases h)
theorem okT_82 : TypeOk Tryd.prog 82 ⟨.struct #[⟨ "Load", 3, 0, false, "", "", 0⟩, ⟨ "Shadow", 3, 1, false, "", "", 8⟩, ⟨ "Priority", 3, 2, false, "", "", 16⟩, ⟨ "Lag", 3, 3, false, "", "", 24⟩, ⟨ "Allowed", 3, 4, false, "", "", 32⟩, ⟨ "Group", 3, 5, false, "", "", 40⟩, ⟨ "Noisy", 4, 6, false, "", "", 48⟩], 7, 56, [.int .i64 0, .int .i64 0, .int .i64 0, .int .i64 0, .int .i64 0, .int .i64 0, .bool false], true, true⟩ := typeOk_of (.agg #[.int .i64 0, .int .i64 0, .int .i64 0, .int .i64 0, .int .i64 0, .int .i64 0, .bool false]) (by kernel_rfl) (by kernel_rfl) ⟨rfl, rfl⟩ rfl (fun _ => ⟨by kernel_rfl, by kernel_rfl⟩)
theorem okT_83 : TypeOk Tryd.prog 83 ⟨.struct #[⟨ "Load", 3, 0, false, "", "", 0⟩, ⟨ "Shadow", 3, 1, false, "", "", 8⟩, ⟨ "Priority", 3, 2, false, "", "", 16⟩, ⟨ "Lag", 3, 3, false, "", "", 24⟩, ⟨ "Allowed", 3, 4, false, "", "", 32⟩, ⟨ "Group", 3, 5, false, "", "", 40⟩, ⟨ "Noisy", 4, 6, false, "", "", 48⟩], 7, 56, [.int .i64 0, .int .i64 0, .int .i64 0, .int .i64 0, .int .i64 0, .int .i64 0, .bool false], true, true⟩ := typeOk_of (.agg #[.int .i64 0, .int .i64 0, .int .i64 0, .int .i64 0, .int .i64 0, .int .i64 0, .bool false]) (by kernel_rfl) (by kernel_rfl) ⟨rfl, rfl⟩ rfl (fun _ => ⟨by kernel_rfl, by kernel_rfl⟩)
theorem okT_84 : TypeOk Tryd.prog 84 ⟨.struct #[⟨ "Low", 3, 0, false, "", "", 0⟩, ⟨ "High", 3, 1, false, "", "", 8⟩], 2, 16, [.int .i64 0, .int .i64 0], true, true⟩ := typeOk_of (.agg #[.int .i64 0, .int .i64 0]) (by kernel_rfl) (by kernel_rfl) ⟨rfl, rfl⟩ rfl (fun _ => ⟨by kernel_rfl, by kernel_rfl⟩)
theorem okT_85 : TypeOk Tryd.prog 85 ⟨.struct #[⟨ "Low", 3, 0, false, "", "", 0⟩, ⟨ "High", 3, 1, false, "", "", 8⟩], 2, 16, [.int .i64 0, .int .i64 0], true, true⟩ := typeOk_of (.agg #[.int .i64 0, .int .i64 0]) (by kernel_rfl) (by kernel_rfl) ⟨rfl, rfl⟩ rfl (fun _ => ⟨by kernel_rfl, by kernel_rfl⟩)
theorem okT_87 : TypeOk Tryd.prog 87 ⟨.struct #[⟨ "Cell", 3, 0, false, "", "", 0⟩, ⟨ "Epoch", 3, 1, false, "", "", 8⟩, ⟨ "Version", 3, 2, false, "", "", 16⟩, ⟨ "From", 3, 3, false, "", "", 24⟩, ⟨ "Until", 3, 4, false, "", "", 32⟩], 5, 40, [.int .i64 0, .int .i64 0, .int .i64 0, .int .i64 0, .int .i64 0], true, true⟩ := typeOk_of (.agg #[.int .i64 0, .int .i64 0, .int .i64 0, .int .i64 0, .int .i64 0]) (by kernel_rfl) (by kernel_rfl) ⟨rfl, rfl⟩ rfl (fun _ => ⟨by kernel_rfl, by kernel_rfl⟩)
theorem okT_88 : TypeOk Tryd.prog 88 ⟨.struct #[⟨ "Cell", 3, 0, false, "", "", 0⟩, ⟨ "Epoch", 3, 1, false, "", "", 8⟩, ⟨ "Version", 3, 2, false, "", "", 16⟩, ⟨ "From", 3, 3, false, "", "", 24⟩, ⟨ "Until", 3, 4, false, "", "", 32⟩], 5, 40, [.int .i64 0, .int .i64 0, .int .i64 0, .int .i64 0, .int .i64 0], true, true⟩ := typeOk_of (.agg #[.int .i64 0, .int .i64 0, .int .i64 0, .int .i64 0, .int .i64 0]) (by kernel_rfl) (by kernel_rfl) ⟨rfl, rfl⟩ rfl (fun _ => ⟨by kernel_rfl, by kernel_rfl⟩)
theorem okT_89 : TypeOk Tryd.prog 89 ⟨.struct #[⟨ "Placed", 4, 0, false, "", "", 0⟩, ⟨ "Shed", 4, 1, false, "", "", 1⟩, ⟨ "Home", 3, 2, false, "", "", 8⟩, ⟨ "Standby", 3, 3, false, "", "", 16⟩, ⟨ "Next", 3, 4, false, "", "", 24⟩, ⟨ "Target", 3, 5, false, "", "", 32⟩, ⟨ "Epoch", 3, 6, false, "", "", 40⟩, ⟨ "Window", 88, 7, false, "", "", 48⟩], 12, 88, [.bool false, .bool false, .int .i64 0, .int .i64 0, .int .i64 0, .int .i64 0, .int .i64 0, .int .i64 0, .int .i64 0, .int .i64 0, .int .i64 0, .int .i64 0], true, true⟩ := typeOk_of (.agg #[.bool false, .bool false, .int .i64 0, .int .i64 0, .int .i64 0, .int .i64 0, .int .i64 0, .int .i64 0, .int .i64 0, .int .i64 0, .int .i64 0, .int .i64 0]) (by kernel_rfl) (by kernel_rfl) ⟨rfl, rfl⟩ rfl (fun _ => ⟨by kernel_rfl, by kernel_rfl⟩)
theorem okT_90 : TypeOk Tryd.prog 90 ⟨.struct #[⟨ "Placed", 4, 0, false, "", "", 0⟩, ⟨ "Shed", 4, 1, false, "", "", 1⟩, ⟨ "Home", 3, 2, false, "", "", 8⟩, ⟨ "Standby", 3, 3, false, "", "", 16⟩, ⟨ "Next", 3, 4, false, "", "", 24⟩, ⟨ "Target", 3, 5, false, "", "", 32⟩, ⟨ "Epoch", 3, 6, false, "", "", 40⟩, ⟨ "Window", 88, 7, false, "", "", 48⟩], 12, 88, [.bool false, .bool false, .int .i64 0, .int .i64 0, .int .i64 0, .int .i64 0, .int .i64 0, .int .i64 0, .int .i64 0, .int .i64 0, .int .i64 0, .int .i64 0], true, true⟩ := typeOk_of (.agg #[.bool false, .bool false, .int .i64 0, .int .i64 0, .int .i64 0, .int .i64 0, .int .i64 0, .int .i64 0, .int .i64 0, .int .i64 0, .int .i64 0, .int .i64 0]) (by kernel_rfl) (by kernel_rfl) ⟨rfl, rfl⟩ rfl (fun _ => ⟨by kernel_rfl, by kernel_rfl⟩)
theorem okT_96 : TypeOk Tryd.prog 96 ⟨.struct #[⟨ "L", 22, 0, false, "", "", 0⟩, ⟨ "At", 3, 1, false, "", "", 24⟩], 2, 32, [.sl 0 1 [], .int .i64 0], true, false⟩ := typeOk_of (.agg #[.slice none 0 0, .int .i64 0]) (by kernel_rfl) (by kernel_rfl) ⟨rfl, rfl⟩ rfl (fun h => by cases h)
theorem okT_97 : TypeOk Tryd.prog 97 ⟨.struct #[⟨ "L", 22, 0, false, "", "", 0⟩, ⟨ "At", 3, 1, false, "", "", 24⟩], 2, 32, [.sl 0 1 [], .int .i64 0], true, false⟩ := typeOk_of (.agg #[.slice none 0 0, .int .i64 0]) (by kernel_rfl) (by kernel_rfl) ⟨rfl, rfl⟩ rfl (fun h => by cases h)
theorem okT_100 : TypeOk Tryd.prog 100 ⟨.slice 24, 1, 24, [.sl 0 1 []], false, false⟩ := typeOk_of (.slice none 0 0) (by kernel_rfl) (by kernel_rfl) ⟨rfl, rfl⟩ rfl (fun h => by cases h)
theorem okT_102 : TypeOk Tryd.prog 102 ⟨.struct #[⟨ "low", 3, 0, false, "", "cellplane/entry", 0⟩, ⟨ "high", 3, 1, false, "", "cellplane/entry", 8⟩], 2, 16, [.int .i64 0, .int .i64 0], true, true⟩ := typeOk_of (.agg #[.int .i64 0, .int .i64 0]) (by kernel_rfl) (by kernel_rfl) ⟨rfl, rfl⟩ rfl (fun _ => ⟨by kernel_rfl, by kernel_rfl⟩)
theorem okT_103 : TypeOk Tryd.prog 103 ⟨.struct #[⟨ "low", 3, 0, false, "", "cellplane/entry", 0⟩, ⟨ "high", 3, 1, false, "", "cellplane/entry", 8⟩], 2, 16, [.int .i64 0, .int .i64 0], true, true⟩ := typeOk_of (.agg #[.int .i64 0, .int .i64 0]) (by kernel_rfl) (by kernel_rfl) ⟨rfl, rfl⟩ rfl (fun _ => ⟨by kernel_rfl, by kernel_rfl⟩)
theorem okT_104 : TypeOk Tryd.prog 104 ⟨.struct #[⟨ "tenant", 103, 0, false, "", "cellplane/entry", 0⟩, ⟨ "cell", 103, 2, false, "", "cellplane/entry", 16⟩, ⟨ "other", 103, 4, false, "", "cellplane/entry", 32⟩, ⟨ "epoch", 103, 6, false, "", "cellplane/entry", 48⟩, ⟨ "from", 103, 8, false, "", "cellplane/entry", 64⟩, ⟨ "until", 103, 10, false, "", "cellplane/entry", 80⟩, ⟨ "n", 103, 12, false, "", "cellplane/entry", 96⟩], 14, 112, [.int .i64 0, .int .i64 0, .int .i64 0, .int .i64 0, .int .i64 0, .int .i64 0, .int .i64 0, .int .i64 0, .int .i64 0, .int .i64 0, .int .i64 0, .int .i64 0, .int .i64 0, .int .i64 0], true, true⟩ := typeOk_of (.agg #[.int .i64 0, .int .i64 0, .int .i64 0, .int .i64 0, .int .i64 0, .int .i64 0, .int .i64 0, .int .i64 0, .int .i64 0, .int .i64 0, .int .i64 0, .int .i64 0, .int .i64 0, .int .i64 0]) (by kernel_rfl) (by kernel_rfl) ⟨rfl, rfl⟩ rfl (fun _ => ⟨by kernel_rfl, by kernel_rfl⟩)
theorem okT_105 : TypeOk Tryd.prog 105 ⟨.struct #[⟨ "tenant", 103, 0, false, "", "cellplane/entry", 0⟩, ⟨ "cell", 103, 2, false, "", "cellplane/entry", 16⟩, ⟨ "other", 103, 4, false, "", "cellplane/entry", 32⟩, ⟨ "epoch", 103, 6, false, "", "cellplane/entry", 48⟩, ⟨ "from", 103, 8, false, "", "cellplane/entry", 64⟩, ⟨ "until", 103, 10, false, "", "cellplane/entry", 80⟩, ⟨ "n", 103, 12, false, "", "cellplane/entry", 96⟩], 14, 112, [.int .i64 0, .int .i64 0, .int .i64 0, .int .i64 0, .int .i64 0, .int .i64 0, .int .i64 0, .int .i64 0, .int .i64 0, .int .i64 0, .int .i64 0, .int .i64 0, .int .i64 0, .int .i64 0], true, true⟩ := typeOk_of (.agg #[.int .i64 0, .int .i64 0, .int .i64 0, .int .i64 0, .int .i64 0, .int .i64 0, .int .i64 0, .int .i64 0, .int .i64 0, .int .i64 0, .int .i64 0, .int .i64 0, .int .i64 0, .int .i64 0]) (by kernel_rfl) (by kernel_rfl) ⟨rfl, rfl⟩ rfl (fun _ => ⟨by kernel_rfl, by kernel_rfl⟩)
theorem okT_111 : TypeOk Tryd.prog 111 ⟨.int .u64, 1, 8, [.int .u64 0], false, false⟩ := typeOk_of (.int .u64 0) (by kernel_rfl) (by kernel_rfl) ⟨rfl, rfl⟩ rfl (fun h => by cases h)
theorem okT_115 : TypeOk Tryd.prog 115 ⟨.struct #[⟨ "Mode", 3, 0, false, "", "", 0⟩, ⟨ "Running", 3, 1, false, "", "", 8⟩, ⟨ "Wanted", 3, 2, false, "", "", 16⟩, ⟨ "Since", 3, 3, false, "", "", 24⟩], 4, 32, [.int .i64 0, .int .i64 0, .int .i64 0, .int .i64 0], true, true⟩ := typeOk_of (.agg #[.int .i64 0, .int .i64 0, .int .i64 0, .int .i64 0]) (by kernel_rfl) (by kernel_rfl) ⟨rfl, rfl⟩ rfl (fun _ => ⟨by kernel_rfl, by kernel_rfl⟩)
theorem okT_116 : TypeOk Tryd.prog 116 ⟨.struct #[⟨ "Mode", 3, 0, false, "", "", 0⟩, ⟨ "Running", 3, 1, false, "", "", 8⟩, ⟨ "Wanted", 3, 2, false, "", "", 16⟩, ⟨ "Since", 3, 3, false, "", "", 24⟩], 4, 32, [.int .i64 0, .int .i64 0, .int .i64 0, .int .i64 0], true, true⟩ := typeOk_of (.agg #[.int .i64 0, .int .i64 0, .int .i64 0, .int .i64 0]) (by kernel_rfl) (by kernel_rfl) ⟨rfl, rfl⟩ rfl (fun _ => ⟨by kernel_rfl, by kernel_rfl⟩)
theorem okT_130 : TypeOk Tryd.prog 130 ⟨.pointer 90, 1, 8, [.pnil], false, false⟩ := typeOk_of (.pointer none) (by kernel_rfl) (by kernel_rfl) ⟨rfl, rfl⟩ rfl (fun h => by cases h)
theorem okT_134 : TypeOk Tryd.prog 134 ⟨.pointer 116, 1, 8, [.pnil], false, false⟩ := typeOk_of (.pointer none) (by kernel_rfl) (by kernel_rfl) ⟨rfl, rfl⟩ rfl (fun h => by cases h)
theorem okT_145 : TypeOk Tryd.prog 145 ⟨.int .u32, 1, 4, [.int .u32 0], false, false⟩ := typeOk_of (.int .u32 0) (by kernel_rfl) (by kernel_rfl) ⟨rfl, rfl⟩ rfl (fun h => by cases h)
theorem okT_149 : TypeOk Tryd.prog 149 ⟨.pointer 5, 1, 8, [.pnil], false, false⟩ := typeOk_of (.pointer none) (by kernel_rfl) (by kernel_rfl) ⟨rfl, rfl⟩ rfl (fun h => by cases h)

theorem types_ok : TypesOk Tryd.prog T := by
  intro t ti h
  unfold T at h
  split at h
  · cases h; exact okT_2
  · cases h; exact okT_3
  · cases h; exact okT_4
  · cases h; exact okT_5
  · cases h; exact okT_9
  · cases h; exact okT_12
  · cases h; exact okT_21
  · cases h; exact okT_22
  · cases h; exact okT_23
  · cases h; exact okT_24
  · cases h; exact okT_27
  · cases h; exact okT_28
  · cases h; exact okT_29
  · cases h; exact okT_30
  · cases h; exact okT_31
  · cases h; exact okT_32
  · cases h; exact okT_41
  · cases h; exact okT_43
  · cases h; exact okT_44
  · cases h; exact okT_54
  · cases h; exact okT_56
  · cases h; exact okT_57
  · cases h; exact okT_58
  · cases h; exact okT_59
  · cases h; exact okT_63
  · cases h; exact okT_64
  · cases h; exact okT_67
  · cases h; exact okT_68
  · cases h; exact okT_70
  · cases h; exact okT_73
  · cases h; exact okT_74
  · cases h; exact okT_75
  · cases h; exact okT_77
  · cases h; exact okT_78
  · cases h; exact okT_79
  · cases h; exact okT_80
  · cases h; exact okT_81
  · cases h; exact okT_82
  · cases h; exact okT_83
  · cases h; exact okT_84
  · cases h; exact okT_85
  · cases h; exact okT_87
  · cases h; exact okT_88
  · cases h; exact okT_89
  · cases h; exact okT_90
  · cases h; exact okT_96
  · cases h; exact okT_97
  · cases h; exact okT_100
  · cases h; exact okT_102
  · cases h; exact okT_103
  · cases h; exact okT_104
  · cases h; exact okT_105
  · cases h; exact okT_111
  · cases h; exact okT_115
  · cases h; exact okT_116
  · cases h; exact okT_130
  · cases h; exact okT_134
  · cases h; exact okT_145
  · cases h; exact okT_149
  · cases h

@[simp] theorem T_2 : T 2 = some ⟨.int .i64, 1, 8, [.int .i64 0], false, false⟩ := rfl
@[simp] theorem D_2 : descOf T 2 = some (.int .i64) := rfl
@[simp] theorem S_2 : sizeT T 2 = some 1 := rfl
@[simp] theorem T_3 : T 3 = some ⟨.int .i64, 1, 8, [.int .i64 0], false, false⟩ := rfl
@[simp] theorem D_3 : descOf T 3 = some (.int .i64) := rfl
@[simp] theorem S_3 : sizeT T 3 = some 1 := rfl
@[simp] theorem T_4 : T 4 = some ⟨.bool, 1, 1, [.bool false], false, false⟩ := rfl
@[simp] theorem D_4 : descOf T 4 = some (.bool) := rfl
@[simp] theorem S_4 : sizeT T 4 = some 1 := rfl
@[simp] theorem T_5 : T 5 = some ⟨.int .u8, 1, 1, [.int .u8 0], false, false⟩ := rfl
@[simp] theorem D_5 : descOf T 5 = some (.int .u8) := rfl
@[simp] theorem S_5 : sizeT T 5 = some 1 := rfl
@[simp] theorem T_9 : T 9 = some ⟨.string, 1, 16, [.str .empty], false, false⟩ := rfl
@[simp] theorem D_9 : descOf T 9 = some (.string) := rfl
@[simp] theorem S_9 : sizeT T 9 = some 1 := rfl
@[simp] theorem T_12 : T 12 = some ⟨.int .u64, 1, 8, [.int .u64 0], false, false⟩ := rfl
@[simp] theorem D_12 : descOf T 12 = some (.int .u64) := rfl
@[simp] theorem S_12 : sizeT T 12 = some 1 := rfl
@[simp] theorem T_21 : T 21 = some ⟨.int .i32, 1, 4, [.int .i32 0], false, false⟩ := rfl
@[simp] theorem D_21 : descOf T 21 = some (.int .i32) := rfl
@[simp] theorem S_21 : sizeT T 21 = some 1 := rfl
@[simp] theorem T_22 : T 22 = some ⟨.slice 3, 1, 24, [.sl 0 1 []], false, false⟩ := rfl
@[simp] theorem D_22 : descOf T 22 = some (.slice 3) := rfl
@[simp] theorem S_22 : sizeT T 22 = some 1 := rfl
@[simp] theorem T_23 : T 23 = some ⟨.struct #[⟨ "Kind", 3, 0, false, "", "", 0⟩, ⟨ "Tick", 3, 1, false, "", "", 8⟩, ⟨ "Tenant", 3, 2, false, "", "", 16⟩, ⟨ "Cell", 3, 3, false, "", "", 24⟩, ⟨ "Other", 3, 4, false, "", "", 32⟩, ⟨ "Epoch", 3, 5, false, "", "", 40⟩, ⟨ "From", 3, 6, false, "", "", 48⟩, ⟨ "Until", 3, 7, false, "", "", 56⟩, ⟨ "N", 3, 8, false, "", "", 64⟩], 9, 72, [.int .i64 0, .int .i64 0, .int .i64 0, .int .i64 0, .int .i64 0, .int .i64 0, .int .i64 0, .int .i64 0, .int .i64 0], true, true⟩ := rfl
@[simp] theorem D_23 : descOf T 23 = some (.struct #[⟨ "Kind", 3, 0, false, "", "", 0⟩, ⟨ "Tick", 3, 1, false, "", "", 8⟩, ⟨ "Tenant", 3, 2, false, "", "", 16⟩, ⟨ "Cell", 3, 3, false, "", "", 24⟩, ⟨ "Other", 3, 4, false, "", "", 32⟩, ⟨ "Epoch", 3, 5, false, "", "", 40⟩, ⟨ "From", 3, 6, false, "", "", 48⟩, ⟨ "Until", 3, 7, false, "", "", 56⟩, ⟨ "N", 3, 8, false, "", "", 64⟩]) := rfl
@[simp] theorem S_23 : sizeT T 23 = some 9 := rfl
@[simp] theorem T_24 : T 24 = some ⟨.struct #[⟨ "Kind", 3, 0, false, "", "", 0⟩, ⟨ "Tick", 3, 1, false, "", "", 8⟩, ⟨ "Tenant", 3, 2, false, "", "", 16⟩, ⟨ "Cell", 3, 3, false, "", "", 24⟩, ⟨ "Other", 3, 4, false, "", "", 32⟩, ⟨ "Epoch", 3, 5, false, "", "", 40⟩, ⟨ "From", 3, 6, false, "", "", 48⟩, ⟨ "Until", 3, 7, false, "", "", 56⟩, ⟨ "N", 3, 8, false, "", "", 64⟩], 9, 72, [.int .i64 0, .int .i64 0, .int .i64 0, .int .i64 0, .int .i64 0, .int .i64 0, .int .i64 0, .int .i64 0, .int .i64 0], true, true⟩ := rfl
@[simp] theorem D_24 : descOf T 24 = some (.struct #[⟨ "Kind", 3, 0, false, "", "", 0⟩, ⟨ "Tick", 3, 1, false, "", "", 8⟩, ⟨ "Tenant", 3, 2, false, "", "", 16⟩, ⟨ "Cell", 3, 3, false, "", "", 24⟩, ⟨ "Other", 3, 4, false, "", "", 32⟩, ⟨ "Epoch", 3, 5, false, "", "", 40⟩, ⟨ "From", 3, 6, false, "", "", 48⟩, ⟨ "Until", 3, 7, false, "", "", 56⟩, ⟨ "N", 3, 8, false, "", "", 64⟩]) := rfl
@[simp] theorem S_24 : sizeT T 24 = some 9 := rfl
@[simp] theorem T_27 : T 27 = some ⟨.slice 78, 1, 24, [.sl 0 1 []], false, false⟩ := rfl
@[simp] theorem D_27 : descOf T 27 = some (.slice 78) := rfl
@[simp] theorem S_27 : sizeT T 27 = some 1 := rfl
@[simp] theorem T_28 : T 28 = some ⟨.slice 80, 1, 24, [.sl 0 1 []], false, false⟩ := rfl
@[simp] theorem D_28 : descOf T 28 = some (.slice 80) := rfl
@[simp] theorem S_28 : sizeT T 28 = some 1 := rfl
@[simp] theorem T_29 : T 29 = some ⟨.slice 83, 1, 24, [.sl 0 1 []], false, false⟩ := rfl
@[simp] theorem D_29 : descOf T 29 = some (.slice 83) := rfl
@[simp] theorem S_29 : sizeT T 29 = some 1 := rfl
@[simp] theorem T_30 : T 30 = some ⟨.slice 85, 1, 24, [.sl 0 1 []], false, false⟩ := rfl
@[simp] theorem D_30 : descOf T 30 = some (.slice 85) := rfl
@[simp] theorem S_30 : sizeT T 30 = some 1 := rfl
@[simp] theorem T_31 : T 31 = some ⟨.struct #[⟨ "Regions", 3, 0, false, "", "", 0⟩, ⟨ "Zones", 27, 1, false, "", "", 8⟩, ⟨ "Cells", 28, 2, false, "", "", 32⟩, ⟨ "Tenants", 29, 3, false, "", "", 56⟩, ⟨ "Versions", 30, 4, false, "", "", 80⟩, ⟨ "Replicas", 22, 5, false, "", "", 104⟩, ⟨ "Observers", 22, 6, false, "", "", 128⟩, ⟨ "Blast", 3, 7, false, "", "", 152⟩, ⟨ "Lease", 3, 8, false, "", "", 160⟩, ⟨ "Bake", 3, 9, false, "", "", 168⟩], 10, 176, [.int .i64 0, .sl 0 1 [], .sl 0 1 [], .sl 0 1 [], .sl 0 1 [], .sl 0 1 [], .sl 0 1 [], .int .i64 0, .int .i64 0, .int .i64 0], true, false⟩ := rfl
@[simp] theorem D_31 : descOf T 31 = some (.struct #[⟨ "Regions", 3, 0, false, "", "", 0⟩, ⟨ "Zones", 27, 1, false, "", "", 8⟩, ⟨ "Cells", 28, 2, false, "", "", 32⟩, ⟨ "Tenants", 29, 3, false, "", "", 56⟩, ⟨ "Versions", 30, 4, false, "", "", 80⟩, ⟨ "Replicas", 22, 5, false, "", "", 104⟩, ⟨ "Observers", 22, 6, false, "", "", 128⟩, ⟨ "Blast", 3, 7, false, "", "", 152⟩, ⟨ "Lease", 3, 8, false, "", "", 160⟩, ⟨ "Bake", 3, 9, false, "", "", 168⟩]) := rfl
@[simp] theorem S_31 : sizeT T 31 = some 10 := rfl
@[simp] theorem T_32 : T 32 = some ⟨.struct #[⟨ "Regions", 3, 0, false, "", "", 0⟩, ⟨ "Zones", 27, 1, false, "", "", 8⟩, ⟨ "Cells", 28, 2, false, "", "", 32⟩, ⟨ "Tenants", 29, 3, false, "", "", 56⟩, ⟨ "Versions", 30, 4, false, "", "", 80⟩, ⟨ "Replicas", 22, 5, false, "", "", 104⟩, ⟨ "Observers", 22, 6, false, "", "", 128⟩, ⟨ "Blast", 3, 7, false, "", "", 152⟩, ⟨ "Lease", 3, 8, false, "", "", 160⟩, ⟨ "Bake", 3, 9, false, "", "", 168⟩], 10, 176, [.int .i64 0, .sl 0 1 [], .sl 0 1 [], .sl 0 1 [], .sl 0 1 [], .sl 0 1 [], .sl 0 1 [], .int .i64 0, .int .i64 0, .int .i64 0], true, false⟩ := rfl
@[simp] theorem D_32 : descOf T 32 = some (.struct #[⟨ "Regions", 3, 0, false, "", "", 0⟩, ⟨ "Zones", 27, 1, false, "", "", 8⟩, ⟨ "Cells", 28, 2, false, "", "", 32⟩, ⟨ "Tenants", 29, 3, false, "", "", 56⟩, ⟨ "Versions", 30, 4, false, "", "", 80⟩, ⟨ "Replicas", 22, 5, false, "", "", 104⟩, ⟨ "Observers", 22, 6, false, "", "", 128⟩, ⟨ "Blast", 3, 7, false, "", "", 152⟩, ⟨ "Lease", 3, 8, false, "", "", 160⟩, ⟨ "Bake", 3, 9, false, "", "", 168⟩]) := rfl
@[simp] theorem S_32 : sizeT T 32 = some 10 := rfl
@[simp] theorem T_41 : T 41 = some ⟨.slice 5, 1, 24, [.sl 0 1 []], false, false⟩ := rfl
@[simp] theorem D_41 : descOf T 41 = some (.slice 5) := rfl
@[simp] theorem S_41 : sizeT T 41 = some 1 := rfl
@[simp] theorem T_43 : T 43 = some ⟨.slice 41, 1, 24, [.sl 0 1 []], false, false⟩ := rfl
@[simp] theorem D_43 : descOf T 43 = some (.slice 41) := rfl
@[simp] theorem S_43 : sizeT T 43 = some 1 := rfl
@[simp] theorem T_44 : T 44 = some ⟨.int .i64, 1, 8, [.int .i64 0], false, false⟩ := rfl
@[simp] theorem D_44 : descOf T 44 = some (.int .i64) := rfl
@[simp] theorem S_44 : sizeT T 44 = some 1 := rfl
@[simp] theorem T_54 : T 54 = some ⟨.pointer 97, 1, 8, [.pnil], false, false⟩ := rfl
@[simp] theorem D_54 : descOf T 54 = some (.pointer 97) := rfl
@[simp] theorem S_54 : sizeT T 54 = some 1 := rfl
@[simp] theorem T_56 : T 56 = some ⟨.slice 90, 1, 24, [.sl 0 1 []], false, false⟩ := rfl
@[simp] theorem D_56 : descOf T 56 = some (.slice 90) := rfl
@[simp] theorem S_56 : sizeT T 56 = some 1 := rfl
@[simp] theorem T_57 : T 57 = some ⟨.slice 116, 1, 24, [.sl 0 1 []], false, false⟩ := rfl
@[simp] theorem D_57 : descOf T 57 = some (.slice 116) := rfl
@[simp] theorem S_57 : sizeT T 57 = some 1 := rfl
@[simp] theorem T_58 : T 58 = some ⟨.struct #[⟨ "Tick", 3, 0, false, "", "", 0⟩, ⟨ "Count", 3, 1, false, "", "", 8⟩, ⟨ "Tenants", 56, 2, false, "", "", 16⟩, ⟨ "Cells", 57, 3, false, "", "", 40⟩, ⟨ "Proven", 3, 4, false, "", "", 64⟩, ⟨ "Evacuating", 3, 5, false, "", "", 72⟩, ⟨ "Low", 3, 6, false, "", "", 80⟩, ⟨ "High", 3, 7, false, "", "", 88⟩], 8, 96, [.int .i64 0, .int .i64 0, .sl 0 1 [], .sl 0 1 [], .int .i64 0, .int .i64 0, .int .i64 0, .int .i64 0], true, false⟩ := rfl
@[simp] theorem D_58 : descOf T 58 = some (.struct #[⟨ "Tick", 3, 0, false, "", "", 0⟩, ⟨ "Count", 3, 1, false, "", "", 8⟩, ⟨ "Tenants", 56, 2, false, "", "", 16⟩, ⟨ "Cells", 57, 3, false, "", "", 40⟩, ⟨ "Proven", 3, 4, false, "", "", 64⟩, ⟨ "Evacuating", 3, 5, false, "", "", 72⟩, ⟨ "Low", 3, 6, false, "", "", 80⟩, ⟨ "High", 3, 7, false, "", "", 88⟩]) := rfl
@[simp] theorem S_58 : sizeT T 58 = some 8 := rfl
@[simp] theorem T_59 : T 59 = some ⟨.struct #[⟨ "Tick", 3, 0, false, "", "", 0⟩, ⟨ "Count", 3, 1, false, "", "", 8⟩, ⟨ "Tenants", 56, 2, false, "", "", 16⟩, ⟨ "Cells", 57, 3, false, "", "", 40⟩, ⟨ "Proven", 3, 4, false, "", "", 64⟩, ⟨ "Evacuating", 3, 5, false, "", "", 72⟩, ⟨ "Low", 3, 6, false, "", "", 80⟩, ⟨ "High", 3, 7, false, "", "", 88⟩], 8, 96, [.int .i64 0, .int .i64 0, .sl 0 1 [], .sl 0 1 [], .int .i64 0, .int .i64 0, .int .i64 0, .int .i64 0], true, false⟩ := rfl
@[simp] theorem D_59 : descOf T 59 = some (.struct #[⟨ "Tick", 3, 0, false, "", "", 0⟩, ⟨ "Count", 3, 1, false, "", "", 8⟩, ⟨ "Tenants", 56, 2, false, "", "", 16⟩, ⟨ "Cells", 57, 3, false, "", "", 40⟩, ⟨ "Proven", 3, 4, false, "", "", 64⟩, ⟨ "Evacuating", 3, 5, false, "", "", 72⟩, ⟨ "Low", 3, 6, false, "", "", 80⟩, ⟨ "High", 3, 7, false, "", "", 88⟩]) := rfl
@[simp] theorem S_59 : sizeT T 59 = some 8 := rfl
@[simp] theorem T_63 : T 63 = some ⟨.struct #[⟨ "tenants", 3, 0, false, "", "cellplane/entry", 0⟩, ⟨ "cells", 3, 1, false, "", "cellplane/entry", 8⟩, ⟨ "regions", 3, 2, false, "", "cellplane/entry", 16⟩, ⟨ "versions", 3, 3, false, "", "cellplane/entry", 24⟩], 4, 32, [.int .i64 0, .int .i64 0, .int .i64 0, .int .i64 0], true, true⟩ := rfl
@[simp] theorem D_63 : descOf T 63 = some (.struct #[⟨ "tenants", 3, 0, false, "", "cellplane/entry", 0⟩, ⟨ "cells", 3, 1, false, "", "cellplane/entry", 8⟩, ⟨ "regions", 3, 2, false, "", "cellplane/entry", 16⟩, ⟨ "versions", 3, 3, false, "", "cellplane/entry", 24⟩]) := rfl
@[simp] theorem S_63 : sizeT T 63 = some 4 := rfl
@[simp] theorem T_64 : T 64 = some ⟨.struct #[⟨ "tenants", 3, 0, false, "", "cellplane/entry", 0⟩, ⟨ "cells", 3, 1, false, "", "cellplane/entry", 8⟩, ⟨ "regions", 3, 2, false, "", "cellplane/entry", 16⟩, ⟨ "versions", 3, 3, false, "", "cellplane/entry", 24⟩], 4, 32, [.int .i64 0, .int .i64 0, .int .i64 0, .int .i64 0], true, true⟩ := rfl
@[simp] theorem D_64 : descOf T 64 = some (.struct #[⟨ "tenants", 3, 0, false, "", "cellplane/entry", 0⟩, ⟨ "cells", 3, 1, false, "", "cellplane/entry", 8⟩, ⟨ "regions", 3, 2, false, "", "cellplane/entry", 16⟩, ⟨ "versions", 3, 3, false, "", "cellplane/entry", 24⟩]) := rfl
@[simp] theorem S_64 : sizeT T 64 = some 4 := rfl
@[simp] theorem T_67 : T 67 = some ⟨.pointer 3, 1, 8, [.pnil], false, false⟩ := rfl
@[simp] theorem D_67 : descOf T 67 = some (.pointer 3) := rfl
@[simp] theorem S_67 : sizeT T 67 = some 1 := rfl
@[simp] theorem T_68 : T 68 = some ⟨.array 9 67, 9, 72, [.pnil, .pnil, .pnil, .pnil, .pnil, .pnil, .pnil, .pnil, .pnil], true, false⟩ := rfl
@[simp] theorem D_68 : descOf T 68 = some (.array 9 67) := rfl
@[simp] theorem S_68 : sizeT T 68 = some 9 := rfl
@[simp] theorem T_70 : T 70 = some ⟨.pointer 24, 1, 8, [.pnil], false, false⟩ := rfl
@[simp] theorem D_70 : descOf T 70 = some (.pointer 24) := rfl
@[simp] theorem S_70 : sizeT T 70 = some 1 := rfl
@[simp] theorem T_73 : T 73 = some ⟨.array 9 3, 9, 72, [.int .i64 0, .int .i64 0, .int .i64 0, .int .i64 0, .int .i64 0, .int .i64 0, .int .i64 0, .int .i64 0, .int .i64 0], true, false⟩ := rfl
@[simp] theorem D_73 : descOf T 73 = some (.array 9 3) := rfl
@[simp] theorem S_73 : sizeT T 73 = some 9 := rfl
@[simp] theorem T_74 : T 74 = some ⟨.array 17 9, 17, 272, [.str .empty, .str .empty, .str .empty, .str .empty, .str .empty, .str .empty, .str .empty, .str .empty, .str .empty, .str .empty, .str .empty, .str .empty, .str .empty, .str .empty, .str .empty, .str .empty, .str .empty], true, false⟩ := rfl
@[simp] theorem D_74 : descOf T 74 = some (.array 17 9) := rfl
@[simp] theorem S_74 : sizeT T 74 = some 17 := rfl
@[simp] theorem T_75 : T 75 = some ⟨.slice 9, 1, 24, [.sl 0 1 []], false, false⟩ := rfl
@[simp] theorem D_75 : descOf T 75 = some (.slice 9) := rfl
@[simp] theorem S_75 : sizeT T 75 = some 1 := rfl
@[simp] theorem T_77 : T 77 = some ⟨.struct #[⟨ "Region", 3, 0, false, "", "", 0⟩], 1, 8, [.int .i64 0], true, true⟩ := rfl
@[simp] theorem D_77 : descOf T 77 = some (.struct #[⟨ "Region", 3, 0, false, "", "", 0⟩]) := rfl
@[simp] theorem S_77 : sizeT T 77 = some 1 := rfl
@[simp] theorem T_78 : T 78 = some ⟨.struct #[⟨ "Region", 3, 0, false, "", "", 0⟩], 1, 8, [.int .i64 0], true, true⟩ := rfl
@[simp] theorem D_78 : descOf T 78 = some (.struct #[⟨ "Region", 3, 0, false, "", "", 0⟩]) := rfl
@[simp] theorem S_78 : sizeT T 78 = some 1 := rfl
@[simp] theorem T_79 : T 79 = some ⟨.struct #[⟨ "Zone", 3, 0, false, "", "", 0⟩, ⟨ "Capacity", 3, 1, false, "", "", 8⟩], 2, 16, [.int .i64 0, .int .i64 0], true, true⟩ := rfl
@[simp] theorem D_79 : descOf T 79 = some (.struct #[⟨ "Zone", 3, 0, false, "", "", 0⟩, ⟨ "Capacity", 3, 1, false, "", "", 8⟩]) := rfl
@[simp] theorem S_79 : sizeT T 79 = some 2 := rfl
@[simp] theorem T_80 : T 80 = some ⟨.struct #[⟨ "Zone", 3, 0, false, "", "", 0⟩, ⟨ "Capacity", 3, 1, false, "", "", 8⟩], 2, 16, [.int .i64 0, .int .i64 0], true, true⟩ := rfl
@[simp] theorem D_80 : descOf T 80 = some (.struct #[⟨ "Zone", 3, 0, false, "", "", 0⟩, ⟨ "Capacity", 3, 1, false, "", "", 8⟩]) := rfl
@[simp] theorem S_80 : sizeT T 80 = some 2 := rfl
@[simp] theorem T_81 : T 81 = some ⟨.int .u64, 1, 8, [.int .u64 0], false, false⟩ := rfl
@[simp] theorem D_81 : descOf T 81 = some (.int .u64) := rfl
@[simp] theorem S_81 : sizeT T 81 = some 1 := rfl
@[simp] theorem T_82 : T 82 = some ⟨.struct #[⟨ "Load", 3, 0, false, "", "", 0⟩, ⟨ "Shadow", 3, 1, false, "", "", 8⟩, ⟨ "Priority", 3, 2, false, "", "", 16⟩, ⟨ "Lag", 3, 3, false, "", "", 24⟩, ⟨ "Allowed", 3, 4, false, "", "", 32⟩, ⟨ "Group", 3, 5, false, "", "", 40⟩, ⟨ "Noisy", 4, 6, false, "", "", 48⟩], 7, 56, [.int .i64 0, .int .i64 0, .int .i64 0, .int .i64 0, .int .i64 0, .int .i64 0, .bool false], true, true⟩ := rfl
@[simp] theorem D_82 : descOf T 82 = some (.struct #[⟨ "Load", 3, 0, false, "", "", 0⟩, ⟨ "Shadow", 3, 1, false, "", "", 8⟩, ⟨ "Priority", 3, 2, false, "", "", 16⟩, ⟨ "Lag", 3, 3, false, "", "", 24⟩, ⟨ "Allowed", 3, 4, false, "", "", 32⟩, ⟨ "Group", 3, 5, false, "", "", 40⟩, ⟨ "Noisy", 4, 6, false, "", "", 48⟩]) := rfl
@[simp] theorem S_82 : sizeT T 82 = some 7 := rfl
@[simp] theorem T_83 : T 83 = some ⟨.struct #[⟨ "Load", 3, 0, false, "", "", 0⟩, ⟨ "Shadow", 3, 1, false, "", "", 8⟩, ⟨ "Priority", 3, 2, false, "", "", 16⟩, ⟨ "Lag", 3, 3, false, "", "", 24⟩, ⟨ "Allowed", 3, 4, false, "", "", 32⟩, ⟨ "Group", 3, 5, false, "", "", 40⟩, ⟨ "Noisy", 4, 6, false, "", "", 48⟩], 7, 56, [.int .i64 0, .int .i64 0, .int .i64 0, .int .i64 0, .int .i64 0, .int .i64 0, .bool false], true, true⟩ := rfl
@[simp] theorem D_83 : descOf T 83 = some (.struct #[⟨ "Load", 3, 0, false, "", "", 0⟩, ⟨ "Shadow", 3, 1, false, "", "", 8⟩, ⟨ "Priority", 3, 2, false, "", "", 16⟩, ⟨ "Lag", 3, 3, false, "", "", 24⟩, ⟨ "Allowed", 3, 4, false, "", "", 32⟩, ⟨ "Group", 3, 5, false, "", "", 40⟩, ⟨ "Noisy", 4, 6, false, "", "", 48⟩]) := rfl
@[simp] theorem S_83 : sizeT T 83 = some 7 := rfl
@[simp] theorem T_84 : T 84 = some ⟨.struct #[⟨ "Low", 3, 0, false, "", "", 0⟩, ⟨ "High", 3, 1, false, "", "", 8⟩], 2, 16, [.int .i64 0, .int .i64 0], true, true⟩ := rfl
@[simp] theorem D_84 : descOf T 84 = some (.struct #[⟨ "Low", 3, 0, false, "", "", 0⟩, ⟨ "High", 3, 1, false, "", "", 8⟩]) := rfl
@[simp] theorem S_84 : sizeT T 84 = some 2 := rfl
@[simp] theorem T_85 : T 85 = some ⟨.struct #[⟨ "Low", 3, 0, false, "", "", 0⟩, ⟨ "High", 3, 1, false, "", "", 8⟩], 2, 16, [.int .i64 0, .int .i64 0], true, true⟩ := rfl
@[simp] theorem D_85 : descOf T 85 = some (.struct #[⟨ "Low", 3, 0, false, "", "", 0⟩, ⟨ "High", 3, 1, false, "", "", 8⟩]) := rfl
@[simp] theorem S_85 : sizeT T 85 = some 2 := rfl
@[simp] theorem T_87 : T 87 = some ⟨.struct #[⟨ "Cell", 3, 0, false, "", "", 0⟩, ⟨ "Epoch", 3, 1, false, "", "", 8⟩, ⟨ "Version", 3, 2, false, "", "", 16⟩, ⟨ "From", 3, 3, false, "", "", 24⟩, ⟨ "Until", 3, 4, false, "", "", 32⟩], 5, 40, [.int .i64 0, .int .i64 0, .int .i64 0, .int .i64 0, .int .i64 0], true, true⟩ := rfl
@[simp] theorem D_87 : descOf T 87 = some (.struct #[⟨ "Cell", 3, 0, false, "", "", 0⟩, ⟨ "Epoch", 3, 1, false, "", "", 8⟩, ⟨ "Version", 3, 2, false, "", "", 16⟩, ⟨ "From", 3, 3, false, "", "", 24⟩, ⟨ "Until", 3, 4, false, "", "", 32⟩]) := rfl
@[simp] theorem S_87 : sizeT T 87 = some 5 := rfl
@[simp] theorem T_88 : T 88 = some ⟨.struct #[⟨ "Cell", 3, 0, false, "", "", 0⟩, ⟨ "Epoch", 3, 1, false, "", "", 8⟩, ⟨ "Version", 3, 2, false, "", "", 16⟩, ⟨ "From", 3, 3, false, "", "", 24⟩, ⟨ "Until", 3, 4, false, "", "", 32⟩], 5, 40, [.int .i64 0, .int .i64 0, .int .i64 0, .int .i64 0, .int .i64 0], true, true⟩ := rfl
@[simp] theorem D_88 : descOf T 88 = some (.struct #[⟨ "Cell", 3, 0, false, "", "", 0⟩, ⟨ "Epoch", 3, 1, false, "", "", 8⟩, ⟨ "Version", 3, 2, false, "", "", 16⟩, ⟨ "From", 3, 3, false, "", "", 24⟩, ⟨ "Until", 3, 4, false, "", "", 32⟩]) := rfl
@[simp] theorem S_88 : sizeT T 88 = some 5 := rfl
@[simp] theorem T_89 : T 89 = some ⟨.struct #[⟨ "Placed", 4, 0, false, "", "", 0⟩, ⟨ "Shed", 4, 1, false, "", "", 1⟩, ⟨ "Home", 3, 2, false, "", "", 8⟩, ⟨ "Standby", 3, 3, false, "", "", 16⟩, ⟨ "Next", 3, 4, false, "", "", 24⟩, ⟨ "Target", 3, 5, false, "", "", 32⟩, ⟨ "Epoch", 3, 6, false, "", "", 40⟩, ⟨ "Window", 88, 7, false, "", "", 48⟩], 12, 88, [.bool false, .bool false, .int .i64 0, .int .i64 0, .int .i64 0, .int .i64 0, .int .i64 0, .int .i64 0, .int .i64 0, .int .i64 0, .int .i64 0, .int .i64 0], true, true⟩ := rfl
@[simp] theorem D_89 : descOf T 89 = some (.struct #[⟨ "Placed", 4, 0, false, "", "", 0⟩, ⟨ "Shed", 4, 1, false, "", "", 1⟩, ⟨ "Home", 3, 2, false, "", "", 8⟩, ⟨ "Standby", 3, 3, false, "", "", 16⟩, ⟨ "Next", 3, 4, false, "", "", 24⟩, ⟨ "Target", 3, 5, false, "", "", 32⟩, ⟨ "Epoch", 3, 6, false, "", "", 40⟩, ⟨ "Window", 88, 7, false, "", "", 48⟩]) := rfl
@[simp] theorem S_89 : sizeT T 89 = some 12 := rfl
@[simp] theorem T_90 : T 90 = some ⟨.struct #[⟨ "Placed", 4, 0, false, "", "", 0⟩, ⟨ "Shed", 4, 1, false, "", "", 1⟩, ⟨ "Home", 3, 2, false, "", "", 8⟩, ⟨ "Standby", 3, 3, false, "", "", 16⟩, ⟨ "Next", 3, 4, false, "", "", 24⟩, ⟨ "Target", 3, 5, false, "", "", 32⟩, ⟨ "Epoch", 3, 6, false, "", "", 40⟩, ⟨ "Window", 88, 7, false, "", "", 48⟩], 12, 88, [.bool false, .bool false, .int .i64 0, .int .i64 0, .int .i64 0, .int .i64 0, .int .i64 0, .int .i64 0, .int .i64 0, .int .i64 0, .int .i64 0, .int .i64 0], true, true⟩ := rfl
@[simp] theorem D_90 : descOf T 90 = some (.struct #[⟨ "Placed", 4, 0, false, "", "", 0⟩, ⟨ "Shed", 4, 1, false, "", "", 1⟩, ⟨ "Home", 3, 2, false, "", "", 8⟩, ⟨ "Standby", 3, 3, false, "", "", 16⟩, ⟨ "Next", 3, 4, false, "", "", 24⟩, ⟨ "Target", 3, 5, false, "", "", 32⟩, ⟨ "Epoch", 3, 6, false, "", "", 40⟩, ⟨ "Window", 88, 7, false, "", "", 48⟩]) := rfl
@[simp] theorem S_90 : sizeT T 90 = some 12 := rfl
@[simp] theorem T_96 : T 96 = some ⟨.struct #[⟨ "L", 22, 0, false, "", "", 0⟩, ⟨ "At", 3, 1, false, "", "", 24⟩], 2, 32, [.sl 0 1 [], .int .i64 0], true, false⟩ := rfl
@[simp] theorem D_96 : descOf T 96 = some (.struct #[⟨ "L", 22, 0, false, "", "", 0⟩, ⟨ "At", 3, 1, false, "", "", 24⟩]) := rfl
@[simp] theorem S_96 : sizeT T 96 = some 2 := rfl
@[simp] theorem T_97 : T 97 = some ⟨.struct #[⟨ "L", 22, 0, false, "", "", 0⟩, ⟨ "At", 3, 1, false, "", "", 24⟩], 2, 32, [.sl 0 1 [], .int .i64 0], true, false⟩ := rfl
@[simp] theorem D_97 : descOf T 97 = some (.struct #[⟨ "L", 22, 0, false, "", "", 0⟩, ⟨ "At", 3, 1, false, "", "", 24⟩]) := rfl
@[simp] theorem S_97 : sizeT T 97 = some 2 := rfl
@[simp] theorem T_100 : T 100 = some ⟨.slice 24, 1, 24, [.sl 0 1 []], false, false⟩ := rfl
@[simp] theorem D_100 : descOf T 100 = some (.slice 24) := rfl
@[simp] theorem S_100 : sizeT T 100 = some 1 := rfl
@[simp] theorem T_102 : T 102 = some ⟨.struct #[⟨ "low", 3, 0, false, "", "cellplane/entry", 0⟩, ⟨ "high", 3, 1, false, "", "cellplane/entry", 8⟩], 2, 16, [.int .i64 0, .int .i64 0], true, true⟩ := rfl
@[simp] theorem D_102 : descOf T 102 = some (.struct #[⟨ "low", 3, 0, false, "", "cellplane/entry", 0⟩, ⟨ "high", 3, 1, false, "", "cellplane/entry", 8⟩]) := rfl
@[simp] theorem S_102 : sizeT T 102 = some 2 := rfl
@[simp] theorem T_103 : T 103 = some ⟨.struct #[⟨ "low", 3, 0, false, "", "cellplane/entry", 0⟩, ⟨ "high", 3, 1, false, "", "cellplane/entry", 8⟩], 2, 16, [.int .i64 0, .int .i64 0], true, true⟩ := rfl
@[simp] theorem D_103 : descOf T 103 = some (.struct #[⟨ "low", 3, 0, false, "", "cellplane/entry", 0⟩, ⟨ "high", 3, 1, false, "", "cellplane/entry", 8⟩]) := rfl
@[simp] theorem S_103 : sizeT T 103 = some 2 := rfl
@[simp] theorem T_104 : T 104 = some ⟨.struct #[⟨ "tenant", 103, 0, false, "", "cellplane/entry", 0⟩, ⟨ "cell", 103, 2, false, "", "cellplane/entry", 16⟩, ⟨ "other", 103, 4, false, "", "cellplane/entry", 32⟩, ⟨ "epoch", 103, 6, false, "", "cellplane/entry", 48⟩, ⟨ "from", 103, 8, false, "", "cellplane/entry", 64⟩, ⟨ "until", 103, 10, false, "", "cellplane/entry", 80⟩, ⟨ "n", 103, 12, false, "", "cellplane/entry", 96⟩], 14, 112, [.int .i64 0, .int .i64 0, .int .i64 0, .int .i64 0, .int .i64 0, .int .i64 0, .int .i64 0, .int .i64 0, .int .i64 0, .int .i64 0, .int .i64 0, .int .i64 0, .int .i64 0, .int .i64 0], true, true⟩ := rfl
@[simp] theorem D_104 : descOf T 104 = some (.struct #[⟨ "tenant", 103, 0, false, "", "cellplane/entry", 0⟩, ⟨ "cell", 103, 2, false, "", "cellplane/entry", 16⟩, ⟨ "other", 103, 4, false, "", "cellplane/entry", 32⟩, ⟨ "epoch", 103, 6, false, "", "cellplane/entry", 48⟩, ⟨ "from", 103, 8, false, "", "cellplane/entry", 64⟩, ⟨ "until", 103, 10, false, "", "cellplane/entry", 80⟩, ⟨ "n", 103, 12, false, "", "cellplane/entry", 96⟩]) := rfl
@[simp] theorem S_104 : sizeT T 104 = some 14 := rfl
@[simp] theorem T_105 : T 105 = some ⟨.struct #[⟨ "tenant", 103, 0, false, "", "cellplane/entry", 0⟩, ⟨ "cell", 103, 2, false, "", "cellplane/entry", 16⟩, ⟨ "other", 103, 4, false, "", "cellplane/entry", 32⟩, ⟨ "epoch", 103, 6, false, "", "cellplane/entry", 48⟩, ⟨ "from", 103, 8, false, "", "cellplane/entry", 64⟩, ⟨ "until", 103, 10, false, "", "cellplane/entry", 80⟩, ⟨ "n", 103, 12, false, "", "cellplane/entry", 96⟩], 14, 112, [.int .i64 0, .int .i64 0, .int .i64 0, .int .i64 0, .int .i64 0, .int .i64 0, .int .i64 0, .int .i64 0, .int .i64 0, .int .i64 0, .int .i64 0, .int .i64 0, .int .i64 0, .int .i64 0], true, true⟩ := rfl
@[simp] theorem D_105 : descOf T 105 = some (.struct #[⟨ "tenant", 103, 0, false, "", "cellplane/entry", 0⟩, ⟨ "cell", 103, 2, false, "", "cellplane/entry", 16⟩, ⟨ "other", 103, 4, false, "", "cellplane/entry", 32⟩, ⟨ "epoch", 103, 6, false, "", "cellplane/entry", 48⟩, ⟨ "from", 103, 8, false, "", "cellplane/entry", 64⟩, ⟨ "until", 103, 10, false, "", "cellplane/entry", 80⟩, ⟨ "n", 103, 12, false, "", "cellplane/entry", 96⟩]) := rfl
@[simp] theorem S_105 : sizeT T 105 = some 14 := rfl
@[simp] theorem T_111 : T 111 = some ⟨.int .u64, 1, 8, [.int .u64 0], false, false⟩ := rfl
@[simp] theorem D_111 : descOf T 111 = some (.int .u64) := rfl
@[simp] theorem S_111 : sizeT T 111 = some 1 := rfl
@[simp] theorem T_115 : T 115 = some ⟨.struct #[⟨ "Mode", 3, 0, false, "", "", 0⟩, ⟨ "Running", 3, 1, false, "", "", 8⟩, ⟨ "Wanted", 3, 2, false, "", "", 16⟩, ⟨ "Since", 3, 3, false, "", "", 24⟩], 4, 32, [.int .i64 0, .int .i64 0, .int .i64 0, .int .i64 0], true, true⟩ := rfl
@[simp] theorem D_115 : descOf T 115 = some (.struct #[⟨ "Mode", 3, 0, false, "", "", 0⟩, ⟨ "Running", 3, 1, false, "", "", 8⟩, ⟨ "Wanted", 3, 2, false, "", "", 16⟩, ⟨ "Since", 3, 3, false, "", "", 24⟩]) := rfl
@[simp] theorem S_115 : sizeT T 115 = some 4 := rfl
@[simp] theorem T_116 : T 116 = some ⟨.struct #[⟨ "Mode", 3, 0, false, "", "", 0⟩, ⟨ "Running", 3, 1, false, "", "", 8⟩, ⟨ "Wanted", 3, 2, false, "", "", 16⟩, ⟨ "Since", 3, 3, false, "", "", 24⟩], 4, 32, [.int .i64 0, .int .i64 0, .int .i64 0, .int .i64 0], true, true⟩ := rfl
@[simp] theorem D_116 : descOf T 116 = some (.struct #[⟨ "Mode", 3, 0, false, "", "", 0⟩, ⟨ "Running", 3, 1, false, "", "", 8⟩, ⟨ "Wanted", 3, 2, false, "", "", 16⟩, ⟨ "Since", 3, 3, false, "", "", 24⟩]) := rfl
@[simp] theorem S_116 : sizeT T 116 = some 4 := rfl
@[simp] theorem T_130 : T 130 = some ⟨.pointer 90, 1, 8, [.pnil], false, false⟩ := rfl
@[simp] theorem D_130 : descOf T 130 = some (.pointer 90) := rfl
@[simp] theorem S_130 : sizeT T 130 = some 1 := rfl
@[simp] theorem T_134 : T 134 = some ⟨.pointer 116, 1, 8, [.pnil], false, false⟩ := rfl
@[simp] theorem D_134 : descOf T 134 = some (.pointer 116) := rfl
@[simp] theorem S_134 : sizeT T 134 = some 1 := rfl
@[simp] theorem T_145 : T 145 = some ⟨.int .u32, 1, 4, [.int .u32 0], false, false⟩ := rfl
@[simp] theorem D_145 : descOf T 145 = some (.int .u32) := rfl
@[simp] theorem S_145 : sizeT T 145 = some 1 := rfl
@[simp] theorem T_149 : T 149 = some ⟨.pointer 5, 1, 8, [.pnil], false, false⟩ := rfl
@[simp] theorem D_149 : descOf T 149 = some (.pointer 5) := rfl
@[simp] theorem S_149 : sizeT T 149 = some 1 := rfl

def C0 : FuncId → List V → List AObj → Option CRes := fun _ _ _ => none
theorem C0_ok : SpecsOk Tryd.prog C0 := fun f ⟨_, _, _, h⟩ => by cases h
theorem follows : Tryd.prog.follows .mixedOrders = true := by kernel_rfl
end Go.Proofs.YtegjhmhhbmnljaaDoor
