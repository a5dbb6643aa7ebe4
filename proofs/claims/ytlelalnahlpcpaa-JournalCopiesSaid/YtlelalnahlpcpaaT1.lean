/-
  The program's types.
-/
import Derived.Test.YtlelalnahlpcpaaRows
import Derived.Test.YtlelalnahlpcpaaPLC
import Derived.KernelRfl
set_option linter.unusedSimpArgs false
set_option linter.unusedVariables false
namespace Go.Proofs.Ytlelalnahlpcpaa
open Go.Lift

theorem typeOk_of {P : Program} {t : TypeId} {ti : TI} (z : Value) (h1 : P.underlying t = some ti.desc) (h2 : (P.info? t).map (fun i => (i.zero, i.size, i.bytes)) = some (some z, ti.size, ti.bytes)) (h3 : z.cells.size = ti.size ∧ z.cells.toList.map ofCell = ti.zero)
    (h4 : ti.agg = (match ti.desc with | .struct _ | .array _ _ => true | _ => false)) (h5 : ti.eqc = true → P.stoodInHeld t = false ∧ P.eqGuardType P.depth t = false) : TypeOk P t ti := by
  refine ⟨h1, ?_, h4, h5⟩
  cases hi : P.info? t with
  | none => rw [hi] at h2; cases h2
  | some i =>
    rw [hi] at h2
    simp only [Option.map_some, Option.some.injEq, Prod.mk.injEq] at h2
    exact ⟨i, z, rfl, h2.2.1, h2.2.2, h2.1, h3.1, h3.2⟩

def T (t : TypeId) : Option TI := match t with
  | 2 => some ⟨.int .i64, 1, 8, [.int .i64 0], false, false⟩
  | 3 => some ⟨.int .i64, 1, 8, [.int .i64 0], false, false⟩
  | 4 => some ⟨.bool, 1, 1, [.bool false], false, false⟩
  | 5 => some ⟨.int .u8, 1, 1, [.int .u8 0], false, false⟩
  | 9 => some ⟨.string, 1, 16, [.str .empty], false, false⟩
  | 12 => some ⟨.int .u64, 1, 8, [.int .u64 0], false, false⟩
  | 21 => some ⟨.int .i32, 1, 4, [.int .i32 0], false, false⟩
  | 22 => some ⟨.slice 3, 1, 24, [.sl 0 1 []], false, false⟩
  | 23 => some ⟨.pointer 63, 1, 8, [.pnil], false, false⟩
  | 24 => some ⟨.slice 33, 1, 24, [.sl 0 1 []], false, false⟩
  | 30 => some ⟨.struct #[⟨ "Kind", 3, 0, false, "", "", 0⟩, ⟨ "Tick", 3, 1, false, "", "", 8⟩, ⟨ "Tenant", 3, 2, false, "", "", 16⟩, ⟨ "Cell", 3, 3, false, "", "", 24⟩, ⟨ "Other", 3, 4, false, "", "", 32⟩, ⟨ "Epoch", 3, 5, false, "", "", 40⟩, ⟨ "From", 3, 6, false, "", "", 48⟩, ⟨ "Until", 3, 7, false, "", "", 56⟩, ⟨ "N", 3, 8, false, "", "", 64⟩], 9, 72, [.int .i64 0, .int .i64 0, .int .i64 0, .int .i64 0, .int .i64 0, .int .i64 0, .int .i64 0, .int .i64 0, .int .i64 0], true, true⟩
  | 31 => some ⟨.struct #[⟨ "Kind", 3, 0, false, "", "", 0⟩, ⟨ "Tick", 3, 1, false, "", "", 8⟩, ⟨ "Tenant", 3, 2, false, "", "", 16⟩, ⟨ "Cell", 3, 3, false, "", "", 24⟩, ⟨ "Other", 3, 4, false, "", "", 32⟩, ⟨ "Epoch", 3, 5, false, "", "", 40⟩, ⟨ "From", 3, 6, false, "", "", 48⟩, ⟨ "Until", 3, 7, false, "", "", 56⟩, ⟨ "N", 3, 8, false, "", "", 64⟩], 9, 72, [.int .i64 0, .int .i64 0, .int .i64 0, .int .i64 0, .int .i64 0, .int .i64 0, .int .i64 0, .int .i64 0, .int .i64 0], true, true⟩
  | 32 => some ⟨.struct #[⟨ "Term", 3, 0, false, "", "", 0⟩, ⟨ "Entry", 31, 1, false, "", "", 8⟩], 10, 80, [.int .i64 0, .int .i64 0, .int .i64 0, .int .i64 0, .int .i64 0, .int .i64 0, .int .i64 0, .int .i64 0, .int .i64 0, .int .i64 0], true, true⟩
  | 33 => some ⟨.struct #[⟨ "Term", 3, 0, false, "", "", 0⟩, ⟨ "Entry", 31, 1, false, "", "", 8⟩], 10, 80, [.int .i64 0, .int .i64 0, .int .i64 0, .int .i64 0, .int .i64 0, .int .i64 0, .int .i64 0, .int .i64 0, .int .i64 0, .int .i64 0], true, true⟩
  | 38 => some ⟨.int .i64, 1, 8, [.int .i64 0], false, false⟩
  | 41 => some ⟨.slice 5, 1, 24, [.sl 0 1 []], false, false⟩
  | 45 => some ⟨.slice 50, 1, 24, [.sl 0 1 []], false, false⟩
  | 49 => some ⟨.struct #[⟨ "Which", 3, 0, false, "", "", 0⟩, ⟨ "A", 3, 1, false, "", "", 8⟩, ⟨ "B", 3, 2, false, "", "", 16⟩], 3, 24, [.int .i64 0, .int .i64 0, .int .i64 0], true, true⟩
  | 50 => some ⟨.struct #[⟨ "Which", 3, 0, false, "", "", 0⟩, ⟨ "A", 3, 1, false, "", "", 8⟩, ⟨ "B", 3, 2, false, "", "", 16⟩], 3, 24, [.int .i64 0, .int .i64 0, .int .i64 0], true, true⟩
  | 57 => some ⟨.struct #[⟨ "term", 3, 0, false, "", "cellplane/journal", 0⟩, ⟨ "vote", 3, 1, false, "", "cellplane/journal", 8⟩, ⟨ "log", 24, 2, false, "", "cellplane/journal", 16⟩], 3, 40, [.int .i64 0, .int .i64 0, .sl 0 1 []], true, false⟩
  | 58 => some ⟨.struct #[⟨ "term", 3, 0, false, "", "cellplane/journal", 0⟩, ⟨ "vote", 3, 1, false, "", "cellplane/journal", 8⟩, ⟨ "log", 24, 2, false, "", "cellplane/journal", 16⟩], 3, 40, [.int .i64 0, .int .i64 0, .sl 0 1 []], true, false⟩
  | 59 => some ⟨.pointer 73, 1, 8, [.pnil], false, false⟩
  | 60 => some ⟨.struct #[⟨ "Disk", 59, 0, true, "", "", 0⟩], 1, 8, [.pnil], true, false⟩
  | 61 => some ⟨.struct #[⟨ "Disk", 59, 0, true, "", "", 0⟩], 1, 8, [.pnil], true, false⟩
  | 62 => some ⟨.struct #[⟨ "memory", 58, 0, true, "", "cellplane/journal", 0⟩, ⟨ "tape", 61, 3, false, "", "cellplane/journal", 40⟩], 4, 48, [.int .i64 0, .int .i64 0, .sl 0 1 [], .pnil], true, false⟩
  | 63 => some ⟨.struct #[⟨ "memory", 58, 0, true, "", "cellplane/journal", 0⟩, ⟨ "tape", 61, 3, false, "", "cellplane/journal", 40⟩], 4, 48, [.int .i64 0, .int .i64 0, .sl 0 1 [], .pnil], true, false⟩
  | 65 => some ⟨.struct #[⟨ "kind", 3, 0, false, "", "cellplane/journal", 0⟩, ⟨ "term", 3, 1, false, "", "cellplane/journal", 8⟩, ⟨ "n", 3, 2, false, "", "cellplane/journal", 16⟩, ⟨ "entry", 31, 3, false, "", "cellplane/journal", 24⟩], 12, 96, [.int .i64 0, .int .i64 0, .int .i64 0, .int .i64 0, .int .i64 0, .int .i64 0, .int .i64 0, .int .i64 0, .int .i64 0, .int .i64 0, .int .i64 0, .int .i64 0], true, true⟩
  | 66 => some ⟨.struct #[⟨ "kind", 3, 0, false, "", "cellplane/journal", 0⟩, ⟨ "term", 3, 1, false, "", "cellplane/journal", 8⟩, ⟨ "n", 3, 2, false, "", "cellplane/journal", 16⟩, ⟨ "entry", 31, 3, false, "", "cellplane/journal", 24⟩], 12, 96, [.int .i64 0, .int .i64 0, .int .i64 0, .int .i64 0, .int .i64 0, .int .i64 0, .int .i64 0, .int .i64 0, .int .i64 0, .int .i64 0, .int .i64 0, .int .i64 0], true, true⟩
  | 72 => some ⟨.struct #[⟨ "data", 41, 0, false, "", "cellplane/disk", 0⟩, ⟨ "durable", 3, 1, false, "", "cellplane/disk", 24⟩], 2, 32, [.sl 0 1 [], .int .i64 0], true, false⟩
  | 73 => some ⟨.struct #[⟨ "data", 41, 0, false, "", "cellplane/disk", 0⟩, ⟨ "durable", 3, 1, false, "", "cellplane/disk", 24⟩], 2, 32, [.sl 0 1 [], .int .i64 0], true, false⟩
  | 83 => some ⟨.int .u64, 1, 8, [.int .u64 0], false, false⟩
  | 87 => some ⟨.pointer 58, 1, 8, [.pnil], false, false⟩
  | 96 => some ⟨.pointer 3, 1, 8, [.pnil], false, false⟩
  | 98 => some ⟨.pointer 31, 1, 8, [.pnil], false, false⟩
  | 105 => some ⟨.int .u64, 1, 8, [.int .u64 0], false, false⟩
  | 106 => some ⟨.slice 96, 1, 24, [.sl 0 1 []], false, false⟩
  | 110 => some ⟨.struct #[⟨ "tenants", 3, 0, false, "", "cellplane/entry", 0⟩, ⟨ "cells", 3, 1, false, "", "cellplane/entry", 8⟩, ⟨ "regions", 3, 2, false, "", "cellplane/entry", 16⟩, ⟨ "versions", 3, 3, false, "", "cellplane/entry", 24⟩], 4, 32, [.int .i64 0, .int .i64 0, .int .i64 0, .int .i64 0], true, true⟩
  | 111 => some ⟨.struct #[⟨ "tenants", 3, 0, false, "", "cellplane/entry", 0⟩, ⟨ "cells", 3, 1, false, "", "cellplane/entry", 8⟩, ⟨ "regions", 3, 2, false, "", "cellplane/entry", 16⟩, ⟨ "versions", 3, 3, false, "", "cellplane/entry", 24⟩], 4, 32, [.int .i64 0, .int .i64 0, .int .i64 0, .int .i64 0], true, true⟩
  | 112 => some ⟨.slice 41, 1, 24, [.sl 0 1 []], false, false⟩
  | 113 => some ⟨.array 9 96, 9, 72, [.pnil, .pnil, .pnil, .pnil, .pnil, .pnil, .pnil, .pnil, .pnil], true, false⟩
  | 115 => some ⟨.slice 9, 1, 24, [.sl 0 1 []], false, false⟩
  | 116 => some ⟨.struct #[⟨ "low", 3, 0, false, "", "cellplane/entry", 0⟩, ⟨ "high", 3, 1, false, "", "cellplane/entry", 8⟩], 2, 16, [.int .i64 0, .int .i64 0], true, true⟩
  | 117 => some ⟨.struct #[⟨ "low", 3, 0, false, "", "cellplane/entry", 0⟩, ⟨ "high", 3, 1, false, "", "cellplane/entry", 8⟩], 2, 16, [.int .i64 0, .int .i64 0], true, true⟩
  | 118 => some ⟨.struct #[⟨ "tenant", 117, 0, false, "", "cellplane/entry", 0⟩, ⟨ "cell", 117, 2, false, "", "cellplane/entry", 16⟩, ⟨ "other", 117, 4, false, "", "cellplane/entry", 32⟩, ⟨ "epoch", 117, 6, false, "", "cellplane/entry", 48⟩, ⟨ "from", 117, 8, false, "", "cellplane/entry", 64⟩, ⟨ "until", 117, 10, false, "", "cellplane/entry", 80⟩, ⟨ "n", 117, 12, false, "", "cellplane/entry", 96⟩], 14, 112, [.int .i64 0, .int .i64 0, .int .i64 0, .int .i64 0, .int .i64 0, .int .i64 0, .int .i64 0, .int .i64 0, .int .i64 0, .int .i64 0, .int .i64 0, .int .i64 0, .int .i64 0, .int .i64 0], true, true⟩
  | 119 => some ⟨.struct #[⟨ "tenant", 117, 0, false, "", "cellplane/entry", 0⟩, ⟨ "cell", 117, 2, false, "", "cellplane/entry", 16⟩, ⟨ "other", 117, 4, false, "", "cellplane/entry", 32⟩, ⟨ "epoch", 117, 6, false, "", "cellplane/entry", 48⟩, ⟨ "from", 117, 8, false, "", "cellplane/entry", 64⟩, ⟨ "until", 117, 10, false, "", "cellplane/entry", 80⟩, ⟨ "n", 117, 12, false, "", "cellplane/entry", 96⟩], 14, 112, [.int .i64 0, .int .i64 0, .int .i64 0, .int .i64 0, .int .i64 0, .int .i64 0, .int .i64 0, .int .i64 0, .int .i64 0, .int .i64 0, .int .i64 0, .int .i64 0, .int .i64 0, .int .i64 0], true, true⟩
  | 133 => some ⟨.int .u32, 1, 4, [.int .u32 0], false, false⟩
  | 137 => some ⟨.pointer 5, 1, 8, [.pnil], false, false⟩
  | _ => none

theorem okT_2 : TypeOk Try.prog 2 ⟨.int .i64, 1, 8, [.int .i64 0], false, false⟩ := typeOk_of (.int .i64 0) (by kernel_rfl) (by kernel_rfl) ⟨rfl, rfl⟩ rfl (fun h => by cases h)
theorem okT_3 : TypeOk Try.prog 3 ⟨.int .i64, 1, 8, [.int .i64 0], false, false⟩ := typeOk_of (.int .i64 0) (by kernel_rfl) (by kernel_rfl) ⟨rfl, rfl⟩ rfl (fun h => by cases h)
theorem okT_4 : TypeOk Try.prog 4 ⟨.bool, 1, 1, [.bool false], false, false⟩ := typeOk_of (.bool false) (by kernel_rfl) (by kernel_rfl) ⟨rfl, rfl⟩ rfl (fun h => by cases h)
theorem okT_5 : TypeOk Try.prog 5 ⟨.int .u8, 1, 1, [.int .u8 0], false, false⟩ := typeOk_of (.int .u8 0) (by kernel_rfl) (by kernel_rfl) ⟨rfl, rfl⟩ rfl (fun h => by cases h)
theorem okT_9 : TypeOk Try.prog 9 ⟨.string, 1, 16, [.str .empty], false, false⟩ := typeOk_of (.string .empty) (by kernel_rfl) (by kernel_rfl) ⟨rfl, rfl⟩ rfl (fun h => by cases h)
theorem okT_12 : TypeOk Try.prog 12 ⟨.int .u64, 1, 8, [.int .u64 0], false, false⟩ := typeOk_of (.int .u64 0) (by kernel_rfl) (by kernel_rfl) ⟨rfl, rfl⟩ rfl (fun h => by cases h)
theorem okT_21 : TypeOk Try.prog 21 ⟨.int .i32, 1, 4, [.int .i32 0], false, false⟩ := typeOk_of (.int .i32 0) (by kernel_rfl) (by kernel_rfl) ⟨rfl, rfl⟩ rfl (fun h => by cases h)
theorem okT_22 : TypeOk Try.prog 22 ⟨.slice 3, 1, 24, [.sl 0 1 []], false, false⟩ := typeOk_of (.slice none 0 0) (by kernel_rfl) (by kernel_rfl) ⟨rfl, rfl⟩ rfl (fun h => by cases h)
theorem okT_23 : TypeOk Try.prog 23 ⟨.pointer 63, 1, 8, [.pnil], false, false⟩ := typeOk_of (.pointer none) (by kernel_rfl) (by kernel_rfl) ⟨rfl, rfl⟩ rfl (fun h => by cases h)
theorem okT_24 : TypeOk Try.prog 24 ⟨.slice 33, 1, 24, [.sl 0 1 []], false, false⟩ := typeOk_of (.slice none 0 0) (by kernel_rfl) (by kernel_rfl) ⟨rfl, rfl⟩ rfl (fun h => by cases h)
theorem okT_30 : TypeOk Try.prog 30 ⟨.struct #[⟨ "Kind", 3, 0, false, "", "", 0⟩, ⟨ "Tick", 3, 1, false, "", "", 8⟩, ⟨ "Tenant", 3, 2, false, "", "", 16⟩, ⟨ "Cell", 3, 3, false, "", "", 24⟩, ⟨ "Other", 3, 4, false, "", "", 32⟩, ⟨ "Epoch", 3, 5, false, "", "", 40⟩, ⟨ "From", 3, 6, false, "", "", 48⟩, ⟨ "Until", 3, 7, false, "", "", 56⟩, ⟨ "N", 3, 8, false, "", "", 64⟩], 9, 72, [.int .i64 0, .int .i64 0, .int .i64 0, .int .i64 0, .int .i64 0, .int .i64 0, .int .i64 0, .int .i64 0, .int .i64 0], true, true⟩ := typeOk_of (.agg #[.int .i64 0, .int .i64 0, .int .i64 0, .int .i64 0, .int .i64 0, .int .i64 0, .int .i64 0, .int .i64 0, .int .i64 0]) (by kernel_rfl) (by kernel_rfl) ⟨rfl, rfl⟩ rfl (fun _ => ⟨by kernel_rfl, by kernel_rfl⟩)
theorem okT_31 : TypeOk Try.prog 31 ⟨.struct #[⟨ "Kind", 3, 0, false, "", "", 0⟩, ⟨ "Tick", 3, 1, false, "", "", 8⟩, ⟨ "Tenant", 3, 2, false, "", "", 16⟩, ⟨ "Cell", 3, 3, false, "", "", 24⟩, ⟨ "Other", 3, 4, false, "", "", 32⟩, ⟨ "Epoch", 3, 5, false, "", "", 40⟩, ⟨ "From", 3, 6, false, "", "", 48⟩, ⟨ "Until", 3, 7, false, "", "", 56⟩, ⟨ "N", 3, 8, false, "", "", 64⟩], 9, 72, [.int .i64 0, .int .i64 0, .int .i64 0, .int .i64 0, .int .i64 0, .int .i64 0, .int .i64 0, .int .i64 0, .int .i64 0], true, true⟩ := typeOk_of (.agg #[.int .i64 0, .int .i64 0, .int .i64 0, .int .i64 0, .int .i64 0, .int .i64 0, .int .i64 0, .int .i64 0, .int .i64 0]) (by kernel_rfl) (by kernel_rfl) ⟨rfl, rfl⟩ rfl (fun _ => ⟨by kernel_rfl, by kernel_rfl⟩)
theorem okT_32 : TypeOk Try.prog 32 ⟨.struct #[⟨ "Term", 3, 0, false, "", "", 0⟩, ⟨ "Entry", 31, 1, false, "", "", 8⟩], 10, 80, [.int .i64 0, .int .i64 0, .int .i64 0, .int .i64 0, .int .i64 0, .int .i64 0, .int .i64 0, .int .i64 0, .int .i64 0, .int .i64 0], true, true⟩ := typeOk_of (.agg #[.int .i64 0, .int .i64 0, .int .i64 0, .int .i64 0, .int .i64 0, .int .i64 0, .int .i64 0, .int .i64 0, .int .i64 0, .int .i64 0]) (by kernel_rfl) (by kernel_rfl) ⟨rfl, rfl⟩ rfl (fun _ => ⟨by kernel_rfl, by kernel_rfl⟩)
theorem okT_33 : TypeOk Try.prog 33 ⟨.struct #[⟨ "Term", 3, 0, false, "", "", 0⟩, ⟨ "Entry", 31, 1, false, "", "", 8⟩], 10, 80, [.int .i64 0, .int .i64 0, .int .i64 0, .int .i64 0, .int .i64 0, .int .i64 0, .int .i64 0, .int .i64 0, .int .i64 0, .int .i64 0], true, true⟩ := typeOk_of (.agg #[.int .i64 0, .int .i64 0, .int .i64 0, .int .i64 0, .int .i64 0, .int .i64 0, .int .i64 0, .int .i64 0, .int .i64 0, .int .i64 0]) (by kernel_rfl) (by kernel_rfl) ⟨rfl, rfl⟩ rfl (fun _ => ⟨by kernel_rfl, by kernel_rfl⟩)
theorem okT_38 : TypeOk Try.prog 38 ⟨.int .i64, 1, 8, [.int .i64 0], false, false⟩ := typeOk_of (.int .i64 0) (by kernel_rfl) (by kernel_rfl) ⟨rfl, rfl⟩ rfl (fun h => by cases h)
theorem okT_41 : TypeOk Try.prog 41 ⟨.slice 5, 1, 24, [.sl 0 1 []], false, false⟩ := typeOk_of (.slice none 0 0) (by kernel_rfl) (by kernel_rfl) ⟨rfl, rfl⟩ rfl (fun h => by cases h)
theorem okT_45 : TypeOk Try.prog 45 ⟨.slice 50, 1, 24, [.sl 0 1 []], false, false⟩ := typeOk_of (.slice none 0 0) (by kernel_rfl) (by kernel_rfl) ⟨rfl, rfl⟩ rfl (fun h => by cases h)
theorem okT_49 : TypeOk Try.prog 49 ⟨.struct #[⟨ "Which", 3, 0, false, "", "", 0⟩, ⟨ "A", 3, 1, false, "", "", 8⟩, ⟨ "B", 3, 2, false, "", "", 16⟩], 3, 24, [.int .i64 0, .int .i64 0, .int .i64 0], true, true⟩ := typeOk_of (.agg #[.int .i64 0, .int .i64 0, .int .i64 0]) (by kernel_rfl) (by kernel_rfl) ⟨rfl, rfl⟩ rfl (fun _ => ⟨by kernel_rfl, by kernel_rfl⟩)
theorem okT_50 : TypeOk Try.prog 50 ⟨.struct #[⟨ "Which", 3, 0, false, "", "", 0⟩, ⟨ "A", 3, 1, false, "", "", 8⟩, ⟨ "B", 3, 2, false, "", "", 16⟩], 3, 24, [.int .i64 0, .int .i64 0, .int .i64 0], true, true⟩ := typeOk_of (.agg #[.int .i64 0, .int .i64 0, .int .i64 0]) (by kernel_rfl) (by kernel_rfl) ⟨rfl, rfl⟩ rfl (fun _ => ⟨by kernel_rfl, by kernel_rfl⟩)
theorem okT_57 : TypeOk Try.prog 57 ⟨.struct #[⟨ "term", 3, 0, false, "", "cellplane/journal", 0⟩, ⟨ "vote", 3, 1, false, "", "cellplane/journal", 8⟩, ⟨ "log", 24, 2, false, "", "cellplane/journal", 16⟩], 3, 40, [.int .i64 0, .int .i64 0, .sl 0 1 []], true, false⟩ := typeOk_of (.agg #[.int .i64 0, .int .i64 0, .slice none 0 0]) (by kernel_rfl) (by kernel_rfl) ⟨rfl, rfl⟩ rfl (fun h => by cases h)
theorem okT_58 : TypeOk Try.prog 58 ⟨.struct #[⟨ "term", 3, 0, false, "", "cellplane/journal", 0⟩, ⟨ "vote", 3, 1, false, "", "cellplane/journal", 8⟩, ⟨ "log", 24, 2, false, "", "cellplane/journal", 16⟩], 3, 40, [.int .i64 0, .int .i64 0, .sl 0 1 []], true, false⟩ := typeOk_of (.agg #[.int .i64 0, .int .i64 0, .slice none 0 0]) (by kernel_rfl) (by kernel_rfl) ⟨rfl, rfl⟩ rfl (fun h => by cases h)
theorem okT_59 : TypeOk Try.prog 59 ⟨.pointer 73, 1, 8, [.pnil], false, false⟩ := typeOk_of (.pointer none) (by kernel_rfl) (by kernel_rfl) ⟨rfl, rfl⟩ rfl (fun h => by cases h)
theorem okT_60 : TypeOk Try.prog 60 ⟨.struct #[⟨ "Disk", 59, 0, true, "", "", 0⟩], 1, 8, [.pnil], true, false⟩ := typeOk_of (.agg #[.pointer none]) (by kernel_rfl) (by kernel_rfl) ⟨rfl, rfl⟩ rfl (fun h => by cases h)
theorem okT_61 : TypeOk Try.prog 61 ⟨.struct #[⟨ "Disk", 59, 0, true, "", "", 0⟩], 1, 8, [.pnil], true, false⟩ := typeOk_of (.agg #[.pointer none]) (by kernel_rfl) (by kernel_rfl) ⟨rfl, rfl⟩ rfl (fun h => by cases h)
theorem okT_62 : TypeOk Try.prog 62 ⟨.struct #[⟨ "memory", 58, 0, true, "", "cellplane/journal", 0⟩, ⟨ "tape", 61, 3, false, "", "cellplane/journal", 40⟩], 4, 48, [.int .i64 0, .int .i64 0, .sl 0 1 [], .pnil], true, false⟩ := typeOk_of (.agg #[.int .i64 0, .int .i64 0, .slice none 0 0, .pointer none]) (by kernel_rfl) (by kernel_rfl) ⟨rfl, rfl⟩ rfl (fun h => by cases h)
theorem okT_63 : TypeOk Try.prog 63 ⟨.struct #[⟨ "memory", 58, 0, true, "", "cellplane/journal", 0⟩, ⟨ "tape", 61, 3, false, "", "cellplane/journal", 40⟩], 4, 48, [.int .i64 0, .int .i64 0, .sl 0 1 [], .pnil], true, false⟩ := typeOk_of (.agg #[.int .i64 0, .int .i64 0, .slice none 0 0, .pointer none]) (by kernel_rfl) (by kernel_rfl) ⟨rfl, rfl⟩ rfl (fun h => by cases h)
theorem okT_65 : TypeOk Try.prog 65 ⟨.struct #[⟨ "kind", 3, 0, false, "", "cellplane/journal", 0⟩, ⟨ "term", 3, 1, false, "", "cellplane/journal", 8⟩, ⟨ "n", 3, 2, false, "", "cellplane/journal", 16⟩, ⟨ "entry", 31, 3, false, "", "cellplane/journal", 24⟩], 12, 96, [.int .i64 0, .int .i64 0, .int .i64 0, .int .i64 0, .int .i64 0, .int .i64 0, .int .i64 0, .int .i64 0, .int .i64 0, .int .i64 0, .int .i64 0, .int .i64 0], true, true⟩ := typeOk_of (.agg #[.int .i64 0, .int .i64 0, .int .i64 0, .int .i64 0, .int .i64 0, .int .i64 0, .int .i64 0, .int .i64 0, .int .i64 0, .int .i64 0, .int .i64 0, .int .i64 0]) (by kernel_rfl) (by kernel_rfl) ⟨rfl, rfl⟩ rfl (fun _ => ⟨by kernel_rfl, by kernel_rfl⟩)
theorem okT_66 : TypeOk Try.prog 66 ⟨.struct #[⟨ "kind", 3, 0, false, "", "cellplane/journal", 0⟩, ⟨ "term", 3, 1, false, "", "cellplane/journal", 8⟩, ⟨ "n", 3, 2, false, "", "cellplane/journal", 16⟩, ⟨ "entry", 31, 3, false, "", "cellplane/journal", 24⟩], 12, 96, [.int .i64 0, .int .i64 0, .int .i64 0, .int .i64 0, .int .i64 0, .int .i64 0, .int .i64 0, .int .i64 0, .int .i64 0, .int .i64 0, .int .i64 0, .int .i64 0], true, true⟩ := typeOk_of (.agg #[.int .i64 0, .int .i64 0, .int .i64 0, .int .i64 0, .int .i64 0, .int .i64 0, .int .i64 0, .int .i64 0, .int .i64 0, .int .i64 0, .int .i64 0, .int .i64 0]) (by kernel_rfl) (by kernel_rfl) ⟨rfl, rfl⟩ rfl (fun _ => ⟨by kernel_rfl, by kernel_rfl⟩)
theorem okT_72 : TypeOk Try.prog 72 ⟨.struct #[⟨ "data", 41, 0, false, "", "cellplane/disk", 0⟩, ⟨ "durable", 3, 1, false, "", "cellplane/disk", 24⟩], 2, 32, [.sl 0 1 [], .int .i64 0], true, false⟩ := typeOk_of (.agg #[.slice none 0 0, .int .i64 0]) (by kernel_rfl) (by kernel_rfl) ⟨rfl, rfl⟩ rfl (fun h => by cases h)
theorem okT_73 : TypeOk Try.prog 73 ⟨.struct #[⟨ "data", 41, 0, false, "", "cellplane/disk", 0⟩, ⟨ "durable", 3, 1, false, "", "cellplane/disk", 24⟩], 2, 32, [.sl 0 1 [], .int .i64 0], true, false⟩ := typeOk_of (.agg #[.slice none 0 0, .int .i64 0]) (by kernel_rfl) (by kernel_rfl) ⟨rfl, rfl⟩ rfl (fun h => by cases h)
theorem okT_83 : TypeOk Try.prog 83 ⟨.int .u64, 1, 8, [.int .u64 0], false, false⟩ := typeOk_of (.int .u64 0) (by kernel_rfl) (by kernel_rfl) ⟨rfl, rfl⟩ rfl (fun h => by cases h)
theorem okT_87 : TypeOk Try.prog 87 ⟨.pointer 58, 1, 8, [.pnil], false, false⟩ := typeOk_of (.pointer none) (by kernel_rfl) (by kernel_rfl) ⟨rfl, rfl⟩ rfl (fun h => by cases h)
theorem okT_96 : TypeOk Try.prog 96 ⟨.pointer 3, 1, 8, [.pnil], false, false⟩ := typeOk_of (.pointer none) (by kernel_rfl) (by kernel_rfl) ⟨rfl, rfl⟩ rfl (fun h => by cases h)
theorem okT_98 : TypeOk Try.prog 98 ⟨.pointer 31, 1, 8, [.pnil], false, false⟩ := typeOk_of (.pointer none) (by kernel_rfl) (by kernel_rfl) ⟨rfl, rfl⟩ rfl (fun h => by cases h)
theorem okT_105 : TypeOk Try.prog 105 ⟨.int .u64, 1, 8, [.int .u64 0], false, false⟩ := typeOk_of (.int .u64 0) (by kernel_rfl) (by kernel_rfl) ⟨rfl, rfl⟩ rfl (fun h => by cases h)
theorem okT_106 : TypeOk Try.prog 106 ⟨.slice 96, 1, 24, [.sl 0 1 []], false, false⟩ := typeOk_of (.slice none 0 0) (by kernel_rfl) (by kernel_rfl) ⟨rfl, rfl⟩ rfl (fun h => by cases h)
theorem okT_110 : TypeOk Try.prog 110 ⟨.struct #[⟨ "tenants", 3, 0, false, "", "cellplane/entry", 0⟩, ⟨ "cells", 3, 1, false, "", "cellplane/entry", 8⟩, ⟨ "regions", 3, 2, false, "", "cellplane/entry", 16⟩, ⟨ "versions", 3, 3, false, "", "cellplane/entry", 24⟩], 4, 32, [.int .i64 0, .int .i64 0, .int .i64 0, .int .i64 0], true, true⟩ := typeOk_of (.agg #[.int .i64 0, .int .i64 0, .int .i64 0, .int .i64 0]) (by kernel_rfl) (by kernel_rfl) ⟨rfl, rfl⟩ rfl (fun _ => ⟨by kernel_rfl, by kernel_rfl⟩)
theorem okT_111 : TypeOk Try.prog 111 ⟨.struct #[⟨ "tenants", 3, 0, false, "", "cellplane/entry", 0⟩, ⟨ "cells", 3, 1, false, "", "cellplane/entry", 8⟩, ⟨ "regions", 3, 2, false, "", "cellplane/entry", 16⟩, ⟨ "versions", 3, 3, false, "", "cellplane/entry", 24⟩], 4, 32, [.int .i64 0, .int .i64 0, .int .i64 0, .int .i64 0], true, true⟩ := typeOk_of (.agg #[.int .i64 0, .int .i64 0, .int .i64 0, .int .i64 0]) (by kernel_rfl) (by kernel_rfl) ⟨rfl, rfl⟩ rfl (fun _ => ⟨by kernel_rfl, by kernel_rfl⟩)
theorem okT_112 : TypeOk Try.prog 112 ⟨.slice 41, 1, 24, [.sl 0 1 []], false, false⟩ := typeOk_of (.slice none 0 0) (by kernel_rfl) (by kernel_rfl) ⟨rfl, rfl⟩ rfl (fun h => by cases h)
theorem okT_113 : TypeOk Try.prog 113 ⟨.array 9 96, 9, 72, [.pnil, .pnil, .pnil, .pnil, .pnil, .pnil, .pnil, .pnil, .pnil], true, false⟩ := typeOk_of (.agg #[.pointer none, .pointer none, .pointer none, .pointer none, .pointer none, .pointer none, .pointer none, .pointer none, .pointer none]) (by kernel_rfl) (by kernel_rfl) ⟨rfl, rfl⟩ rfl (fun h => by cases h)
theorem okT_115 : TypeOk Try.prog 115 ⟨.slice 9, 1, 24, [.sl 0 1 []], false, false⟩ := typeOk_of (.slice none 0 0) (by kernel_rfl) (by kernel_rfl) ⟨rfl, rfl⟩ rfl (fun h => by cases h)
theorem okT_116 : TypeOk Try.prog 116 ⟨.struct #[⟨ "low", 3, 0, false, "", "cellplane/entry", 0⟩, ⟨ "high", 3, 1, false, "", "cellplane/entry", 8⟩], 2, 16, [.int .i64 0, .int .i64 0], true, true⟩ := typeOk_of (.agg #[.int .i64 0, .int .i64 0]) (by kernel_rfl) (by kernel_rfl) ⟨rfl, rfl⟩ rfl (fun _ => ⟨by kernel_rfl, by kernel_rfl⟩)
theorem okT_117 : TypeOk Try.prog 117 ⟨.struct #[⟨ "low", 3, 0, false, "", "cellplane/entry", 0⟩, ⟨ "high", 3, 1, false, "", "cellplane/entry", 8⟩], 2, 16, [.int .i64 0, .int .i64 0], true, true⟩ := typeOk_of (.agg #[.int .i64 0, .int .i64 0]) (by kernel_rfl) (by kernel_rfl) ⟨rfl, rfl⟩ rfl (fun _ => ⟨by kernel_rfl, by kernel_rfl⟩)
theorem okT_118 : TypeOk Try.prog 118 ⟨.struct #[⟨ "tenant", 117, 0, false, "", "cellplane/entry", 0⟩, ⟨ "cell", 117, 2, false, "", "cellplane/entry", 16⟩, ⟨ "other", 117, 4, false, "", "cellplane/entry", 32⟩, ⟨ "epoch", 117, 6, false, "", "cellplane/entry", 48⟩, ⟨ "from", 117, 8, false, "", "cellplane/entry", 64⟩, ⟨ "until", 117, 10, false, "", "cellplane/entry", 80⟩, ⟨ "n", 117, 12, false, "", "cellplane/entry", 96⟩], 14, 112, [.int .i64 0, .int .i64 0, .int .i64 0, .int .i64 0, .int .i64 0, .int .i64 0, .int .i64 0, .int .i64 0, .int .i64 0, .int .i64 0, .int .i64 0, .int .i64 0, .int .i64 0, .int .i64 0], true, true⟩ := typeOk_of (.agg #[.int .i64 0, .int .i64 0, .int .i64 0, .int .i64 0, .int .i64 0, .int .i64 0, .int .i64 0, .int .i64 0, .int .i64 0, .int .i64 0, .int .i64 0, .int .i64 0, .int .i64 0, .int .i64 0]) (by kernel_rfl) (by kernel_rfl) ⟨rfl, rfl⟩ rfl (fun _ => ⟨by kernel_rfl, by kernel_rfl⟩)
theorem okT_119 : TypeOk Try.prog 119 ⟨.struct #[⟨ "tenant", 117, 0, false, "", "cellplane/entry", 0⟩, ⟨ "cell", 117, 2, false, "", "cellplane/entry", 16⟩, ⟨ "other", 117, 4, false, "", "cellplane/entry", 32⟩, ⟨ "epoch", 117, 6, false, "", "cellplane/entry", 48⟩, ⟨ "from", 117, 8, false, "", "cellplane/entry", 64⟩, ⟨ "until", 117, 10, false, "", "cellplane/entry", 80⟩, ⟨ "n", 117, 12, false, "", "cellplane/entry", 96⟩], 14, 112, [.int .i64 0, .int .i64 0, .int .i64 0, .int .i64 0, .int .i64 0, .int .i64 0, .int .i64 0, .int .i64 0, .int .i64 0, .int .i64 0, .int .i64 0, .int .i64 0, .int .i64 0, .int .i64 0], true, true⟩ := typeOk_of (.agg #[.int .i64 0, .int .i64 0, .int .i64 0, .int .i64 0, .int .i64 0, .int .i64 0, .int .i64 0, .int .i64 0, .int .i64 0, .int .i64 0, .int .i64 0, .int .i64 0, .int .i64 0, .int .i64 0]) (by kernel_rfl) (by kernel_rfl) ⟨rfl, rfl⟩ rfl (fun _ => ⟨by kernel_rfl, by kernel_rfl⟩)
theorem okT_133 : TypeOk Try.prog 133 ⟨.int .u32, 1, 4, [.int .u32 0], false, false⟩ := typeOk_of (.int .u32 0) (by kernel_rfl) (by kernel_rfl) ⟨rfl, rfl⟩ rfl (fun h => by cases h)
theorem okT_137 : TypeOk Try.prog 137 ⟨.pointer 5, 1, 8, [.pnil], false, false⟩ := typeOk_of (.pointer none) (by kernel_rfl) (by kernel_rfl) ⟨rfl, rfl⟩ rfl (fun h => by cases h)

theorem types_ok : TypesOk Try.prog T := by
  intro t ti h
  unfold T at h
  split at h
  · cases h; exact okT_2
  · cases h; exact okT_3
  · cases h; exact okT_4
  · cases h; exact okT_5
  · cases h; exact okT_9
  · cases h; exact okT_12
  · cases h; exact okT_21
  · cases h; exact okT_22
  · cases h; exact okT_23
  · cases h; exact okT_24
  · cases h; exact okT_30
  · cases h; exact okT_31
  · cases h; exact okT_32
  · cases h; exact okT_33
  · cases h; exact okT_38
  · cases h; exact okT_41
  · cases h; exact okT_45
  · cases h; exact okT_49
  · cases h; exact okT_50
  · cases h; exact okT_57
  · cases h; exact okT_58
  · cases h; exact okT_59
  · cases h; exact okT_60
  · cases h; exact okT_61
  · cases h; exact okT_62
  · cases h; exact okT_63
  · cases h; exact okT_65
  · cases h; exact okT_66
  · cases h; exact okT_72
  · cases h; exact okT_73
  · cases h; exact okT_83
  · cases h; exact okT_87
  · cases h; exact okT_96
  · cases h; exact okT_98
  · cases h; exact okT_105
  · cases h; exact okT_106
  · cases h; exact okT_110
  · cases h; exact okT_111
  · cases h; exact okT_112
  · cases h; exact okT_113
  · cases h; exact okT_115
  · cases h; exact okT_116
  · cases h; exact okT_117
  · cases h; exact okT_118
  · cases h; exact okT_119
  · cases h; exact okT_133
  · cases h; exact okT_137
  · cases h

@[simp] theorem T_2 : T 2 = some ⟨.int .i64, 1, 8, [.int .i64 0], false, false⟩ := rfl
@[simp] theorem D_2 : descOf T 2 = some (.int .i64) := rfl
@[simp] theorem S_2 : sizeT T 2 = some 1 := rfl
@[simp] theorem T_3 : T 3 = some ⟨.int .i64, 1, 8, [.int .i64 0], false, false⟩ := rfl
@[simp] theorem D_3 : descOf T 3 = some (.int .i64) := rfl
@[simp] theorem S_3 : sizeT T 3 = some 1 := rfl
@[simp] theorem T_4 : T 4 = some ⟨.bool, 1, 1, [.bool false], false, false⟩ := rfl
@[simp] theorem D_4 : descOf T 4 = some (.bool) := rfl
@[simp] theorem S_4 : sizeT T 4 = some 1 := rfl
@[simp] theorem T_5 : T 5 = some ⟨.int .u8, 1, 1, [.int .u8 0], false, false⟩ := rfl
@[simp] theorem D_5 : descOf T 5 = some (.int .u8) := rfl
@[simp] theorem S_5 : sizeT T 5 = some 1 := rfl
@[simp] theorem T_9 : T 9 = some ⟨.string, 1, 16, [.str .empty], false, false⟩ := rfl
@[simp] theorem D_9 : descOf T 9 = some (.string) := rfl
@[simp] theorem S_9 : sizeT T 9 = some 1 := rfl
@[simp] theorem T_12 : T 12 = some ⟨.int .u64, 1, 8, [.int .u64 0], false, false⟩ := rfl
@[simp] theorem D_12 : descOf T 12 = some (.int .u64) := rfl
@[simp] theorem S_12 : sizeT T 12 = some 1 := rfl
@[simp] theorem T_21 : T 21 = some ⟨.int .i32, 1, 4, [.int .i32 0], false, false⟩ := rfl
@[simp] theorem D_21 : descOf T 21 = some (.int .i32) := rfl
@[simp] theorem S_21 : sizeT T 21 = some 1 := rfl
@[simp] theorem T_22 : T 22 = some ⟨.slice 3, 1, 24, [.sl 0 1 []], false, false⟩ := rfl
@[simp] theorem D_22 : descOf T 22 = some (.slice 3) := rfl
@[simp] theorem S_22 : sizeT T 22 = some 1 := rfl
@[simp] theorem T_23 : T 23 = some ⟨.pointer 63, 1, 8, [.pnil], false, false⟩ := rfl
@[simp] theorem D_23 : descOf T 23 = some (.pointer 63) := rfl
@[simp] theorem S_23 : sizeT T 23 = some 1 := rfl
@[simp] theorem T_24 : T 24 = some ⟨.slice 33, 1, 24, [.sl 0 1 []], false, false⟩ := rfl
@[simp] theorem D_24 : descOf T 24 = some (.slice 33) := rfl
@[simp] theorem S_24 : sizeT T 24 = some 1 := rfl
@[simp] theorem T_30 : T 30 = some ⟨.struct #[⟨ "Kind", 3, 0, false, "", "", 0⟩, ⟨ "Tick", 3, 1, false, "", "", 8⟩, ⟨ "Tenant", 3, 2, false, "", "", 16⟩, ⟨ "Cell", 3, 3, false, "", "", 24⟩, ⟨ "Other", 3, 4, false, "", "", 32⟩, ⟨ "Epoch", 3, 5, false, "", "", 40⟩, ⟨ "From", 3, 6, false, "", "", 48⟩, ⟨ "Until", 3, 7, false, "", "", 56⟩, ⟨ "N", 3, 8, false, "", "", 64⟩], 9, 72, [.int .i64 0, .int .i64 0, .int .i64 0, .int .i64 0, .int .i64 0, .int .i64 0, .int .i64 0, .int .i64 0, .int .i64 0], true, true⟩ := rfl
@[simp] theorem D_30 : descOf T 30 = some (.struct #[⟨ "Kind", 3, 0, false, "", "", 0⟩, ⟨ "Tick", 3, 1, false, "", "", 8⟩, ⟨ "Tenant", 3, 2, false, "", "", 16⟩, ⟨ "Cell", 3, 3, false, "", "", 24⟩, ⟨ "Other", 3, 4, false, "", "", 32⟩, ⟨ "Epoch", 3, 5, false, "", "", 40⟩, ⟨ "From", 3, 6, false, "", "", 48⟩, ⟨ "Until", 3, 7, false, "", "", 56⟩, ⟨ "N", 3, 8, false, "", "", 64⟩]) := rfl
@[simp] theorem S_30 : sizeT T 30 = some 9 := rfl
@[simp] theorem T_31 : T 31 = some ⟨.struct #[⟨ "Kind", 3, 0, false, "", "", 0⟩, ⟨ "Tick", 3, 1, false, "", "", 8⟩, ⟨ "Tenant", 3, 2, false, "", "", 16⟩, ⟨ "Cell", 3, 3, false, "", "", 24⟩, ⟨ "Other", 3, 4, false, "", "", 32⟩, ⟨ "Epoch", 3, 5, false, "", "", 40⟩, ⟨ "From", 3, 6, false, "", "", 48⟩, ⟨ "Until", 3, 7, false, "", "", 56⟩, ⟨ "N", 3, 8, false, "", "", 64⟩], 9, 72, [.int .i64 0, .int .i64 0, .int .i64 0, .int .i64 0, .int .i64 0, .int .i64 0, .int .i64 0, .int .i64 0, .int .i64 0], true, true⟩ := rfl
@[simp] theorem D_31 : descOf T 31 = some (.struct #[⟨ "Kind", 3, 0, false, "", "", 0⟩, ⟨ "Tick", 3, 1, false, "", "", 8⟩, ⟨ "Tenant", 3, 2, false, "", "", 16⟩, ⟨ "Cell", 3, 3, false, "", "", 24⟩, ⟨ "Other", 3, 4, false, "", "", 32⟩, ⟨ "Epoch", 3, 5, false, "", "", 40⟩, ⟨ "From", 3, 6, false, "", "", 48⟩, ⟨ "Until", 3, 7, false, "", "", 56⟩, ⟨ "N", 3, 8, false, "", "", 64⟩]) := rfl
@[simp] theorem S_31 : sizeT T 31 = some 9 := rfl
@[simp] theorem T_32 : T 32 = some ⟨.struct #[⟨ "Term", 3, 0, false, "", "", 0⟩, ⟨ "Entry", 31, 1, false, "", "", 8⟩], 10, 80, [.int .i64 0, .int .i64 0, .int .i64 0, .int .i64 0, .int .i64 0, .int .i64 0, .int .i64 0, .int .i64 0, .int .i64 0, .int .i64 0], true, true⟩ := rfl
@[simp] theorem D_32 : descOf T 32 = some (.struct #[⟨ "Term", 3, 0, false, "", "", 0⟩, ⟨ "Entry", 31, 1, false, "", "", 8⟩]) := rfl
@[simp] theorem S_32 : sizeT T 32 = some 10 := rfl
@[simp] theorem T_33 : T 33 = some ⟨.struct #[⟨ "Term", 3, 0, false, "", "", 0⟩, ⟨ "Entry", 31, 1, false, "", "", 8⟩], 10, 80, [.int .i64 0, .int .i64 0, .int .i64 0, .int .i64 0, .int .i64 0, .int .i64 0, .int .i64 0, .int .i64 0, .int .i64 0, .int .i64 0], true, true⟩ := rfl
@[simp] theorem D_33 : descOf T 33 = some (.struct #[⟨ "Term", 3, 0, false, "", "", 0⟩, ⟨ "Entry", 31, 1, false, "", "", 8⟩]) := rfl
@[simp] theorem S_33 : sizeT T 33 = some 10 := rfl
@[simp] theorem T_38 : T 38 = some ⟨.int .i64, 1, 8, [.int .i64 0], false, false⟩ := rfl
@[simp] theorem D_38 : descOf T 38 = some (.int .i64) := rfl
@[simp] theorem S_38 : sizeT T 38 = some 1 := rfl
@[simp] theorem T_41 : T 41 = some ⟨.slice 5, 1, 24, [.sl 0 1 []], false, false⟩ := rfl
@[simp] theorem D_41 : descOf T 41 = some (.slice 5) := rfl
@[simp] theorem S_41 : sizeT T 41 = some 1 := rfl
@[simp] theorem T_45 : T 45 = some ⟨.slice 50, 1, 24, [.sl 0 1 []], false, false⟩ := rfl
@[simp] theorem D_45 : descOf T 45 = some (.slice 50) := rfl
@[simp] theorem S_45 : sizeT T 45 = some 1 := rfl
@[simp] theorem T_49 : T 49 = some ⟨.struct #[⟨ "Which", 3, 0, false, "", "", 0⟩, ⟨ "A", 3, 1, false, "", "", 8⟩, ⟨ "B", 3, 2, false, "", "", 16⟩], 3, 24, [.int .i64 0, .int .i64 0, .int .i64 0], true, true⟩ := rfl
@[simp] theorem D_49 : descOf T 49 = some (.struct #[⟨ "Which", 3, 0, false, "", "", 0⟩, ⟨ "A", 3, 1, false, "", "", 8⟩, ⟨ "B", 3, 2, false, "", "", 16⟩]) := rfl
@[simp] theorem S_49 : sizeT T 49 = some 3 := rfl
@[simp] theorem T_50 : T 50 = some ⟨.struct #[⟨ "Which", 3, 0, false, "", "", 0⟩, ⟨ "A", 3, 1, false, "", "", 8⟩, ⟨ "B", 3, 2, false, "", "", 16⟩], 3, 24, [.int .i64 0, .int .i64 0, .int .i64 0], true, true⟩ := rfl
@[simp] theorem D_50 : descOf T 50 = some (.struct #[⟨ "Which", 3, 0, false, "", "", 0⟩, ⟨ "A", 3, 1, false, "", "", 8⟩, ⟨ "B", 3, 2, false, "", "", 16⟩]) := rfl
@[simp] theorem S_50 : sizeT T 50 = some 3 := rfl
@[simp] theorem T_57 : T 57 = some ⟨.struct #[⟨ "term", 3, 0, false, "", "cellplane/journal", 0⟩, ⟨ "vote", 3, 1, false, "", "cellplane/journal", 8⟩, ⟨ "log", 24, 2, false, "", "cellplane/journal", 16⟩], 3, 40, [.int .i64 0, .int .i64 0, .sl 0 1 []], true, false⟩ := rfl
@[simp] theorem D_57 : descOf T 57 = some (.struct #[⟨ "term", 3, 0, false, "", "cellplane/journal", 0⟩, ⟨ "vote", 3, 1, false, "", "cellplane/journal", 8⟩, ⟨ "log", 24, 2, false, "", "cellplane/journal", 16⟩]) := rfl
@[simp] theorem S_57 : sizeT T 57 = some 3 := rfl
@[simp] theorem T_58 : T 58 = some ⟨.struct #[⟨ "term", 3, 0, false, "", "cellplane/journal", 0⟩, ⟨ "vote", 3, 1, false, "", "cellplane/journal", 8⟩, ⟨ "log", 24, 2, false, "", "cellplane/journal", 16⟩], 3, 40, [.int .i64 0, .int .i64 0, .sl 0 1 []], true, false⟩ := rfl
@[simp] theorem D_58 : descOf T 58 = some (.struct #[⟨ "term", 3, 0, false, "", "cellplane/journal", 0⟩, ⟨ "vote", 3, 1, false, "", "cellplane/journal", 8⟩, ⟨ "log", 24, 2, false, "", "cellplane/journal", 16⟩]) := rfl
@[simp] theorem S_58 : sizeT T 58 = some 3 := rfl
@[simp] theorem T_59 : T 59 = some ⟨.pointer 73, 1, 8, [.pnil], false, false⟩ := rfl
@[simp] theorem D_59 : descOf T 59 = some (.pointer 73) := rfl
@[simp] theorem S_59 : sizeT T 59 = some 1 := rfl
@[simp] theorem T_60 : T 60 = some ⟨.struct #[⟨ "Disk", 59, 0, true, "", "", 0⟩], 1, 8, [.pnil], true, false⟩ := rfl
@[simp] theorem D_60 : descOf T 60 = some (.struct #[⟨ "Disk", 59, 0, true, "", "", 0⟩]) := rfl
@[simp] theorem S_60 : sizeT T 60 = some 1 := rfl
@[simp] theorem T_61 : T 61 = some ⟨.struct #[⟨ "Disk", 59, 0, true, "", "", 0⟩], 1, 8, [.pnil], true, false⟩ := rfl
@[simp] theorem D_61 : descOf T 61 = some (.struct #[⟨ "Disk", 59, 0, true, "", "", 0⟩]) := rfl
@[simp] theorem S_61 : sizeT T 61 = some 1 := rfl
@[simp] theorem T_62 : T 62 = some ⟨.struct #[⟨ "memory", 58, 0, true, "", "cellplane/journal", 0⟩, ⟨ "tape", 61, 3, false, "", "cellplane/journal", 40⟩], 4, 48, [.int .i64 0, .int .i64 0, .sl 0 1 [], .pnil], true, false⟩ := rfl
@[simp] theorem D_62 : descOf T 62 = some (.struct #[⟨ "memory", 58, 0, true, "", "cellplane/journal", 0⟩, ⟨ "tape", 61, 3, false, "", "cellplane/journal", 40⟩]) := rfl
@[simp] theorem S_62 : sizeT T 62 = some 4 := rfl
@[simp] theorem T_63 : T 63 = some ⟨.struct #[⟨ "memory", 58, 0, true, "", "cellplane/journal", 0⟩, ⟨ "tape", 61, 3, false, "", "cellplane/journal", 40⟩], 4, 48, [.int .i64 0, .int .i64 0, .sl 0 1 [], .pnil], true, false⟩ := rfl
@[simp] theorem D_63 : descOf T 63 = some (.struct #[⟨ "memory", 58, 0, true, "", "cellplane/journal", 0⟩, ⟨ "tape", 61, 3, false, "", "cellplane/journal", 40⟩]) := rfl
@[simp] theorem S_63 : sizeT T 63 = some 4 := rfl
@[simp] theorem T_65 : T 65 = some ⟨.struct #[⟨ "kind", 3, 0, false, "", "cellplane/journal", 0⟩, ⟨ "term", 3, 1, false, "", "cellplane/journal", 8⟩, ⟨ "n", 3, 2, false, "", "cellplane/journal", 16⟩, ⟨ "entry", 31, 3, false, "", "cellplane/journal", 24⟩], 12, 96, [.int .i64 0, .int .i64 0, .int .i64 0, .int .i64 0, .int .i64 0, .int .i64 0, .int .i64 0, .int .i64 0, .int .i64 0, .int .i64 0, .int .i64 0, .int .i64 0], true, true⟩ := rfl
@[simp] theorem D_65 : descOf T 65 = some (.struct #[⟨ "kind", 3, 0, false, "", "cellplane/journal", 0⟩, ⟨ "term", 3, 1, false, "", "cellplane/journal", 8⟩, ⟨ "n", 3, 2, false, "", "cellplane/journal", 16⟩, ⟨ "entry", 31, 3, false, "", "cellplane/journal", 24⟩]) := rfl
@[simp] theorem S_65 : sizeT T 65 = some 12 := rfl
@[simp] theorem T_66 : T 66 = some ⟨.struct #[⟨ "kind", 3, 0, false, "", "cellplane/journal", 0⟩, ⟨ "term", 3, 1, false, "", "cellplane/journal", 8⟩, ⟨ "n", 3, 2, false, "", "cellplane/journal", 16⟩, ⟨ "entry", 31, 3, false, "", "cellplane/journal", 24⟩], 12, 96, [.int .i64 0, .int .i64 0, .int .i64 0, .int .i64 0, .int .i64 0, .int .i64 0, .int .i64 0, .int .i64 0, .int .i64 0, .int .i64 0, .int .i64 0, .int .i64 0], true, true⟩ := rfl
@[simp] theorem D_66 : descOf T 66 = some (.struct #[⟨ "kind", 3, 0, false, "", "cellplane/journal", 0⟩, ⟨ "term", 3, 1, false, "", "cellplane/journal", 8⟩, ⟨ "n", 3, 2, false, "", "cellplane/journal", 16⟩, ⟨ "entry", 31, 3, false, "", "cellplane/journal", 24⟩]) := rfl
@[simp] theorem S_66 : sizeT T 66 = some 12 := rfl
@[simp] theorem T_72 : T 72 = some ⟨.struct #[⟨ "data", 41, 0, false, "", "cellplane/disk", 0⟩, ⟨ "durable", 3, 1, false, "", "cellplane/disk", 24⟩], 2, 32, [.sl 0 1 [], .int .i64 0], true, false⟩ := rfl
@[simp] theorem D_72 : descOf T 72 = some (.struct #[⟨ "data", 41, 0, false, "", "cellplane/disk", 0⟩, ⟨ "durable", 3, 1, false, "", "cellplane/disk", 24⟩]) := rfl
@[simp] theorem S_72 : sizeT T 72 = some 2 := rfl
@[simp] theorem T_73 : T 73 = some ⟨.struct #[⟨ "data", 41, 0, false, "", "cellplane/disk", 0⟩, ⟨ "durable", 3, 1, false, "", "cellplane/disk", 24⟩], 2, 32, [.sl 0 1 [], .int .i64 0], true, false⟩ := rfl
@[simp] theorem D_73 : descOf T 73 = some (.struct #[⟨ "data", 41, 0, false, "", "cellplane/disk", 0⟩, ⟨ "durable", 3, 1, false, "", "cellplane/disk", 24⟩]) := rfl
@[simp] theorem S_73 : sizeT T 73 = some 2 := rfl
@[simp] theorem T_83 : T 83 = some ⟨.int .u64, 1, 8, [.int .u64 0], false, false⟩ := rfl
@[simp] theorem D_83 : descOf T 83 = some (.int .u64) := rfl
@[simp] theorem S_83 : sizeT T 83 = some 1 := rfl
@[simp] theorem T_87 : T 87 = some ⟨.pointer 58, 1, 8, [.pnil], false, false⟩ := rfl
@[simp] theorem D_87 : descOf T 87 = some (.pointer 58) := rfl
@[simp] theorem S_87 : sizeT T 87 = some 1 := rfl
@[simp] theorem T_96 : T 96 = some ⟨.pointer 3, 1, 8, [.pnil], false, false⟩ := rfl
@[simp] theorem D_96 : descOf T 96 = some (.pointer 3) := rfl
@[simp] theorem S_96 : sizeT T 96 = some 1 := rfl
@[simp] theorem T_98 : T 98 = some ⟨.pointer 31, 1, 8, [.pnil], false, false⟩ := rfl
@[simp] theorem D_98 : descOf T 98 = some (.pointer 31) := rfl
@[simp] theorem S_98 : sizeT T 98 = some 1 := rfl
@[simp] theorem T_105 : T 105 = some ⟨.int .u64, 1, 8, [.int .u64 0], false, false⟩ := rfl
@[simp] theorem D_105 : descOf T 105 = some (.int .u64) := rfl
@[simp] theorem S_105 : sizeT T 105 = some 1 := rfl
@[simp] theorem T_106 : T 106 = some ⟨.slice 96, 1, 24, [.sl 0 1 []], false, false⟩ := rfl
@[simp] theorem D_106 : descOf T 106 = some (.slice 96) := rfl
@[simp] theorem S_106 : sizeT T 106 = some 1 := rfl
@[simp] theorem T_110 : T 110 = some ⟨.struct #[⟨ "tenants", 3, 0, false, "", "cellplane/entry", 0⟩, ⟨ "cells", 3, 1, false, "", "cellplane/entry", 8⟩, ⟨ "regions", 3, 2, false, "", "cellplane/entry", 16⟩, ⟨ "versions", 3, 3, false, "", "cellplane/entry", 24⟩], 4, 32, [.int .i64 0, .int .i64 0, .int .i64 0, .int .i64 0], true, true⟩ := rfl
@[simp] theorem D_110 : descOf T 110 = some (.struct #[⟨ "tenants", 3, 0, false, "", "cellplane/entry", 0⟩, ⟨ "cells", 3, 1, false, "", "cellplane/entry", 8⟩, ⟨ "regions", 3, 2, false, "", "cellplane/entry", 16⟩, ⟨ "versions", 3, 3, false, "", "cellplane/entry", 24⟩]) := rfl
@[simp] theorem S_110 : sizeT T 110 = some 4 := rfl
@[simp] theorem T_111 : T 111 = some ⟨.struct #[⟨ "tenants", 3, 0, false, "", "cellplane/entry", 0⟩, ⟨ "cells", 3, 1, false, "", "cellplane/entry", 8⟩, ⟨ "regions", 3, 2, false, "", "cellplane/entry", 16⟩, ⟨ "versions", 3, 3, false, "", "cellplane/entry", 24⟩], 4, 32, [.int .i64 0, .int .i64 0, .int .i64 0, .int .i64 0], true, true⟩ := rfl
@[simp] theorem D_111 : descOf T 111 = some (.struct #[⟨ "tenants", 3, 0, false, "", "cellplane/entry", 0⟩, ⟨ "cells", 3, 1, false, "", "cellplane/entry", 8⟩, ⟨ "regions", 3, 2, false, "", "cellplane/entry", 16⟩, ⟨ "versions", 3, 3, false, "", "cellplane/entry", 24⟩]) := rfl
@[simp] theorem S_111 : sizeT T 111 = some 4 := rfl
@[simp] theorem T_112 : T 112 = some ⟨.slice 41, 1, 24, [.sl 0 1 []], false, false⟩ := rfl
@[simp] theorem D_112 : descOf T 112 = some (.slice 41) := rfl
@[simp] theorem S_112 : sizeT T 112 = some 1 := rfl
@[simp] theorem T_113 : T 113 = some ⟨.array 9 96, 9, 72, [.pnil, .pnil, .pnil, .pnil, .pnil, .pnil, .pnil, .pnil, .pnil], true, false⟩ := rfl
@[simp] theorem D_113 : descOf T 113 = some (.array 9 96) := rfl
@[simp] theorem S_113 : sizeT T 113 = some 9 := rfl
@[simp] theorem T_115 : T 115 = some ⟨.slice 9, 1, 24, [.sl 0 1 []], false, false⟩ := rfl
@[simp] theorem D_115 : descOf T 115 = some (.slice 9) := rfl
@[simp] theorem S_115 : sizeT T 115 = some 1 := rfl
@[simp] theorem T_116 : T 116 = some ⟨.struct #[⟨ "low", 3, 0, false, "", "cellplane/entry", 0⟩, ⟨ "high", 3, 1, false, "", "cellplane/entry", 8⟩], 2, 16, [.int .i64 0, .int .i64 0], true, true⟩ := rfl
@[simp] theorem D_116 : descOf T 116 = some (.struct #[⟨ "low", 3, 0, false, "", "cellplane/entry", 0⟩, ⟨ "high", 3, 1, false, "", "cellplane/entry", 8⟩]) := rfl
@[simp] theorem S_116 : sizeT T 116 = some 2 := rfl
@[simp] theorem T_117 : T 117 = some ⟨.struct #[⟨ "low", 3, 0, false, "", "cellplane/entry", 0⟩, ⟨ "high", 3, 1, false, "", "cellplane/entry", 8⟩], 2, 16, [.int .i64 0, .int .i64 0], true, true⟩ := rfl
@[simp] theorem D_117 : descOf T 117 = some (.struct #[⟨ "low", 3, 0, false, "", "cellplane/entry", 0⟩, ⟨ "high", 3, 1, false, "", "cellplane/entry", 8⟩]) := rfl
@[simp] theorem S_117 : sizeT T 117 = some 2 := rfl
@[simp] theorem T_118 : T 118 = some ⟨.struct #[⟨ "tenant", 117, 0, false, "", "cellplane/entry", 0⟩, ⟨ "cell", 117, 2, false, "", "cellplane/entry", 16⟩, ⟨ "other", 117, 4, false, "", "cellplane/entry", 32⟩, ⟨ "epoch", 117, 6, false, "", "cellplane/entry", 48⟩, ⟨ "from", 117, 8, false, "", "cellplane/entry", 64⟩, ⟨ "until", 117, 10, false, "", "cellplane/entry", 80⟩, ⟨ "n", 117, 12, false, "", "cellplane/entry", 96⟩], 14, 112, [.int .i64 0, .int .i64 0, .int .i64 0, .int .i64 0, .int .i64 0, .int .i64 0, .int .i64 0, .int .i64 0, .int .i64 0, .int .i64 0, .int .i64 0, .int .i64 0, .int .i64 0, .int .i64 0], true, true⟩ := rfl
@[simp] theorem D_118 : descOf T 118 = some (.struct #[⟨ "tenant", 117, 0, false, "", "cellplane/entry", 0⟩, ⟨ "cell", 117, 2, false, "", "cellplane/entry", 16⟩, ⟨ "other", 117, 4, false, "", "cellplane/entry", 32⟩, ⟨ "epoch", 117, 6, false, "", "cellplane/entry", 48⟩, ⟨ "from", 117, 8, false, "", "cellplane/entry", 64⟩, ⟨ "until", 117, 10, false, "", "cellplane/entry", 80⟩, ⟨ "n", 117, 12, false, "", "cellplane/entry", 96⟩]) := rfl
@[simp] theorem S_118 : sizeT T 118 = some 14 := rfl
@[simp] theorem T_119 : T 119 = some ⟨.struct #[⟨ "tenant", 117, 0, false, "", "cellplane/entry", 0⟩, ⟨ "cell", 117, 2, false, "", "cellplane/entry", 16⟩, ⟨ "other", 117, 4, false, "", "cellplane/entry", 32⟩, ⟨ "epoch", 117, 6, false, "", "cellplane/entry", 48⟩, ⟨ "from", 117, 8, false, "", "cellplane/entry", 64⟩, ⟨ "until", 117, 10, false, "", "cellplane/entry", 80⟩, ⟨ "n", 117, 12, false, "", "cellplane/entry", 96⟩], 14, 112, [.int .i64 0, .int .i64 0, .int .i64 0, .int .i64 0, .int .i64 0, .int .i64 0, .int .i64 0, .int .i64 0, .int .i64 0, .int .i64 0, .int .i64 0, .int .i64 0, .int .i64 0, .int .i64 0], true, true⟩ := rfl
@[simp] theorem D_119 : descOf T 119 = some (.struct #[⟨ "tenant", 117, 0, false, "", "cellplane/entry", 0⟩, ⟨ "cell", 117, 2, false, "", "cellplane/entry", 16⟩, ⟨ "other", 117, 4, false, "", "cellplane/entry", 32⟩, ⟨ "epoch", 117, 6, false, "", "cellplane/entry", 48⟩, ⟨ "from", 117, 8, false, "", "cellplane/entry", 64⟩, ⟨ "until", 117, 10, false, "", "cellplane/entry", 80⟩, ⟨ "n", 117, 12, false, "", "cellplane/entry", 96⟩]) := rfl
@[simp] theorem S_119 : sizeT T 119 = some 14 := rfl
@[simp] theorem T_133 : T 133 = some ⟨.int .u32, 1, 4, [.int .u32 0], false, false⟩ := rfl
@[simp] theorem D_133 : descOf T 133 = some (.int .u32) := rfl
@[simp] theorem S_133 : sizeT T 133 = some 1 := rfl
@[simp] theorem T_137 : T 137 = some ⟨.pointer 5, 1, 8, [.pnil], false, false⟩ := rfl
@[simp] theorem D_137 : descOf T 137 = some (.pointer 5) := rfl
@[simp] theorem S_137 : sizeT T 137 = some 1 := rfl

def C0 : FuncId → List V → List AObj → Option CRes := fun _ _ _ => none
theorem C0_ok : SpecsOk Try.prog C0 := fun f ⟨_, _, _, h⟩ => by cases h
theorem follows : Try.prog.follows .mixedOrders = true := by kernel_rfl
end Go.Proofs.Ytlelalnahlpcpaa
