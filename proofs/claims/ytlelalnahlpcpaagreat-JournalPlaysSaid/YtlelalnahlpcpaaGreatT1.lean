/-
  The program's types.
-/
import Derived.Test.YtlelalnahlpcpaaGreatRows
import Derived.Test.YtlelalnahlpcpaaGreatPLC
import Derived.KernelRfl
set_option linter.unusedSimpArgs false
set_option linter.unusedVariables false
namespace Go.Proofs.YtlelalnahlpcpaaGreat
open Go.Lift

theorem typeOk_of {P : Program} {t : TypeId} {ti : TI} (z : Value) (h1 : P.underlying t = some ti.desc) (h2 : (P.info? t).map (fun i => (i.zero, i.size, i.bytes)) = some (some z, ti.size, ti.bytes)) (h3 : z.cells.size = ti.size ∧ z.cells.toList.map ofCell = ti.zero)
    (h4 : ti.agg = (match ti.desc with | .struct _ | .array _ _ => true | _ => false)) (h5 : ti.eqc = true → P.stoodInHeld t = false ∧ P.eqGuardType P.depth t = false) : TypeOk P t ti := by
  refine ⟨h1, ?_, h4, h5⟩
  cases hi : P.info? t with
  | none => rw [hi] at h2; cases h2
  | some i =>
    rw [hi] at h2
    simp only [Option.map_some, Option.some.injEq, Prod.mk.injEq] at h2
    exact ⟨i, z, rfl, h2.2.1, h2.2.2, h2.1, h3.1, h3.2⟩

def T (t : TypeId) : Option TI := match t with
  | 2 => some ⟨.int .i64, 1, 8, [.int .i64 0], false, false⟩
  | 3 => some ⟨.int .i64, 1, 8, [.int .i64 0], false, false⟩
  | 4 => some ⟨.bool, 1, 1, [.bool false], false, false⟩
  | 5 => some ⟨.int .u8, 1, 1, [.int .u8 0], false, false⟩
  | 9 => some ⟨.string, 1, 16, [.str .empty], false, false⟩
  | 12 => some ⟨.int .u64, 1, 8, [.int .u64 0], false, false⟩
  | 21 => some ⟨.int .i32, 1, 4, [.int .i32 0], false, false⟩
  | 22 => some ⟨.slice 30, 1, 24, [.sl 0 1 []], false, false⟩
  | 23 => some ⟨.pointer 61, 1, 8, [.pnil], false, false⟩
  | 25 => some ⟨.pointer 39, 1, 8, [.pnil], false, false⟩
  | 29 => some ⟨.struct #[⟨ "Which", 3, 0, false, "", "", 0⟩, ⟨ "A", 3, 1, false, "", "", 8⟩, ⟨ "B", 3, 2, false, "", "", 16⟩], 3, 24, [.int .i64 0, .int .i64 0, .int .i64 0], true, true⟩
  | 30 => some ⟨.struct #[⟨ "Which", 3, 0, false, "", "", 0⟩, ⟨ "A", 3, 1, false, "", "", 8⟩, ⟨ "B", 3, 2, false, "", "", 16⟩], 3, 24, [.int .i64 0, .int .i64 0, .int .i64 0], true, true⟩
  | 32 => some ⟨.slice 5, 1, 24, [.sl 0 1 []], false, false⟩
  | 34 => some ⟨.int .i64, 1, 8, [.int .i64 0], false, false⟩
  | 36 => some ⟨.pointer 47, 1, 8, [.pnil], false, false⟩
  | 37 => some ⟨.slice 73, 1, 24, [.sl 0 1 []], false, false⟩
  | 38 => some ⟨.struct #[⟨ "D", 36, 0, false, "", "", 0⟩, ⟨ "Term", 3, 1, false, "", "", 8⟩, ⟨ "Vote", 3, 2, false, "", "", 16⟩, ⟨ "L", 37, 3, false, "", "", 24⟩], 4, 48, [.pnil, .int .i64 0, .int .i64 0, .sl 0 1 []], true, false⟩
  | 39 => some ⟨.struct #[⟨ "D", 36, 0, false, "", "", 0⟩, ⟨ "Term", 3, 1, false, "", "", 8⟩, ⟨ "Vote", 3, 2, false, "", "", 16⟩, ⟨ "L", 37, 3, false, "", "", 24⟩], 4, 48, [.pnil, .int .i64 0, .int .i64 0, .sl 0 1 []], true, false⟩
  | 42 => some ⟨.struct #[⟨ "Kind", 3, 0, false, "", "", 0⟩, ⟨ "Tick", 3, 1, false, "", "", 8⟩, ⟨ "Tenant", 3, 2, false, "", "", 16⟩, ⟨ "Cell", 3, 3, false, "", "", 24⟩, ⟨ "Other", 3, 4, false, "", "", 32⟩, ⟨ "Epoch", 3, 5, false, "", "", 40⟩, ⟨ "From", 3, 6, false, "", "", 48⟩, ⟨ "Until", 3, 7, false, "", "", 56⟩, ⟨ "N", 3, 8, false, "", "", 64⟩], 9, 72, [.int .i64 0, .int .i64 0, .int .i64 0, .int .i64 0, .int .i64 0, .int .i64 0, .int .i64 0, .int .i64 0, .int .i64 0], true, true⟩
  | 43 => some ⟨.struct #[⟨ "Kind", 3, 0, false, "", "", 0⟩, ⟨ "Tick", 3, 1, false, "", "", 8⟩, ⟨ "Tenant", 3, 2, false, "", "", 16⟩, ⟨ "Cell", 3, 3, false, "", "", 24⟩, ⟨ "Other", 3, 4, false, "", "", 32⟩, ⟨ "Epoch", 3, 5, false, "", "", 40⟩, ⟨ "From", 3, 6, false, "", "", 48⟩, ⟨ "Until", 3, 7, false, "", "", 56⟩, ⟨ "N", 3, 8, false, "", "", 64⟩], 9, 72, [.int .i64 0, .int .i64 0, .int .i64 0, .int .i64 0, .int .i64 0, .int .i64 0, .int .i64 0, .int .i64 0, .int .i64 0], true, true⟩
  | 46 => some ⟨.struct #[⟨ "B", 32, 0, false, "", "", 0⟩, ⟨ "D", 3, 1, false, "", "", 24⟩], 2, 32, [.sl 0 1 [], .int .i64 0], true, false⟩
  | 47 => some ⟨.struct #[⟨ "B", 32, 0, false, "", "", 0⟩, ⟨ "D", 3, 1, false, "", "", 24⟩], 2, 32, [.sl 0 1 [], .int .i64 0], true, false⟩
  | 48 => some ⟨.slice 32, 1, 24, [.sl 0 1 []], false, false⟩
  | 53 => some ⟨.struct #[⟨ "term", 3, 0, false, "", "cellplane/journal", 0⟩, ⟨ "vote", 3, 1, false, "", "cellplane/journal", 8⟩, ⟨ "log", 37, 2, false, "", "cellplane/journal", 16⟩], 3, 40, [.int .i64 0, .int .i64 0, .sl 0 1 []], true, false⟩
  | 54 => some ⟨.struct #[⟨ "term", 3, 0, false, "", "cellplane/journal", 0⟩, ⟨ "vote", 3, 1, false, "", "cellplane/journal", 8⟩, ⟨ "log", 37, 2, false, "", "cellplane/journal", 16⟩], 3, 40, [.int .i64 0, .int .i64 0, .sl 0 1 []], true, false⟩
  | 56 => some ⟨.pointer 77, 1, 8, [.pnil], false, false⟩
  | 58 => some ⟨.struct #[⟨ "Disk", 56, 0, true, "", "", 0⟩], 1, 8, [.pnil], true, false⟩
  | 59 => some ⟨.struct #[⟨ "Disk", 56, 0, true, "", "", 0⟩], 1, 8, [.pnil], true, false⟩
  | 60 => some ⟨.struct #[⟨ "memory", 54, 0, true, "", "cellplane/journal", 0⟩, ⟨ "tape", 59, 3, false, "", "cellplane/journal", 40⟩], 4, 48, [.int .i64 0, .int .i64 0, .sl 0 1 [], .pnil], true, false⟩
  | 61 => some ⟨.struct #[⟨ "memory", 54, 0, true, "", "cellplane/journal", 0⟩, ⟨ "tape", 59, 3, false, "", "cellplane/journal", 40⟩], 4, 48, [.int .i64 0, .int .i64 0, .sl 0 1 [], .pnil], true, false⟩
  | 72 => some ⟨.struct #[⟨ "Term", 3, 0, false, "", "", 0⟩, ⟨ "Entry", 43, 1, false, "", "", 8⟩], 10, 80, [.int .i64 0, .int .i64 0, .int .i64 0, .int .i64 0, .int .i64 0, .int .i64 0, .int .i64 0, .int .i64 0, .int .i64 0, .int .i64 0], true, true⟩
  | 73 => some ⟨.struct #[⟨ "Term", 3, 0, false, "", "", 0⟩, ⟨ "Entry", 43, 1, false, "", "", 8⟩], 10, 80, [.int .i64 0, .int .i64 0, .int .i64 0, .int .i64 0, .int .i64 0, .int .i64 0, .int .i64 0, .int .i64 0, .int .i64 0, .int .i64 0], true, true⟩
  | 76 => some ⟨.struct #[⟨ "data", 32, 0, false, "", "cellplane/disk", 0⟩, ⟨ "durable", 3, 1, false, "", "cellplane/disk", 24⟩], 2, 32, [.sl 0 1 [], .int .i64 0], true, false⟩
  | 77 => some ⟨.struct #[⟨ "data", 32, 0, false, "", "cellplane/disk", 0⟩, ⟨ "durable", 3, 1, false, "", "cellplane/disk", 24⟩], 2, 32, [.sl 0 1 [], .int .i64 0], true, false⟩
  | 79 => some ⟨.struct #[⟨ "kind", 3, 0, false, "", "cellplane/journal", 0⟩, ⟨ "term", 3, 1, false, "", "cellplane/journal", 8⟩, ⟨ "n", 3, 2, false, "", "cellplane/journal", 16⟩, ⟨ "entry", 43, 3, false, "", "cellplane/journal", 24⟩], 12, 96, [.int .i64 0, .int .i64 0, .int .i64 0, .int .i64 0, .int .i64 0, .int .i64 0, .int .i64 0, .int .i64 0, .int .i64 0, .int .i64 0, .int .i64 0, .int .i64 0], true, true⟩
  | 80 => some ⟨.struct #[⟨ "kind", 3, 0, false, "", "cellplane/journal", 0⟩, ⟨ "term", 3, 1, false, "", "cellplane/journal", 8⟩, ⟨ "n", 3, 2, false, "", "cellplane/journal", 16⟩, ⟨ "entry", 43, 3, false, "", "cellplane/journal", 24⟩], 12, 96, [.int .i64 0, .int .i64 0, .int .i64 0, .int .i64 0, .int .i64 0, .int .i64 0, .int .i64 0, .int .i64 0, .int .i64 0, .int .i64 0, .int .i64 0, .int .i64 0], true, true⟩
  | 85 => some ⟨.int .u64, 1, 8, [.int .u64 0], false, false⟩
  | 88 => some ⟨.slice 3, 1, 24, [.sl 0 1 []], false, false⟩
  | 101 => some ⟨.pointer 54, 1, 8, [.pnil], false, false⟩
  | 104 => some ⟨.int .u64, 1, 8, [.int .u64 0], false, false⟩
  | 105 => some ⟨.array 9 3, 9, 72, [.int .i64 0, .int .i64 0, .int .i64 0, .int .i64 0, .int .i64 0, .int .i64 0, .int .i64 0, .int .i64 0, .int .i64 0], true, false⟩
  | 113 => some ⟨.pointer 3, 1, 8, [.pnil], false, false⟩
  | 115 => some ⟨.pointer 43, 1, 8, [.pnil], false, false⟩
  | 119 => some ⟨.slice 113, 1, 24, [.sl 0 1 []], false, false⟩
  | 121 => some ⟨.struct #[⟨ "tenants", 3, 0, false, "", "cellplane/entry", 0⟩, ⟨ "cells", 3, 1, false, "", "cellplane/entry", 8⟩, ⟨ "regions", 3, 2, false, "", "cellplane/entry", 16⟩, ⟨ "versions", 3, 3, false, "", "cellplane/entry", 24⟩], 4, 32, [.int .i64 0, .int .i64 0, .int .i64 0, .int .i64 0], true, true⟩
  | 122 => some ⟨.struct #[⟨ "tenants", 3, 0, false, "", "cellplane/entry", 0⟩, ⟨ "cells", 3, 1, false, "", "cellplane/entry", 8⟩, ⟨ "regions", 3, 2, false, "", "cellplane/entry", 16⟩, ⟨ "versions", 3, 3, false, "", "cellplane/entry", 24⟩], 4, 32, [.int .i64 0, .int .i64 0, .int .i64 0, .int .i64 0], true, true⟩
  | 123 => some ⟨.array 9 113, 9, 72, [.pnil, .pnil, .pnil, .pnil, .pnil, .pnil, .pnil, .pnil, .pnil], true, false⟩
  | 126 => some ⟨.struct #[⟨ "low", 3, 0, false, "", "cellplane/entry", 0⟩, ⟨ "high", 3, 1, false, "", "cellplane/entry", 8⟩], 2, 16, [.int .i64 0, .int .i64 0], true, true⟩
  | 127 => some ⟨.struct #[⟨ "low", 3, 0, false, "", "cellplane/entry", 0⟩, ⟨ "high", 3, 1, false, "", "cellplane/entry", 8⟩], 2, 16, [.int .i64 0, .int .i64 0], true, true⟩
  | 128 => some ⟨.struct #[⟨ "tenant", 127, 0, false, "", "cellplane/entry", 0⟩, ⟨ "cell", 127, 2, false, "", "cellplane/entry", 16⟩, ⟨ "other", 127, 4, false, "", "cellplane/entry", 32⟩, ⟨ "epoch", 127, 6, false, "", "cellplane/entry", 48⟩, ⟨ "from", 127, 8, false, "", "cellplane/entry", 64⟩, ⟨ "until", 127, 10, false, "", "cellplane/entry", 80⟩, ⟨ "n", 127, 12, false, "", "cellplane/entry", 96⟩], 14, 112, [.int .i64 0, .int .i64 0, .int .i64 0, .int .i64 0, .int .i64 0, .int .i64 0, .int .i64 0, .int .i64 0, .int .i64 0, .int .i64 0, .int .i64 0, .int .i64 0, .int .i64 0, .int .i64 0], true, true⟩
  | 129 => some ⟨.struct #[⟨ "tenant", 127, 0, false, "", "cellplane/entry", 0⟩, ⟨ "cell", 127, 2, false, "", "cellplane/entry", 16⟩, ⟨ "other", 127, 4, false, "", "cellplane/entry", 32⟩, ⟨ "epoch", 127, 6, false, "", "cellplane/entry", 48⟩, ⟨ "from", 127, 8, false, "", "cellplane/entry", 64⟩, ⟨ "until", 127, 10, false, "", "cellplane/entry", 80⟩, ⟨ "n", 127, 12, false, "", "cellplane/entry", 96⟩], 14, 112, [.int .i64 0, .int .i64 0, .int .i64 0, .int .i64 0, .int .i64 0, .int .i64 0, .int .i64 0, .int .i64 0, .int .i64 0, .int .i64 0, .int .i64 0, .int .i64 0, .int .i64 0, .int .i64 0], true, true⟩
  | 133 => some ⟨.slice 9, 1, 24, [.sl 0 1 []], false, false⟩
  | 143 => some ⟨.int .u32, 1, 4, [.int .u32 0], false, false⟩
  | 147 => some ⟨.pointer 5, 1, 8, [.pnil], false, false⟩
  | _ => none

theorem okT_2 : TypeOk Tryz.prog 2 ⟨.int .i64, 1, 8, [.int .i64 0], false, false⟩ := typeOk_of (.int .i64 0) (by kernel_rfl) (by kernel_rfl) ⟨rfl, rfl⟩ rfl (fun h => by cases h)
theorem okT_3 : TypeOk Tryz.prog 3 ⟨.int .i64, 1, 8, [.int .i64 0], false, false⟩ := typeOk_of (.int .i64 0) (by kernel_rfl) (by kernel_rfl) ⟨rfl, rfl⟩ rfl (fun h => by cases h)
theorem okT_4 : TypeOk Tryz.prog 4 ⟨.bool, 1, 1, [.bool false], false, false⟩ := typeOk_of (.bool false) (by kernel_rfl) (by kernel_rfl) ⟨rfl, rfl⟩ rfl (fun h => by cases h)
theorem okT_5 : TypeOk Tryz.prog 5 ⟨.int .u8, 1, 1, [.int .u8 0], false, false⟩ := typeOk_of (.int .u8 0) (by kernel_rfl) (by kernel_rfl) ⟨rfl, rfl⟩ rfl (fun h => by cases h)
theorem okT_9 : TypeOk Tryz.prog 9 ⟨.string, 1, 16, [.str .empty], false, false⟩ := typeOk_of (.string .empty) (by kernel_rfl) (by kernel_rfl) ⟨rfl, rfl⟩ rfl (fun h => by cases h)
theorem okT_12 : TypeOk Tryz.prog 12 ⟨.int .u64, 1, 8, [.int .u64 0], false, false⟩ := typeOk_of (.int .u64 0) (by kernel_rfl) (by kernel_rfl) ⟨rfl, rfl⟩ rfl (fun h => by cases h)
theorem okT_21 : TypeOk Tryz.prog 21 ⟨.int .i32, 1, 4, [.int .i32 0], false, false⟩ := typeOk_of (.int .i32 0) (by kernel_rfl) (by kernel_rfl) ⟨rfl, rfl⟩ rfl (fun h => by cases h)
theorem okT_22 : TypeOk Tryz.prog 22 ⟨.slice 30, 1, 24, [.sl 0 1 []], false, false⟩ := typeOk_of (.slice none 0 0) (by kernel_rfl) (by kernel_rfl) ⟨rfl, rfl⟩ rfl (fun h => by cases h)
theorem okT_23 : TypeOk Tryz.prog 23 ⟨.pointer 61, 1, 8, [.pnil], false, false⟩ := typeOk_of (.pointer none) (by kernel_rfl) (by kernel_rfl) ⟨rfl, rfl⟩ rfl (fun h => by cases h)
theorem okT_25 : TypeOk Tryz.prog 25 ⟨.pointer 39, 1, 8, [.pnil], false, false⟩ := typeOk_of (.pointer none) (by kernel_rfl) (by kernel_rfl) ⟨rfl, rfl⟩ rfl (fun h => by cases h)
theorem okT_29 : TypeOk Tryz.prog 29 ⟨.struct #[⟨ "Which", 3, 0, false, "", "", 0⟩, ⟨ "A", 3, 1, false, "", "", 8⟩, ⟨ "B", 3, 2, false, "", "", 16⟩], 3, 24, [.int .i64 0, .int .i64 0, .int .i64 0], true, true⟩ := typeOk_of (.agg #[.int .i64 0, .int .i64 0, .int .i64 0]) (by kernel_rfl) (by kernel_rfl) ⟨rfl, rfl⟩ rfl (fun _ => ⟨by kernel_rfl, by kernel_rfl⟩)
theorem okT_30 : TypeOk Tryz.prog 30 ⟨.struct #[⟨ "Which", 3, 0, false, "", "", 0⟩, ⟨ "A", 3, 1, false, "", "", 8⟩, ⟨ "B", 3, 2, false, "", "", 16⟩], 3, 24, [.int .i64 0, .int .i64 0, .int .i64 0], true, true⟩ := typeOk_of (.agg #[.int .i64 0, .int .i64 0, .int .i64 0]) (by kernel_rfl) (by kernel_rfl) ⟨rfl, rfl⟩ rfl (fun _ => ⟨by kernel_rfl, by kernel_rfl⟩)
theorem okT_32 : TypeOk Tryz.prog 32 ⟨.slice 5, 1, 24, [.sl 0 1 []], false, false⟩ := typeOk_of (.slice none 0 0) (by kernel_rfl) (by kernel_rfl) ⟨rfl, rfl⟩ rfl (fun h => by cases h)
theorem okT_34 : TypeOk Tryz.prog 34 ⟨.int .i64, 1, 8, [.int .i64 0], false, false⟩ := typeOk_of (.int .i64 0) (by kernel_rfl) (by kernel_rfl) ⟨rfl, rfl⟩ rfl (fun h => by cases h)
theorem okT_36 : TypeOk Tryz.prog 36 ⟨.pointer 47, 1, 8, [.pnil], false, false⟩ := typeOk_of (.pointer none) (by kernel_rfl) (by kernel_rfl) ⟨rfl, rfl⟩ rfl (fun h => by cases h)
theorem okT_37 : TypeOk Tryz.prog 37 ⟨.slice 73, 1, 24, [.sl 0 1 []], false, false⟩ := typeOk_of (.slice none 0 0) (by kernel_rfl) (by kernel_rfl) ⟨rfl, rfl⟩ rfl (fun h => by cases h)
theorem okT_38 : TypeOk Tryz.prog 38 ⟨.struct #[⟨ "D", 36, 0, false, "", "", 0⟩, ⟨ "Term", 3, 1, false, "", "", 8⟩, ⟨ "Vote", 3, 2, false, "", "", 16⟩, ⟨ "L", 37, 3, false, "", "", 24⟩], 4, 48, [.pnil, .int .i64 0, .int .i64 0, .sl 0 1 []], true, false⟩ := typeOk_of (.agg #[.pointer none, .int .i64 0, .int .i64 0, .slice none 0 0]) (by kernel_rfl) (by kernel_rfl) ⟨rfl, rfl⟩ rfl (fun h => by cases h)
theorem okT_39 : TypeOk Tryz.prog 39 ⟨.struct #[⟨ "D", 36, 0, false, "", "", 0⟩, ⟨ "Term", 3, 1, false, "", "", 8⟩, ⟨ "Vote", 3, 2, false, "", "", 16⟩, ⟨ "L", 37, 3, false, "", "", 24⟩], 4, 48, [.pnil, .int .i64 0, .int .i64 0, .sl 0 1 []], true, false⟩ := typeOk_of (.agg #[.pointer none, .int .i64 0, .int .i64 0, .slice none 0 0]) (by kernel_rfl) (by kernel_rfl) ⟨rfl, rfl⟩ rfl (fun h => by cases h)
theorem okT_42 : TypeOk Tryz.prog 42 ⟨.struct #[⟨ "Kind", 3, 0, false, "", "", 0⟩, ⟨ "Tick", 3, 1, false, "", "", 8⟩, ⟨ "Tenant", 3, 2, false, "", "", 16⟩, ⟨ "Cell", 3, 3, false, "", "", 24⟩, ⟨ "Other", 3, 4, false, "", "", 32⟩, ⟨ "Epoch", 3, 5, false, "", "", 40⟩, ⟨ "From", 3, 6, false, "", "", 48⟩, ⟨ "Until", 3, 7, false, "", "", 56⟩, ⟨ "N", 3, 8, false, "", "", 64⟩], 9, 72, [.int .i64 0, .int .i64 0, .int .i64 0, .int .i64 0, .int .i64 0, .int .i64 0, .int .i64 0, .int .i64 0, .int .i64 0], true, true⟩ := typeOk_of (.agg #[.int .i64 0, .int .i64 0, .int .i64 0, .int .i64 0, .int .i64 0, .int .i64 0, .int .i64 0, .int .i64 0, .int .i64 0]) (by kernel_rfl) (by kernel_rfl) ⟨rfl, rfl⟩ rfl (fun _ => ⟨by kernel_rfl, by kernel_rfl⟩)
theorem okT_43 : TypeOk Tryz.prog 43 ⟨.struct #[⟨ "Kind", 3, 0, false, "", "", 0⟩, ⟨ "Tick", 3, 1, false, "", "", 8⟩, ⟨ "Tenant", 3, 2, false, "", "", 16⟩, ⟨ "Cell", 3, 3, false, "", "", 24⟩, ⟨ "Other", 3, 4, false, "", "", 32⟩, ⟨ "Epoch", 3, 5, false, "", "", 40⟩, ⟨ "From", 3, 6, false, "", "", 48⟩, ⟨ "Until", 3, 7, false, "", "", 56⟩, ⟨ "N", 3, 8, false, "", "", 64⟩], 9, 72, [.int .i64 0, .int .i64 0, .int .i64 0, .int .i64 0, .int .i64 0, .int .i64 0, .int .i64 0, .int .i64 0, .int .i64 0], true, true⟩ := typeOk_of (.agg #[.int .i64 0, .int .i64 0, .int .i64 0, .int .i64 0, .int .i64 0, .int .i64 0, .int .i64 0, .int .i64 0, .int .i64 0]) (by kernel_rfl) (by kernel_rfl) ⟨rfl, rfl⟩ rfl (fun _ => ⟨by kernel_rfl, by kernel_rfl⟩)
theorem okT_46 : TypeOk Tryz.prog 46 ⟨.struct #[⟨ "B", 32, 0, false, "", "", 0⟩, ⟨ "D", 3, 1, false, "", "", 24⟩], 2, 32, [.sl 0 1 [], .int .i64 0], true, false⟩ := typeOk_of (.agg #[.slice none 0 0, .int .i64 0]) (by kernel_rfl) (by kernel_rfl) ⟨rfl, rfl⟩ rfl (fun h => by cases h)
theorem okT_47 : TypeOk Tryz.prog 47 ⟨.struct #[⟨ "B", 32, 0, false, "", "", 0⟩, ⟨ "D", 3, 1, false, "", "", 24⟩], 2, 32, [.sl 0 1 [], .int .i64 0], true, false⟩ := typeOk_of (.agg #[.slice none 0 0, .int .i64 0]) (by kernel_rfl) (by kernel_rfl) ⟨rfl, rfl⟩ rfl (fun h => by cases h)
theorem okT_48 : TypeOk Tryz.prog 48 ⟨.slice 32, 1, 24, [.sl 0 1 []], false, false⟩ := typeOk_of (.slice none 0 0) (by kernel_rfl) (by kernel_rfl) ⟨rfl, rfl⟩ rfl (fun h => by cases h)
theorem okT_53 : TypeOk Tryz.prog 53 ⟨.struct #[⟨ "term", 3, 0, false, "", "cellplane/journal", 0⟩, ⟨ "vote", 3, 1, false, "", "cellplane/journal", 8⟩, ⟨ "log", 37, 2, false, "", "cellplane/journal", 16⟩], 3, 40, [.int .i64 0, .int .i64 0, .sl 0 1 []], true, false⟩ := typeOk_of (.agg #[.int .i64 0, .int .i64 0, .slice none 0 0]) (by kernel_rfl) (by kernel_rfl) ⟨rfl, rfl⟩ rfl (fun h => by cases h)
theorem okT_54 : TypeOk Tryz.prog 54 ⟨.struct #[⟨ "term", 3, 0, false, "", "cellplane/journal", 0⟩, ⟨ "vote", 3, 1, false, "", "cellplane/journal", 8⟩, ⟨ "log", 37, 2, false, "", "cellplane/journal", 16⟩], 3, 40, [.int .i64 0, .int .i64 0, .sl 0 1 []], true, false⟩ := typeOk_of (.agg #[.int .i64 0, .int .i64 0, .slice none 0 0]) (by kernel_rfl) (by kernel_rfl) ⟨rfl, rfl⟩ rfl (fun h => by cases h)
theorem okT_56 : TypeOk Tryz.prog 56 ⟨.pointer 77, 1, 8, [.pnil], false, false⟩ := typeOk_of (.pointer none) (by kernel_rfl) (by kernel_rfl) ⟨rfl, rfl⟩ rfl (fun h => by cases h)
theorem okT_58 : TypeOk Tryz.prog 58 ⟨.struct #[⟨ "Disk", 56, 0, true, "", "", 0⟩], 1, 8, [.pnil], true, false⟩ := typeOk_of (.agg #[.pointer none]) (by kernel_rfl) (by kernel_rfl) ⟨rfl, rfl⟩ rfl (fun h => by cases h)
theorem okT_59 : TypeOk Tryz.prog 59 ⟨.struct #[⟨ "Disk", 56, 0, true, "", "", 0⟩], 1, 8, [.pnil], true, false⟩ := typeOk_of (.agg #[.pointer none]) (by kernel_rfl) (by kernel_rfl) ⟨rfl, rfl⟩ rfl (fun h => by cases h)
theorem okT_60 : TypeOk Tryz.prog 60 ⟨.struct #[⟨ "memory", 54, 0, true, "", "cellplane/journal", 0⟩, ⟨ "tape", 59, 3, false, "", "cellplane/journal", 40⟩], 4, 48, [.int .i64 0, .int .i64 0, .sl 0 1 [], .pnil], true, false⟩ := typeOk_of (.agg #[.int .i64 0, .int .i64 0, .slice none 0 0, .pointer none]) (by kernel_rfl) (by kernel_rfl) ⟨rfl, rfl⟩ rfl (fun h => by cases h)
theorem okT_61 : TypeOk Tryz.prog 61 ⟨.struct #[⟨ "memory", 54, 0, true, "", "cellplane/journal", 0⟩, ⟨ "tape", 59, 3, false, "", "cellplane/journal", 40⟩], 4, 48, [.int .i64 0, .int .i64 0, .sl 0 1 [], .pnil], true, false⟩ := typeOk_of (.agg #[.int .i64 0, .int .i64 0, .slice none 0 0, .pointer none]) (by kernel_rfl) (by kernel_rfl) ⟨rfl, rfl⟩ rfl (fun h => by cases h)
theorem okT_72 : TypeOk Tryz.prog 72 ⟨.struct #[⟨ "Term", 3, 0, false, "", "", 0⟩, ⟨ "Entry", 43, 1, false, "", "", 8⟩], 10, 80, [.int .i64 0, .int .i64 0, .int .i64 0, .int .i64 0, .int .i64 0, .int .i64 0, .int .i64 0, .int .i64 0, .int .i64 0, .int .i64 0], true, true⟩ := typeOk_of (.agg #[.int .i64 0, .int .i64 0, .int .i64 0, .int .i64 0, .int .i64 0, .int .i64 0, .int .i64 0, .int .i64 0, .int .i64 0, .int .i64 0]) (by kernel_rfl) (by kernel_rfl) ⟨rfl, rfl⟩ rfl (fun _ => ⟨by kernel_rfl, by kernel_rfl⟩)
theorem okT_73 : TypeOk Tryz.prog 73 ⟨.struct #[⟨ "Term", 3, 0, false, "", "", 0⟩, ⟨ "Entry", 43, 1, false, "", "", 8⟩], 10, 80, [.int .i64 0, .int .i64 0, .int .i64 0, .int .i64 0, .int .i64 0, .int .i64 0, .int .i64 0, .int .i64 0, .int .i64 0, .int .i64 0], true, true⟩ := typeOk_of (.agg #[.int .i64 0, .int .i64 0, .int .i64 0, .int .i64 0, .int .i64 0, .int .i64 0, .int .i64 0, .int .i64 0, .int .i64 0, .int .i64 0]) (by kernel_rfl) (by kernel_rfl) ⟨rfl, rfl⟩ rfl (fun _ => ⟨by kernel_rfl, by kernel_rfl⟩)
theorem okT_76 : TypeOk Tryz.prog 76 ⟨.struct #[⟨ "data", 32, 0, false, "", "cellplane/disk", 0⟩, ⟨ "durable", 3, 1, false, "", "cellplane/disk", 24⟩], 2, 32, [.sl 0 1 [], .int .i64 0], true, false⟩ := typeOk_of (.agg #[.slice none 0 0, .int .i64 0]) (by kernel_rfl) (by kernel_rfl) ⟨rfl, rfl⟩ rfl (fun h => by cases h)
theorem okT_77 : TypeOk Tryz.prog 77 ⟨.struct #[⟨ "data", 32, 0, false, "", "cellplane/disk", 0⟩, ⟨ "durable", 3, 1, false, "", "cellplane/disk", 24⟩], 2, 32, [.sl 0 1 [], .int .i64 0], true, false⟩ := typeOk_of (.agg #[.slice none 0 0, .int .i64 0]) (by kernel_rfl) (by kernel_rfl) ⟨rfl, rfl⟩ rfl (fun h => by cases h)
theorem okT_79 : TypeOk Tryz.prog 79 ⟨.struct #[⟨ "kind", 3, 0, false, "", "cellplane/journal", 0⟩, ⟨ "term", 3, 1, false, "", "cellplane/journal", 8⟩, ⟨ "n", 3, 2, false, "", "cellplane/journal", 16⟩, ⟨ "entry", 43, 3, false, "", "cellplane/journal", 24⟩], 12, 96, [.int .i64 0, .int .i64 0, .int .i64 0, .int .i64 0, .int .i64 0, .int .i64 0, .int .i64 0, .int .i64 0, .int .i64 0, .int .i64 0, .int .i64 0, .int .i64 0], true, true⟩ := typeOk_of (.agg #[.int .i64 0, .int .i64 0, .int .i64 0, .int .i64 0, .int .i64 0, .int .i64 0, .int .i64 0, .int .i64 0, .int .i64 0, .int .i64 0, .int .i64 0, .int .i64 0]) (by kernel_rfl) (by kernel_rfl) ⟨rfl, rfl⟩ rfl (fun _ => ⟨by kernel_rfl, by kernel_rfl⟩)
theorem okT_80 : TypeOk Tryz.prog 80 ⟨.struct #[⟨ "kind", 3, 0, false, "", "cellplane/journal", 0⟩, ⟨ "term", 3, 1, false, "", "cellplane/journal", 8⟩, ⟨ "n", 3, 2, false, "", "cellplane/journal", 16⟩, ⟨ "entry", 43, 3, false, "", "cellplane/journal", 24⟩], 12, 96, [.int .i64 0, .int .i64 0, .int .i64 0, .int .i64 0, .int .i64 0, .int .i64 0, .int .i64 0, .int .i64 0, .int .i64 0, .int .i64 0, .int .i64 0, .int .i64 0], true, true⟩ := typeOk_of (.agg #[.int .i64 0, .int .i64 0, .int .i64 0, .int .i64 0, .int .i64 0, .int .i64 0, .int .i64 0, .int .i64 0, .int .i64 0, .int .i64 0, .int .i64 0, .int .i64 0]) (by kernel_rfl) (by kernel_rfl) ⟨rfl, rfl⟩ rfl (fun _ => ⟨by kernel_rfl, by kernel_rfl⟩)
theorem okT_85 : TypeOk Tryz.prog 85 ⟨.int .u64, 1, 8, [.int .u64 0], false, false⟩ := typeOk_of (.int .u64 0) (by kernel_rfl) (by kernel_rfl) ⟨rfl, rfl⟩ rfl (fun h => by cases h)
theorem okT_88 : TypeOk Tryz.prog 88 ⟨.slice 3, 1, 24, [.sl 0 1 []], false, false⟩ := typeOk_of (.slice none 0 0) (by kernel_rfl) (by kernel_rfl) ⟨rfl, rfl⟩ rfl (fun h => by cases h)
theorem okT_101 : TypeOk Tryz.prog 101 ⟨.pointer 54, 1, 8, [.pnil], false, false⟩ := typeOk_of (.pointer none) (by kernel_rfl) (by kernel_rfl) ⟨rfl, rfl⟩ rfl (fun h => by cases h)
theorem okT_104 : TypeOk Tryz.prog 104 ⟨.int .u64, 1, 8, [.int .u64 0], false, false⟩ := typeOk_of (.int .u64 0) (by kernel_rfl) (by kernel_rfl) ⟨rfl, rfl⟩ rfl (fun h => by cases h)
theorem okT_105 : TypeOk Tryz.prog 105 ⟨.array 9 3, 9, 72, [.int .i64 0, .int .i64 0, .int .i64 0, .int .i64 0, .int .i64 0, .int .i64 0, .int .i64 0, .int .i64 0, .int .i64 0], true, false⟩ := typeOk_of (.agg #[.int .i64 0, .int .i64 0, .int .i64 0, .int .i64 0, .int .i64 0, .int .i64 0, .int .i64 0, .int .i64 0, .int .i64 0]) (by kernel_rfl) (by kernel_rfl) ⟨rfl, rfl⟩ rfl (fun h => by cases h)
theorem okT_113 : TypeOk Tryz.prog 113 ⟨.pointer 3, 1, 8, [.pnil], false, false⟩ := typeOk_of (.pointer none) (by kernel_rfl) (by kernel_rfl) ⟨rfl, rfl⟩ rfl (fun h => by cases h)
theorem okT_115 : TypeOk Tryz.prog 115 ⟨.pointer 43, 1, 8, [.pnil], false, false⟩ := typeOk_of (.pointer none) (by kernel_rfl) (by kernel_rfl) ⟨rfl, rfl⟩ rfl (fun h => by cases h)
theorem okT_119 : TypeOk Tryz.prog 119 ⟨.slice 113, 1, 24, [.sl 0 1 []], false, false⟩ := typeOk_of (.slice none 0 0) (by kernel_rfl) (by kernel_rfl) ⟨rfl, rfl⟩ rfl (fun h => by cases h)
theorem okT_121 : TypeOk Tryz.prog 121 ⟨.struct #[⟨ "tenants", 3, 0, false, "", "cellplane/entry", 0⟩, ⟨ "cells", 3, 1, false, "", "cellplane/entry", 8⟩, ⟨ "regions", 3, 2, false, "", "cellplane/entry", 16⟩, ⟨ "versions", 3, 3, false, "", "cellplane/entry", 24⟩], 4, 32, [.int .i64 0, .int .i64 0, .int .i64 0, .int .i64 0], true, true⟩ := typeOk_of (.agg #[.int .i64 0, .int .i64 0, .int .i64 0, .int .i64 0]) (by kernel_rfl) (by kernel_rfl) ⟨rfl, rfl⟩ rfl (fun _ => ⟨by kernel_rfl, by kernel_rfl⟩)
theorem okT_122 : TypeOk Tryz.prog 122 ⟨.struct #[⟨ "tenants", 3, 0, false, "", "cellplane/entry", 0⟩, ⟨ "cells", 3, 1, false, "", "cellplane/entry", 8⟩, ⟨ "regions", 3, 2, false, "", "cellplane/entry", 16⟩, ⟨ "versions", 3, 3, false, "", "cellplane/entry", 24⟩], 4, 32, [.int .i64 0, .int .i64 0, .int .i64 0, .int .i64 0], true, true⟩ := typeOk_of (.agg #[.int .i64 0, .int .i64 0, .int .i64 0, .int .i64 0]) (by kernel_rfl) (by kernel_rfl) ⟨rfl, rfl⟩ rfl (fun _ => ⟨by kernel_rfl, by kernel_rfl⟩)
theorem okT_123 : TypeOk Tryz.prog 123 ⟨.array 9 113, 9, 72, [.pnil, .pnil, .pnil, .pnil, .pnil, .pnil, .pnil, .pnil, .pnil], true, false⟩ := typeOk_of (.agg #[.pointer none, .pointer none, .pointer none, .pointer none, .pointer none, .pointer none, .pointer none, .pointer none, .pointer none]) (by kernel_rfl) (by kernel_rfl) ⟨rfl, rfl⟩ rfl (fun h => by cases h)
theorem okT_126 : TypeOk Tryz.prog 126 ⟨.struct #[⟨ "low", 3, 0, false, "", "cellplane/entry", 0⟩, ⟨ "high", 3, 1, false, "", "cellplane/entry", 8⟩], 2, 16, [.int .i64 0, .int .i64 0], true, true⟩ := typeOk_of (.agg #[.int .i64 0, .int .i64 0]) (by kernel_rfl) (by kernel_rfl) ⟨rfl, rfl⟩ rfl (fun _ => ⟨by kernel_rfl, by kernel_rfl⟩)
theorem okT_127 : TypeOk Tryz.prog 127 ⟨.struct #[⟨ "low", 3, 0, false, "", "cellplane/entry", 0⟩, ⟨ "high", 3, 1, false, "", "cellplane/entry", 8⟩], 2, 16, [.int .i64 0, .int .i64 0], true, true⟩ := typeOk_of (.agg #[.int .i64 0, .int .i64 0]) (by kernel_rfl) (by kernel_rfl) ⟨rfl, rfl⟩ rfl (fun _ => ⟨by kernel_rfl, by kernel_rfl⟩)
theorem okT_128 : TypeOk Tryz.prog 128 ⟨.struct #[⟨ "tenant", 127, 0, false, "", "cellplane/entry", 0⟩, ⟨ "cell", 127, 2, false, "", "cellplane/entry", 16⟩, ⟨ "other", 127, 4, false, "", "cellplane/entry", 32⟩, ⟨ "epoch", 127, 6, false, "", "cellplane/entry", 48⟩, ⟨ "from", 127, 8, false, "", "cellplane/entry", 64⟩, ⟨ "until", 127, 10, false, "", "cellplane/entry", 80⟩, ⟨ "n", 127, 12, false, "", "cellplane/entry", 96⟩], 14, 112, [.int .i64 0, .int .i64 0, .int .i64 0, .int .i64 0, .int .i64 0, .int .i64 0, .int .i64 0, .int .i64 0, .int .i64 0, .int .i64 0, .int .i64 0, .int .i64 0, .int .i64 0, .int .i64 0], true, true⟩ := typeOk_of (.agg #[.int .i64 0, .int .i64 0, .int .i64 0, .int .i64 0, .int .i64 0, .int .i64 0, .int .i64 0, .int .i64 0, .int .i64 0, .int .i64 0, .int .i64 0, .int .i64 0, .int .i64 0, .int .i64 0]) (by kernel_rfl) (by kernel_rfl) ⟨rfl, rfl⟩ rfl (fun _ => ⟨by kernel_rfl, by kernel_rfl⟩)
theorem okT_129 : TypeOk Tryz.prog 129 ⟨.struct #[⟨ "tenant", 127, 0, false, "", "cellplane/entry", 0⟩, ⟨ "cell", 127, 2, false, "", "cellplane/entry", 16⟩, ⟨ "other", 127, 4, false, "", "cellplane/entry", 32⟩, ⟨ "epoch", 127, 6, false, "", "cellplane/entry", 48⟩, ⟨ "from", 127, 8, false, "", "cellplane/entry", 64⟩, ⟨ "until", 127, 10, false, "", "cellplane/entry", 80⟩, ⟨ "n", 127, 12, false, "", "cellplane/entry", 96⟩], 14, 112, [.int .i64 0, .int .i64 0, .int .i64 0, .int .i64 0, .int .i64 0, .int .i64 0, .int .i64 0, .int .i64 0, .int .i64 0, .int .i64 0, .int .i64 0, .int .i64 0, .int .i64 0, .int .i64 0], true, true⟩ := typeOk_of (.agg #[.int .i64 0, .int .i64 0, .int .i64 0, .int .i64 0, .int .i64 0, .int .i64 0, .int .i64 0, .int .i64 0, .int .i64 0, .int .i64 0, .int .i64 0, .int .i64 0, .int .i64 0, .int .i64 0]) (by kernel_rfl) (by kernel_rfl) ⟨rfl, rfl⟩ rfl (fun _ => ⟨by kernel_rfl, by kernel_rfl⟩)
theorem okT_133 : TypeOk Tryz.prog 133 ⟨.slice 9, 1, 24, [.sl 0 1 []], false, false⟩ := typeOk_of (.slice none 0 0) (by kernel_rfl) (by kernel_rfl) ⟨rfl, rfl⟩ rfl (fun h => by cases h)
theorem okT_143 : TypeOk Tryz.prog 143 ⟨.int .u32, 1, 4, [.int .u32 0], false, false⟩ := typeOk_of (.int .u32 0) (by kernel_rfl) (by kernel_rfl) ⟨rfl, rfl⟩ rfl (fun h => by cases h)
theorem okT_147 : TypeOk Tryz.prog 147 ⟨.pointer 5, 1, 8, [.pnil], false, false⟩ := typeOk_of (.pointer none) (by kernel_rfl) (by kernel_rfl) ⟨rfl, rfl⟩ rfl (fun h => by cases h)

theorem types_ok : TypesOk Tryz.prog T := by
  intro t ti h
  unfold T at h
  split at h
  · cases h; exact okT_2
  · cases h; exact okT_3
  · cases h; exact okT_4
  · cases h; exact okT_5
  · cases h; exact okT_9
  · cases h; exact okT_12
  · cases h; exact okT_21
  · cases h; exact okT_22
  · cases h; exact okT_23
  · cases h; exact okT_25
  · cases h; exact okT_29
  · cases h; exact okT_30
  · cases h; exact okT_32
  · cases h; exact okT_34
  · cases h; exact okT_36
  · cases h; exact okT_37
  · cases h; exact okT_38
  · cases h; exact okT_39
  · cases h; exact okT_42
  · cases h; exact okT_43
  · cases h; exact okT_46
  · cases h; exact okT_47
  · cases h; exact okT_48
  · cases h; exact okT_53
  · cases h; exact okT_54
  · cases h; exact okT_56
  · cases h; exact okT_58
  · cases h; exact okT_59
  · cases h; exact okT_60
  · cases h; exact okT_61
  · cases h; exact okT_72
  · cases h; exact okT_73
  · cases h; exact okT_76
  · cases h; exact okT_77
  · cases h; exact okT_79
  · cases h; exact okT_80
  · cases h; exact okT_85
  · cases h; exact okT_88
  · cases h; exact okT_101
  · cases h; exact okT_104
  · cases h; exact okT_105
  · cases h; exact okT_113
  · cases h; exact okT_115
  · cases h; exact okT_119
  · cases h; exact okT_121
  · cases h; exact okT_122
  · cases h; exact okT_123
  · cases h; exact okT_126
  · cases h; exact okT_127
  · cases h; exact okT_128
  · cases h; exact okT_129
  · cases h; exact okT_133
  · cases h; exact okT_143
  · cases h; exact okT_147
  · cases h

@[simp] theorem T_2 : T 2 = some ⟨.int .i64, 1, 8, [.int .i64 0], false, false⟩ := rfl
@[simp] theorem D_2 : descOf T 2 = some (.int .i64) := rfl
@[simp] theorem S_2 : sizeT T 2 = some 1 := rfl
@[simp] theorem T_3 : T 3 = some ⟨.int .i64, 1, 8, [.int .i64 0], false, false⟩ := rfl
@[simp] theorem D_3 : descOf T 3 = some (.int .i64) := rfl
@[simp] theorem S_3 : sizeT T 3 = some 1 := rfl
@[simp] theorem T_4 : T 4 = some ⟨.bool, 1, 1, [.bool false], false, false⟩ := rfl
@[simp] theorem D_4 : descOf T 4 = some (.bool) := rfl
@[simp] theorem S_4 : sizeT T 4 = some 1 := rfl
@[simp] theorem T_5 : T 5 = some ⟨.int .u8, 1, 1, [.int .u8 0], false, false⟩ := rfl
@[simp] theorem D_5 : descOf T 5 = some (.int .u8) := rfl
@[simp] theorem S_5 : sizeT T 5 = some 1 := rfl
@[simp] theorem T_9 : T 9 = some ⟨.string, 1, 16, [.str .empty], false, false⟩ := rfl
@[simp] theorem D_9 : descOf T 9 = some (.string) := rfl
@[simp] theorem S_9 : sizeT T 9 = some 1 := rfl
@[simp] theorem T_12 : T 12 = some ⟨.int .u64, 1, 8, [.int .u64 0], false, false⟩ := rfl
@[simp] theorem D_12 : descOf T 12 = some (.int .u64) := rfl
@[simp] theorem S_12 : sizeT T 12 = some 1 := rfl
@[simp] theorem T_21 : T 21 = some ⟨.int .i32, 1, 4, [.int .i32 0], false, false⟩ := rfl
@[simp] theorem D_21 : descOf T 21 = some (.int .i32) := rfl
@[simp] theorem S_21 : sizeT T 21 = some 1 := rfl
@[simp] theorem T_22 : T 22 = some ⟨.slice 30, 1, 24, [.sl 0 1 []], false, false⟩ := rfl
@[simp] theorem D_22 : descOf T 22 = some (.slice 30) := rfl
@[simp] theorem S_22 : sizeT T 22 = some 1 := rfl
@[simp] theorem T_23 : T 23 = some ⟨.pointer 61, 1, 8, [.pnil], false, false⟩ := rfl
@[simp] theorem D_23 : descOf T 23 = some (.pointer 61) := rfl
@[simp] theorem S_23 : sizeT T 23 = some 1 := rfl
@[simp] theorem T_25 : T 25 = some ⟨.pointer 39, 1, 8, [.pnil], false, false⟩ := rfl
@[simp] theorem D_25 : descOf T 25 = some (.pointer 39) := rfl
@[simp] theorem S_25 : sizeT T 25 = some 1 := rfl
@[simp] theorem T_29 : T 29 = some ⟨.struct #[⟨ "Which", 3, 0, false, "", "", 0⟩, ⟨ "A", 3, 1, false, "", "", 8⟩, ⟨ "B", 3, 2, false, "", "", 16⟩], 3, 24, [.int .i64 0, .int .i64 0, .int .i64 0], true, true⟩ := rfl
@[simp] theorem D_29 : descOf T 29 = some (.struct #[⟨ "Which", 3, 0, false, "", "", 0⟩, ⟨ "A", 3, 1, false, "", "", 8⟩, ⟨ "B", 3, 2, false, "", "", 16⟩]) := rfl
@[simp] theorem S_29 : sizeT T 29 = some 3 := rfl
@[simp] theorem T_30 : T 30 = some ⟨.struct #[⟨ "Which", 3, 0, false, "", "", 0⟩, ⟨ "A", 3, 1, false, "", "", 8⟩, ⟨ "B", 3, 2, false, "", "", 16⟩], 3, 24, [.int .i64 0, .int .i64 0, .int .i64 0], true, true⟩ := rfl
@[simp] theorem D_30 : descOf T 30 = some (.struct #[⟨ "Which", 3, 0, false, "", "", 0⟩, ⟨ "A", 3, 1, false, "", "", 8⟩, ⟨ "B", 3, 2, false, "", "", 16⟩]) := rfl
@[simp] theorem S_30 : sizeT T 30 = some 3 := rfl
@[simp] theorem T_32 : T 32 = some ⟨.slice 5, 1, 24, [.sl 0 1 []], false, false⟩ := rfl
@[simp] theorem D_32 : descOf T 32 = some (.slice 5) := rfl
@[simp] theorem S_32 : sizeT T 32 = some 1 := rfl
@[simp] theorem T_34 : T 34 = some ⟨.int .i64, 1, 8, [.int .i64 0], false, false⟩ := rfl
@[simp] theorem D_34 : descOf T 34 = some (.int .i64) := rfl
@[simp] theorem S_34 : sizeT T 34 = some 1 := rfl
@[simp] theorem T_36 : T 36 = some ⟨.pointer 47, 1, 8, [.pnil], false, false⟩ := rfl
@[simp] theorem D_36 : descOf T 36 = some (.pointer 47) := rfl
@[simp] theorem S_36 : sizeT T 36 = some 1 := rfl
@[simp] theorem T_37 : T 37 = some ⟨.slice 73, 1, 24, [.sl 0 1 []], false, false⟩ := rfl
@[simp] theorem D_37 : descOf T 37 = some (.slice 73) := rfl
@[simp] theorem S_37 : sizeT T 37 = some 1 := rfl
@[simp] theorem T_38 : T 38 = some ⟨.struct #[⟨ "D", 36, 0, false, "", "", 0⟩, ⟨ "Term", 3, 1, false, "", "", 8⟩, ⟨ "Vote", 3, 2, false, "", "", 16⟩, ⟨ "L", 37, 3, false, "", "", 24⟩], 4, 48, [.pnil, .int .i64 0, .int .i64 0, .sl 0 1 []], true, false⟩ := rfl
@[simp] theorem D_38 : descOf T 38 = some (.struct #[⟨ "D", 36, 0, false, "", "", 0⟩, ⟨ "Term", 3, 1, false, "", "", 8⟩, ⟨ "Vote", 3, 2, false, "", "", 16⟩, ⟨ "L", 37, 3, false, "", "", 24⟩]) := rfl
@[simp] theorem S_38 : sizeT T 38 = some 4 := rfl
@[simp] theorem T_39 : T 39 = some ⟨.struct #[⟨ "D", 36, 0, false, "", "", 0⟩, ⟨ "Term", 3, 1, false, "", "", 8⟩, ⟨ "Vote", 3, 2, false, "", "", 16⟩, ⟨ "L", 37, 3, false, "", "", 24⟩], 4, 48, [.pnil, .int .i64 0, .int .i64 0, .sl 0 1 []], true, false⟩ := rfl
@[simp] theorem D_39 : descOf T 39 = some (.struct #[⟨ "D", 36, 0, false, "", "", 0⟩, ⟨ "Term", 3, 1, false, "", "", 8⟩, ⟨ "Vote", 3, 2, false, "", "", 16⟩, ⟨ "L", 37, 3, false, "", "", 24⟩]) := rfl
@[simp] theorem S_39 : sizeT T 39 = some 4 := rfl
@[simp] theorem T_42 : T 42 = some ⟨.struct #[⟨ "Kind", 3, 0, false, "", "", 0⟩, ⟨ "Tick", 3, 1, false, "", "", 8⟩, ⟨ "Tenant", 3, 2, false, "", "", 16⟩, ⟨ "Cell", 3, 3, false, "", "", 24⟩, ⟨ "Other", 3, 4, false, "", "", 32⟩, ⟨ "Epoch", 3, 5, false, "", "", 40⟩, ⟨ "From", 3, 6, false, "", "", 48⟩, ⟨ "Until", 3, 7, false, "", "", 56⟩, ⟨ "N", 3, 8, false, "", "", 64⟩], 9, 72, [.int .i64 0, .int .i64 0, .int .i64 0, .int .i64 0, .int .i64 0, .int .i64 0, .int .i64 0, .int .i64 0, .int .i64 0], true, true⟩ := rfl
@[simp] theorem D_42 : descOf T 42 = some (.struct #[⟨ "Kind", 3, 0, false, "", "", 0⟩, ⟨ "Tick", 3, 1, false, "", "", 8⟩, ⟨ "Tenant", 3, 2, false, "", "", 16⟩, ⟨ "Cell", 3, 3, false, "", "", 24⟩, ⟨ "Other", 3, 4, false, "", "", 32⟩, ⟨ "Epoch", 3, 5, false, "", "", 40⟩, ⟨ "From", 3, 6, false, "", "", 48⟩, ⟨ "Until", 3, 7, false, "", "", 56⟩, ⟨ "N", 3, 8, false, "", "", 64⟩]) := rfl
@[simp] theorem S_42 : sizeT T 42 = some 9 := rfl
@[simp] theorem T_43 : T 43 = some ⟨.struct #[⟨ "Kind", 3, 0, false, "", "", 0⟩, ⟨ "Tick", 3, 1, false, "", "", 8⟩, ⟨ "Tenant", 3, 2, false, "", "", 16⟩, ⟨ "Cell", 3, 3, false, "", "", 24⟩, ⟨ "Other", 3, 4, false, "", "", 32⟩, ⟨ "Epoch", 3, 5, false, "", "", 40⟩, ⟨ "From", 3, 6, false, "", "", 48⟩, ⟨ "Until", 3, 7, false, "", "", 56⟩, ⟨ "N", 3, 8, false, "", "", 64⟩], 9, 72, [.int .i64 0, .int .i64 0, .int .i64 0, .int .i64 0, .int .i64 0, .int .i64 0, .int .i64 0, .int .i64 0, .int .i64 0], true, true⟩ := rfl
@[simp] theorem D_43 : descOf T 43 = some (.struct #[⟨ "Kind", 3, 0, false, "", "", 0⟩, ⟨ "Tick", 3, 1, false, "", "", 8⟩, ⟨ "Tenant", 3, 2, false, "", "", 16⟩, ⟨ "Cell", 3, 3, false, "", "", 24⟩, ⟨ "Other", 3, 4, false, "", "", 32⟩, ⟨ "Epoch", 3, 5, false, "", "", 40⟩, ⟨ "From", 3, 6, false, "", "", 48⟩, ⟨ "Until", 3, 7, false, "", "", 56⟩, ⟨ "N", 3, 8, false, "", "", 64⟩]) := rfl
@[simp] theorem S_43 : sizeT T 43 = some 9 := rfl
@[simp] theorem T_46 : T 46 = some ⟨.struct #[⟨ "B", 32, 0, false, "", "", 0⟩, ⟨ "D", 3, 1, false, "", "", 24⟩], 2, 32, [.sl 0 1 [], .int .i64 0], true, false⟩ := rfl
@[simp] theorem D_46 : descOf T 46 = some (.struct #[⟨ "B", 32, 0, false, "", "", 0⟩, ⟨ "D", 3, 1, false, "", "", 24⟩]) := rfl
@[simp] theorem S_46 : sizeT T 46 = some 2 := rfl
@[simp] theorem T_47 : T 47 = some ⟨.struct #[⟨ "B", 32, 0, false, "", "", 0⟩, ⟨ "D", 3, 1, false, "", "", 24⟩], 2, 32, [.sl 0 1 [], .int .i64 0], true, false⟩ := rfl
@[simp] theorem D_47 : descOf T 47 = some (.struct #[⟨ "B", 32, 0, false, "", "", 0⟩, ⟨ "D", 3, 1, false, "", "", 24⟩]) := rfl
@[simp] theorem S_47 : sizeT T 47 = some 2 := rfl
@[simp] theorem T_48 : T 48 = some ⟨.slice 32, 1, 24, [.sl 0 1 []], false, false⟩ := rfl
@[simp] theorem D_48 : descOf T 48 = some (.slice 32) := rfl
@[simp] theorem S_48 : sizeT T 48 = some 1 := rfl
@[simp] theorem T_53 : T 53 = some ⟨.struct #[⟨ "term", 3, 0, false, "", "cellplane/journal", 0⟩, ⟨ "vote", 3, 1, false, "", "cellplane/journal", 8⟩, ⟨ "log", 37, 2, false, "", "cellplane/journal", 16⟩], 3, 40, [.int .i64 0, .int .i64 0, .sl 0 1 []], true, false⟩ := rfl
@[simp] theorem D_53 : descOf T 53 = some (.struct #[⟨ "term", 3, 0, false, "", "cellplane/journal", 0⟩, ⟨ "vote", 3, 1, false, "", "cellplane/journal", 8⟩, ⟨ "log", 37, 2, false, "", "cellplane/journal", 16⟩]) := rfl
@[simp] theorem S_53 : sizeT T 53 = some 3 := rfl
@[simp] theorem T_54 : T 54 = some ⟨.struct #[⟨ "term", 3, 0, false, "", "cellplane/journal", 0⟩, ⟨ "vote", 3, 1, false, "", "cellplane/journal", 8⟩, ⟨ "log", 37, 2, false, "", "cellplane/journal", 16⟩], 3, 40, [.int .i64 0, .int .i64 0, .sl 0 1 []], true, false⟩ := rfl
@[simp] theorem D_54 : descOf T 54 = some (.struct #[⟨ "term", 3, 0, false, "", "cellplane/journal", 0⟩, ⟨ "vote", 3, 1, false, "", "cellplane/journal", 8⟩, ⟨ "log", 37, 2, false, "", "cellplane/journal", 16⟩]) := rfl
@[simp] theorem S_54 : sizeT T 54 = some 3 := rfl
@[simp] theorem T_56 : T 56 = some ⟨.pointer 77, 1, 8, [.pnil], false, false⟩ := rfl
@[simp] theorem D_56 : descOf T 56 = some (.pointer 77) := rfl
@[simp] theorem S_56 : sizeT T 56 = some 1 := rfl
@[simp] theorem T_58 : T 58 = some ⟨.struct #[⟨ "Disk", 56, 0, true, "", "", 0⟩], 1, 8, [.pnil], true, false⟩ := rfl
@[simp] theorem D_58 : descOf T 58 = some (.struct #[⟨ "Disk", 56, 0, true, "", "", 0⟩]) := rfl
@[simp] theorem S_58 : sizeT T 58 = some 1 := rfl
@[simp] theorem T_59 : T 59 = some ⟨.struct #[⟨ "Disk", 56, 0, true, "", "", 0⟩], 1, 8, [.pnil], true, false⟩ := rfl
@[simp] theorem D_59 : descOf T 59 = some (.struct #[⟨ "Disk", 56, 0, true, "", "", 0⟩]) := rfl
@[simp] theorem S_59 : sizeT T 59 = some 1 := rfl
@[simp] theorem T_60 : T 60 = some ⟨.struct #[⟨ "memory", 54, 0, true, "", "cellplane/journal", 0⟩, ⟨ "tape", 59, 3, false, "", "cellplane/journal", 40⟩], 4, 48, [.int .i64 0, .int .i64 0, .sl 0 1 [], .pnil], true, false⟩ := rfl
@[simp] theorem D_60 : descOf T 60 = some (.struct #[⟨ "memory", 54, 0, true, "", "cellplane/journal", 0⟩, ⟨ "tape", 59, 3, false, "", "cellplane/journal", 40⟩]) := rfl
@[simp] theorem S_60 : sizeT T 60 = some 4 := rfl
@[simp] theorem T_61 : T 61 = some ⟨.struct #[⟨ "memory", 54, 0, true, "", "cellplane/journal", 0⟩, ⟨ "tape", 59, 3, false, "", "cellplane/journal", 40⟩], 4, 48, [.int .i64 0, .int .i64 0, .sl 0 1 [], .pnil], true, false⟩ := rfl
@[simp] theorem D_61 : descOf T 61 = some (.struct #[⟨ "memory", 54, 0, true, "", "cellplane/journal", 0⟩, ⟨ "tape", 59, 3, false, "", "cellplane/journal", 40⟩]) := rfl
@[simp] theorem S_61 : sizeT T 61 = some 4 := rfl
@[simp] theorem T_72 : T 72 = some ⟨.struct #[⟨ "Term", 3, 0, false, "", "", 0⟩, ⟨ "Entry", 43, 1, false, "", "", 8⟩], 10, 80, [.int .i64 0, .int .i64 0, .int .i64 0, .int .i64 0, .int .i64 0, .int .i64 0, .int .i64 0, .int .i64 0, .int .i64 0, .int .i64 0], true, true⟩ := rfl
@[simp] theorem D_72 : descOf T 72 = some (.struct #[⟨ "Term", 3, 0, false, "", "", 0⟩, ⟨ "Entry", 43, 1, false, "", "", 8⟩]) := rfl
@[simp] theorem S_72 : sizeT T 72 = some 10 := rfl
@[simp] theorem T_73 : T 73 = some ⟨.struct #[⟨ "Term", 3, 0, false, "", "", 0⟩, ⟨ "Entry", 43, 1, false, "", "", 8⟩], 10, 80, [.int .i64 0, .int .i64 0, .int .i64 0, .int .i64 0, .int .i64 0, .int .i64 0, .int .i64 0, .int .i64 0, .int .i64 0, .int .i64 0], true, true⟩ := rfl
@[simp] theorem D_73 : descOf T 73 = some (.struct #[⟨ "Term", 3, 0, false, "", "", 0⟩, ⟨ "Entry", 43, 1, false, "", "", 8⟩]) := rfl
@[simp] theorem S_73 : sizeT T 73 = some 10 := rfl
@[simp] theorem T_76 : T 76 = some ⟨.struct #[⟨ "data", 32, 0, false, "", "cellplane/disk", 0⟩, ⟨ "durable", 3, 1, false, "", "cellplane/disk", 24⟩], 2, 32, [.sl 0 1 [], .int .i64 0], true, false⟩ := rfl
@[simp] theorem D_76 : descOf T 76 = some (.struct #[⟨ "data", 32, 0, false, "", "cellplane/disk", 0⟩, ⟨ "durable", 3, 1, false, "", "cellplane/disk", 24⟩]) := rfl
@[simp] theorem S_76 : sizeT T 76 = some 2 := rfl
@[simp] theorem T_77 : T 77 = some ⟨.struct #[⟨ "data", 32, 0, false, "", "cellplane/disk", 0⟩, ⟨ "durable", 3, 1, false, "", "cellplane/disk", 24⟩], 2, 32, [.sl 0 1 [], .int .i64 0], true, false⟩ := rfl
@[simp] theorem D_77 : descOf T 77 = some (.struct #[⟨ "data", 32, 0, false, "", "cellplane/disk", 0⟩, ⟨ "durable", 3, 1, false, "", "cellplane/disk", 24⟩]) := rfl
@[simp] theorem S_77 : sizeT T 77 = some 2 := rfl
@[simp] theorem T_79 : T 79 = some ⟨.struct #[⟨ "kind", 3, 0, false, "", "cellplane/journal", 0⟩, ⟨ "term", 3, 1, false, "", "cellplane/journal", 8⟩, ⟨ "n", 3, 2, false, "", "cellplane/journal", 16⟩, ⟨ "entry", 43, 3, false, "", "cellplane/journal", 24⟩], 12, 96, [.int .i64 0, .int .i64 0, .int .i64 0, .int .i64 0, .int .i64 0, .int .i64 0, .int .i64 0, .int .i64 0, .int .i64 0, .int .i64 0, .int .i64 0, .int .i64 0], true, true⟩ := rfl
@[simp] theorem D_79 : descOf T 79 = some (.struct #[⟨ "kind", 3, 0, false, "", "cellplane/journal", 0⟩, ⟨ "term", 3, 1, false, "", "cellplane/journal", 8⟩, ⟨ "n", 3, 2, false, "", "cellplane/journal", 16⟩, ⟨ "entry", 43, 3, false, "", "cellplane/journal", 24⟩]) := rfl
@[simp] theorem S_79 : sizeT T 79 = some 12 := rfl
@[simp] theorem T_80 : T 80 = some ⟨.struct #[⟨ "kind", 3, 0, false, "", "cellplane/journal", 0⟩, ⟨ "term", 3, 1, false, "", "cellplane/journal", 8⟩, ⟨ "n", 3, 2, false, "", "cellplane/journal", 16⟩, ⟨ "entry", 43, 3, false, "", "cellplane/journal", 24⟩], 12, 96, [.int .i64 0, .int .i64 0, .int .i64 0, .int .i64 0, .int .i64 0, .int .i64 0, .int .i64 0, .int .i64 0, .int .i64 0, .int .i64 0, .int .i64 0, .int .i64 0], true, true⟩ := rfl
@[simp] theorem D_80 : descOf T 80 = some (.struct #[⟨ "kind", 3, 0, false, "", "cellplane/journal", 0⟩, ⟨ "term", 3, 1, false, "", "cellplane/journal", 8⟩, ⟨ "n", 3, 2, false, "", "cellplane/journal", 16⟩, ⟨ "entry", 43, 3, false, "", "cellplane/journal", 24⟩]) := rfl
@[simp] theorem S_80 : sizeT T 80 = some 12 := rfl
@[simp] theorem T_85 : T 85 = some ⟨.int .u64, 1, 8, [.int .u64 0], false, false⟩ := rfl
@[simp] theorem D_85 : descOf T 85 = some (.int .u64) := rfl
@[simp] theorem S_85 : sizeT T 85 = some 1 := rfl
@[simp] theorem T_88 : T 88 = some ⟨.slice 3, 1, 24, [.sl 0 1 []], false, false⟩ := rfl
@[simp] theorem D_88 : descOf T 88 = some (.slice 3) := rfl
@[simp] theorem S_88 : sizeT T 88 = some 1 := rfl
@[simp] theorem T_101 : T 101 = some ⟨.pointer 54, 1, 8, [.pnil], false, false⟩ := rfl
@[simp] theorem D_101 : descOf T 101 = some (.pointer 54) := rfl
@[simp] theorem S_101 : sizeT T 101 = some 1 := rfl
@[simp] theorem T_104 : T 104 = some ⟨.int .u64, 1, 8, [.int .u64 0], false, false⟩ := rfl
@[simp] theorem D_104 : descOf T 104 = some (.int .u64) := rfl
@[simp] theorem S_104 : sizeT T 104 = some 1 := rfl
@[simp] theorem T_105 : T 105 = some ⟨.array 9 3, 9, 72, [.int .i64 0, .int .i64 0, .int .i64 0, .int .i64 0, .int .i64 0, .int .i64 0, .int .i64 0, .int .i64 0, .int .i64 0], true, false⟩ := rfl
@[simp] theorem D_105 : descOf T 105 = some (.array 9 3) := rfl
@[simp] theorem S_105 : sizeT T 105 = some 9 := rfl
@[simp] theorem T_113 : T 113 = some ⟨.pointer 3, 1, 8, [.pnil], false, false⟩ := rfl
@[simp] theorem D_113 : descOf T 113 = some (.pointer 3) := rfl
@[simp] theorem S_113 : sizeT T 113 = some 1 := rfl
@[simp] theorem T_115 : T 115 = some ⟨.pointer 43, 1, 8, [.pnil], false, false⟩ := rfl
@[simp] theorem D_115 : descOf T 115 = some (.pointer 43) := rfl
@[simp] theorem S_115 : sizeT T 115 = some 1 := rfl
@[simp] theorem T_119 : T 119 = some ⟨.slice 113, 1, 24, [.sl 0 1 []], false, false⟩ := rfl
@[simp] theorem D_119 : descOf T 119 = some (.slice 113) := rfl
@[simp] theorem S_119 : sizeT T 119 = some 1 := rfl
@[simp] theorem T_121 : T 121 = some ⟨.struct #[⟨ "tenants", 3, 0, false, "", "cellplane/entry", 0⟩, ⟨ "cells", 3, 1, false, "", "cellplane/entry", 8⟩, ⟨ "regions", 3, 2, false, "", "cellplane/entry", 16⟩, ⟨ "versions", 3, 3, false, "", "cellplane/entry", 24⟩], 4, 32, [.int .i64 0, .int .i64 0, .int .i64 0, .int .i64 0], true, true⟩ := rfl
@[simp] theorem D_121 : descOf T 121 = some (.struct #[⟨ "tenants", 3, 0, false, "", "cellplane/entry", 0⟩, ⟨ "cells", 3, 1, false, "", "cellplane/entry", 8⟩, ⟨ "regions", 3, 2, false, "", "cellplane/entry", 16⟩, ⟨ "versions", 3, 3, false, "", "cellplane/entry", 24⟩]) := rfl
@[simp] theorem S_121 : sizeT T 121 = some 4 := rfl
@[simp] theorem T_122 : T 122 = some ⟨.struct #[⟨ "tenants", 3, 0, false, "", "cellplane/entry", 0⟩, ⟨ "cells", 3, 1, false, "", "cellplane/entry", 8⟩, ⟨ "regions", 3, 2, false, "", "cellplane/entry", 16⟩, ⟨ "versions", 3, 3, false, "", "cellplane/entry", 24⟩], 4, 32, [.int .i64 0, .int .i64 0, .int .i64 0, .int .i64 0], true, true⟩ := rfl
@[simp] theorem D_122 : descOf T 122 = some (.struct #[⟨ "tenants", 3, 0, false, "", "cellplane/entry", 0⟩, ⟨ "cells", 3, 1, false, "", "cellplane/entry", 8⟩, ⟨ "regions", 3, 2, false, "", "cellplane/entry", 16⟩, ⟨ "versions", 3, 3, false, "", "cellplane/entry", 24⟩]) := rfl
@[simp] theorem S_122 : sizeT T 122 = some 4 := rfl
@[simp] theorem T_123 : T 123 = some ⟨.array 9 113, 9, 72, [.pnil, .pnil, .pnil, .pnil, .pnil, .pnil, .pnil, .pnil, .pnil], true, false⟩ := rfl
@[simp] theorem D_123 : descOf T 123 = some (.array 9 113) := rfl
@[simp] theorem S_123 : sizeT T 123 = some 9 := rfl
@[simp] theorem T_126 : T 126 = some ⟨.struct #[⟨ "low", 3, 0, false, "", "cellplane/entry", 0⟩, ⟨ "high", 3, 1, false, "", "cellplane/entry", 8⟩], 2, 16, [.int .i64 0, .int .i64 0], true, true⟩ := rfl
@[simp] theorem D_126 : descOf T 126 = some (.struct #[⟨ "low", 3, 0, false, "", "cellplane/entry", 0⟩, ⟨ "high", 3, 1, false, "", "cellplane/entry", 8⟩]) := rfl
@[simp] theorem S_126 : sizeT T 126 = some 2 := rfl
@[simp] theorem T_127 : T 127 = some ⟨.struct #[⟨ "low", 3, 0, false, "", "cellplane/entry", 0⟩, ⟨ "high", 3, 1, false, "", "cellplane/entry", 8⟩], 2, 16, [.int .i64 0, .int .i64 0], true, true⟩ := rfl
@[simp] theorem D_127 : descOf T 127 = some (.struct #[⟨ "low", 3, 0, false, "", "cellplane/entry", 0⟩, ⟨ "high", 3, 1, false, "", "cellplane/entry", 8⟩]) := rfl
@[simp] theorem S_127 : sizeT T 127 = some 2 := rfl
@[simp] theorem T_128 : T 128 = some ⟨.struct #[⟨ "tenant", 127, 0, false, "", "cellplane/entry", 0⟩, ⟨ "cell", 127, 2, false, "", "cellplane/entry", 16⟩, ⟨ "other", 127, 4, false, "", "cellplane/entry", 32⟩, ⟨ "epoch", 127, 6, false, "", "cellplane/entry", 48⟩, ⟨ "from", 127, 8, false, "", "cellplane/entry", 64⟩, ⟨ "until", 127, 10, false, "", "cellplane/entry", 80⟩, ⟨ "n", 127, 12, false, "", "cellplane/entry", 96⟩], 14, 112, [.int .i64 0, .int .i64 0, .int .i64 0, .int .i64 0, .int .i64 0, .int .i64 0, .int .i64 0, .int .i64 0, .int .i64 0, .int .i64 0, .int .i64 0, .int .i64 0, .int .i64 0, .int .i64 0], true, true⟩ := rfl
@[simp] theorem D_128 : descOf T 128 = some (.struct #[⟨ "tenant", 127, 0, false, "", "cellplane/entry", 0⟩, ⟨ "cell", 127, 2, false, "", "cellplane/entry", 16⟩, ⟨ "other", 127, 4, false, "", "cellplane/entry", 32⟩, ⟨ "epoch", 127, 6, false, "", "cellplane/entry", 48⟩, ⟨ "from", 127, 8, false, "", "cellplane/entry", 64⟩, ⟨ "until", 127, 10, false, "", "cellplane/entry", 80⟩, ⟨ "n", 127, 12, false, "", "cellplane/entry", 96⟩]) := rfl
@[simp] theorem S_128 : sizeT T 128 = some 14 := rfl
@[simp] theorem T_129 : T 129 = some ⟨.struct #[⟨ "tenant", 127, 0, false, "", "cellplane/entry", 0⟩, ⟨ "cell", 127, 2, false, "", "cellplane/entry", 16⟩, ⟨ "other", 127, 4, false, "", "cellplane/entry", 32⟩, ⟨ "epoch", 127, 6, false, "", "cellplane/entry", 48⟩, ⟨ "from", 127, 8, false, "", "cellplane/entry", 64⟩, ⟨ "until", 127, 10, false, "", "cellplane/entry", 80⟩, ⟨ "n", 127, 12, false, "", "cellplane/entry", 96⟩], 14, 112, [.int .i64 0, .int .i64 0, .int .i64 0, .int .i64 0, .int .i64 0, .int .i64 0, .int .i64 0, .int .i64 0, .int .i64 0, .int .i64 0, .int .i64 0, .int .i64 0, .int .i64 0, .int .i64 0], true, true⟩ := rfl
@[simp] theorem D_129 : descOf T 129 = some (.struct #[⟨ "tenant", 127, 0, false, "", "cellplane/entry", 0⟩, ⟨ "cell", 127, 2, false, "", "cellplane/entry", 16⟩, ⟨ "other", 127, 4, false, "", "cellplane/entry", 32⟩, ⟨ "epoch", 127, 6, false, "", "cellplane/entry", 48⟩, ⟨ "from", 127, 8, false, "", "cellplane/entry", 64⟩, ⟨ "until", 127, 10, false, "", "cellplane/entry", 80⟩, ⟨ "n", 127, 12, false, "", "cellplane/entry", 96⟩]) := rfl
@[simp] theorem S_129 : sizeT T 129 = some 14 := rfl
@[simp] theorem T_133 : T 133 = some ⟨.slice 9, 1, 24, [.sl 0 1 []], false, false⟩ := rfl
@[simp] theorem D_133 : descOf T 133 = some (.slice 9) := rfl
@[simp] theorem S_133 : sizeT T 133 = some 1 := rfl
@[simp] theorem T_143 : T 143 = some ⟨.int .u32, 1, 4, [.int .u32 0], false, false⟩ := rfl
@[simp] theorem D_143 : descOf T 143 = some (.int .u32) := rfl
@[simp] theorem S_143 : sizeT T 143 = some 1 := rfl
@[simp] theorem T_147 : T 147 = some ⟨.pointer 5, 1, 8, [.pnil], false, false⟩ := rfl
@[simp] theorem D_147 : descOf T 147 = some (.pointer 5) := rfl
@[simp] theorem S_147 : sizeT T 147 = some 1 := rfl

def C0 : FuncId → List V → List AObj → Option CRes := fun _ _ _ => none
theorem C0_ok : SpecsOk Tryz.prog C0 := fun f ⟨_, _, _, h⟩ => by cases h
theorem follows : Tryz.prog.follows .mixedOrders = true := by kernel_rfl
end Go.Proofs.YtlelalnahlpcpaaGreat
