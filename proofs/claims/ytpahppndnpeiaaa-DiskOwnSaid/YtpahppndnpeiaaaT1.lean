/-
  The program's types.
-/
import Derived.Test.YtpahppndnpeiaaaRows
import Derived.Test.YtpahppndnpeiaaaPLC
import Derived.KernelRfl
set_option linter.unusedSimpArgs false
set_option linter.unusedVariables false
namespace Go.Proofs.Ytpahppndnpeiaaa
open Go.Lift

theorem typeOk_of {P : Program} {t : TypeId} {ti : TI} (z : Value) (h1 : P.underlying t = some ti.desc) (h2 : (P.info? t).map (fun i => (i.zero, i.size, i.bytes)) = some (some z, ti.size, ti.bytes)) (h3 : z.cells.size = ti.size ∧ z.cells.toList.map ofCell = ti.zero)
    (h4 : ti.agg = (match ti.desc with | .struct _ | .array _ _ => true | _ => false)) (h5 : ti.eqc = true → P.stoodInHeld t = false ∧ P.eqGuardType P.depth t = false) : TypeOk P t ti := by
  refine ⟨h1, ?_, h4, h5⟩
  cases hi : P.info? t with
  | none => rw [hi] at h2; cases h2
  | some i =>
    rw [hi] at h2
    simp only [Option.map_some, Option.some.injEq, Prod.mk.injEq] at h2
    exact ⟨i, z, rfl, h2.2.1, h2.2.2, h2.1, h3.1, h3.2⟩

def T (t : TypeId) : Option TI := match t with
  | 2 => some ⟨.int .i64, 1, 8, [.int .i64 0], false, false⟩
  | 3 => some ⟨.int .i64, 1, 8, [.int .i64 0], false, false⟩
  | 4 => some ⟨.bool, 1, 1, [.bool false], false, false⟩
  | 5 => some ⟨.int .u8, 1, 1, [.int .u8 0], false, false⟩
  | 9 => some ⟨.string, 1, 16, [.str .empty], false, false⟩
  | 12 => some ⟨.int .u64, 1, 8, [.int .u64 0], false, false⟩
  | 21 => some ⟨.int .i32, 1, 4, [.int .i32 0], false, false⟩
  | 22 => some ⟨.slice 32, 1, 24, [.sl 0 1 []], false, false⟩
  | 23 => some ⟨.pointer 47, 1, 8, [.pnil], false, false⟩
  | 25 => some ⟨.pointer 36, 1, 8, [.pnil], false, false⟩
  | 30 => some ⟨.slice 5, 1, 24, [.sl 0 1 []], false, false⟩
  | 31 => some ⟨.struct #[⟨ "Which", 3, 0, false, "", "", 0⟩, ⟨ "N", 3, 1, false, "", "", 8⟩, ⟨ "B", 30, 2, false, "", "", 16⟩], 3, 40, [.int .i64 0, .int .i64 0, .sl 0 1 []], true, false⟩
  | 32 => some ⟨.struct #[⟨ "Which", 3, 0, false, "", "", 0⟩, ⟨ "N", 3, 1, false, "", "", 8⟩, ⟨ "B", 30, 2, false, "", "", 16⟩], 3, 40, [.int .i64 0, .int .i64 0, .sl 0 1 []], true, false⟩
  | 35 => some ⟨.struct #[⟨ "B", 30, 0, false, "", "", 0⟩, ⟨ "D", 3, 1, false, "", "", 24⟩], 2, 32, [.sl 0 1 [], .int .i64 0], true, false⟩
  | 36 => some ⟨.struct #[⟨ "B", 30, 0, false, "", "", 0⟩, ⟨ "D", 3, 1, false, "", "", 24⟩], 2, 32, [.sl 0 1 [], .int .i64 0], true, false⟩
  | 44 => some ⟨.int .i64, 1, 8, [.int .i64 0], false, false⟩
  | 46 => some ⟨.struct #[⟨ "data", 30, 0, false, "", "cellplane/disk", 0⟩, ⟨ "durable", 3, 1, false, "", "cellplane/disk", 24⟩], 2, 32, [.sl 0 1 [], .int .i64 0], true, false⟩
  | 47 => some ⟨.struct #[⟨ "data", 30, 0, false, "", "cellplane/disk", 0⟩, ⟨ "durable", 3, 1, false, "", "cellplane/disk", 24⟩], 2, 32, [.sl 0 1 [], .int .i64 0], true, false⟩
  | 55 => some ⟨.int .u32, 1, 4, [.int .u32 0], false, false⟩
  | 59 => some ⟨.pointer 5, 1, 8, [.pnil], false, false⟩
  | _ => none

theorem okT_2 : TypeOk Try.prog 2 ⟨.int .i64, 1, 8, [.int .i64 0], false, false⟩ := typeOk_of (.int .i64 0) (by kernel_rfl) (by kernel_rfl) ⟨rfl, rfl⟩ rfl (fun h => by cases h)
theorem okT_3 : TypeOk Try.prog 3 ⟨.int .i64, 1, 8, [.int .i64 0], false, false⟩ := typeOk_of (.int .i64 0) (by kernel_rfl) (by kernel_rfl) ⟨rfl, rfl⟩ rfl (fun h => by cases h)
theorem okT_4 : TypeOk Try.prog 4 ⟨.bool, 1, 1, [.bool false], false, false⟩ := typeOk_of (.bool false) (by kernel_rfl) (by kernel_rfl) ⟨rfl, rfl⟩ rfl (fun h => by cases h)
theorem okT_5 : TypeOk Try.prog 5 ⟨.int .u8, 1, 1, [.int .u8 0], false, false⟩ := typeOk_of (.int .u8 0) (by kernel_rfl) (by kernel_rfl) ⟨rfl, rfl⟩ rfl (fun h => by cases h)
theorem okT_9 : TypeOk Try.prog 9 ⟨.string, 1, 16, [.str .empty], false, false⟩ := typeOk_of (.string .empty) (by kernel_rfl) (by kernel_rfl) ⟨rfl, rfl⟩ rfl (fun h => by cases h)
theorem okT_12 : TypeOk Try.prog 12 ⟨.int .u64, 1, 8, [.int .u64 0], false, false⟩ := typeOk_of (.int .u64 0) (by kernel_rfl) (by kernel_rfl) ⟨rfl, rfl⟩ rfl (fun h => by cases h)
theorem okT_21 : TypeOk Try.prog 21 ⟨.int .i32, 1, 4, [.int .i32 0], false, false⟩ := typeOk_of (.int .i32 0) (by kernel_rfl) (by kernel_rfl) ⟨rfl, rfl⟩ rfl (fun h => by cases h)
theorem okT_22 : TypeOk Try.prog 22 ⟨.slice 32, 1, 24, [.sl 0 1 []], false, false⟩ := typeOk_of (.slice none 0 0) (by kernel_rfl) (by kernel_rfl) ⟨rfl, rfl⟩ rfl (fun h => by cases h)
theorem okT_23 : TypeOk Try.prog 23 ⟨.pointer 47, 1, 8, [.pnil], false, false⟩ := typeOk_of (.pointer none) (by kernel_rfl) (by kernel_rfl) ⟨rfl, rfl⟩ rfl (fun h => by cases h)
theorem okT_25 : TypeOk Try.prog 25 ⟨.pointer 36, 1, 8, [.pnil], false, false⟩ := typeOk_of (.pointer none) (by kernel_rfl) (by kernel_rfl) ⟨rfl, rfl⟩ rfl (fun h => by cases h)
theorem okT_30 : TypeOk Try.prog 30 ⟨.slice 5, 1, 24, [.sl 0 1 []], false, false⟩ := typeOk_of (.slice none 0 0) (by kernel_rfl) (by kernel_rfl) ⟨rfl, rfl⟩ rfl (fun h => by cases h)
theorem okT_31 : TypeOk Try.prog 31 ⟨.struct #[⟨ "Which", 3, 0, false, "", "", 0⟩, ⟨ "N", 3, 1, false, "", "", 8⟩, ⟨ "B", 30, 2, false, "", "", 16⟩], 3, 40, [.int .i64 0, .int .i64 0, .sl 0 1 []], true, false⟩ := typeOk_of (.agg #[.int .i64 0, .int .i64 0, .slice none 0 0]) (by kernel_rfl) (by kernel_rfl) ⟨rfl, rfl⟩ rfl (fun h => by cases h)
theorem okT_32 : TypeOk Try.prog 32 ⟨.struct #[⟨ "Which", 3, 0, false, "", "", 0⟩, ⟨ "N", 3, 1, false, "", "", 8⟩, ⟨ "B", 30, 2, false, "", "", 16⟩], 3, 40, [.int .i64 0, .int .i64 0, .sl 0 1 []], true, false⟩ := typeOk_of (.agg #[.int .i64 0, .int .i64 0, .slice none 0 0]) (by kernel_rfl) (by kernel_rfl) ⟨rfl, rfl⟩ rfl (fun h => by cases h)
theorem okT_35 : TypeOk Try.prog 35 ⟨.struct #[⟨ "B", 30, 0, false, "", "", 0⟩, ⟨ "D", 3, 1, false, "", "", 24⟩], 2, 32, [.sl 0 1 [], .int .i64 0], true, false⟩ := typeOk_of (.agg #[.slice none 0 0, .int .i64 0]) (by kernel_rfl) (by kernel_rfl) ⟨rfl, rfl⟩ rfl (fun h => by cases h)
theorem okT_36 : TypeOk Try.prog 36 ⟨.struct #[⟨ "B", 30, 0, false, "", "", 0⟩, ⟨ "D", 3, 1, false, "", "", 24⟩], 2, 32, [.sl 0 1 [], .int .i64 0], true, false⟩ := typeOk_of (.agg #[.slice none 0 0, .int .i64 0]) (by kernel_rfl) (by kernel_rfl) ⟨rfl, rfl⟩ rfl (fun h => by cases h)
theorem okT_44 : TypeOk Try.prog 44 ⟨.int .i64, 1, 8, [.int .i64 0], false, false⟩ := typeOk_of (.int .i64 0) (by kernel_rfl) (by kernel_rfl) ⟨rfl, rfl⟩ rfl (fun h => by cases h)
theorem okT_46 : TypeOk Try.prog 46 ⟨.struct #[⟨ "data", 30, 0, false, "", "cellplane/disk", 0⟩, ⟨ "durable", 3, 1, false, "", "cellplane/disk", 24⟩], 2, 32, [.sl 0 1 [], .int .i64 0], true, false⟩ := typeOk_of (.agg #[.slice none 0 0, .int .i64 0]) (by kernel_rfl) (by kernel_rfl) ⟨rfl, rfl⟩ rfl (fun h => by cases h)
theorem okT_47 : TypeOk Try.prog 47 ⟨.struct #[⟨ "data", 30, 0, false, "", "cellplane/disk", 0⟩, ⟨ "durable", 3, 1, false, "", "cellplane/disk", 24⟩], 2, 32, [.sl 0 1 [], .int .i64 0], true, false⟩ := typeOk_of (.agg #[.slice none 0 0, .int .i64 0]) (by kernel_rfl) (by kernel_rfl) ⟨rfl, rfl⟩ rfl (fun h => by cases h)
theorem okT_55 : TypeOk Try.prog 55 ⟨.int .u32, 1, 4, [.int .u32 0], false, false⟩ := typeOk_of (.int .u32 0) (by kernel_rfl) (by kernel_rfl) ⟨rfl, rfl⟩ rfl (fun h => by cases h)
theorem okT_59 : TypeOk Try.prog 59 ⟨.pointer 5, 1, 8, [.pnil], false, false⟩ := typeOk_of (.pointer none) (by kernel_rfl) (by kernel_rfl) ⟨rfl, rfl⟩ rfl (fun h => by cases h)

theorem types_ok : TypesOk Try.prog T := by
  intro t ti h
  unfold T at h
  split at h
  · cases h; exact okT_2
  · cases h; exact okT_3
  · cases h; exact okT_4
  · cases h; exact okT_5
  · cases h; exact okT_9
  · cases h; exact okT_12
  · cases h; exact okT_21
  · cases h; exact okT_22
  · cases h; exact okT_23
  · cases h; exact okT_25
  · cases h; exact okT_30
  · cases h; exact okT_31
  · cases h; exact okT_32
  · cases h; exact okT_35
  · cases h; exact okT_36
  · cases h; exact okT_44
  · cases h; exact okT_46
  · cases h; exact okT_47
  · cases h; exact okT_55
  · cases h; exact okT_59
  · cases h

@[simp] theorem T_2 : T 2 = some ⟨.int .i64, 1, 8, [.int .i64 0], false, false⟩ := rfl
@[simp] theorem D_2 : descOf T 2 = some (.int .i64) := rfl
@[simp] theorem S_2 : sizeT T 2 = some 1 := rfl
@[simp] theorem T_3 : T 3 = some ⟨.int .i64, 1, 8, [.int .i64 0], false, false⟩ := rfl
@[simp] theorem D_3 : descOf T 3 = some (.int .i64) := rfl
@[simp] theorem S_3 : sizeT T 3 = some 1 := rfl
@[simp] theorem T_4 : T 4 = some ⟨.bool, 1, 1, [.bool false], false, false⟩ := rfl
@[simp] theorem D_4 : descOf T 4 = some (.bool) := rfl
@[simp] theorem S_4 : sizeT T 4 = some 1 := rfl
@[simp] theorem T_5 : T 5 = some ⟨.int .u8, 1, 1, [.int .u8 0], false, false⟩ := rfl
@[simp] theorem D_5 : descOf T 5 = some (.int .u8) := rfl
@[simp] theorem S_5 : sizeT T 5 = some 1 := rfl
@[simp] theorem T_9 : T 9 = some ⟨.string, 1, 16, [.str .empty], false, false⟩ := rfl
@[simp] theorem D_9 : descOf T 9 = some (.string) := rfl
@[simp] theorem S_9 : sizeT T 9 = some 1 := rfl
@[simp] theorem T_12 : T 12 = some ⟨.int .u64, 1, 8, [.int .u64 0], false, false⟩ := rfl
@[simp] theorem D_12 : descOf T 12 = some (.int .u64) := rfl
@[simp] theorem S_12 : sizeT T 12 = some 1 := rfl
@[simp] theorem T_21 : T 21 = some ⟨.int .i32, 1, 4, [.int .i32 0], false, false⟩ := rfl
@[simp] theorem D_21 : descOf T 21 = some (.int .i32) := rfl
@[simp] theorem S_21 : sizeT T 21 = some 1 := rfl
@[simp] theorem T_22 : T 22 = some ⟨.slice 32, 1, 24, [.sl 0 1 []], false, false⟩ := rfl
@[simp] theorem D_22 : descOf T 22 = some (.slice 32) := rfl
@[simp] theorem S_22 : sizeT T 22 = some 1 := rfl
@[simp] theorem T_23 : T 23 = some ⟨.pointer 47, 1, 8, [.pnil], false, false⟩ := rfl
@[simp] theorem D_23 : descOf T 23 = some (.pointer 47) := rfl
@[simp] theorem S_23 : sizeT T 23 = some 1 := rfl
@[simp] theorem T_25 : T 25 = some ⟨.pointer 36, 1, 8, [.pnil], false, false⟩ := rfl
@[simp] theorem D_25 : descOf T 25 = some (.pointer 36) := rfl
@[simp] theorem S_25 : sizeT T 25 = some 1 := rfl
@[simp] theorem T_30 : T 30 = some ⟨.slice 5, 1, 24, [.sl 0 1 []], false, false⟩ := rfl
@[simp] theorem D_30 : descOf T 30 = some (.slice 5) := rfl
@[simp] theorem S_30 : sizeT T 30 = some 1 := rfl
@[simp] theorem T_31 : T 31 = some ⟨.struct #[⟨ "Which", 3, 0, false, "", "", 0⟩, ⟨ "N", 3, 1, false, "", "", 8⟩, ⟨ "B", 30, 2, false, "", "", 16⟩], 3, 40, [.int .i64 0, .int .i64 0, .sl 0 1 []], true, false⟩ := rfl
@[simp] theorem D_31 : descOf T 31 = some (.struct #[⟨ "Which", 3, 0, false, "", "", 0⟩, ⟨ "N", 3, 1, false, "", "", 8⟩, ⟨ "B", 30, 2, false, "", "", 16⟩]) := rfl
@[simp] theorem S_31 : sizeT T 31 = some 3 := rfl
@[simp] theorem T_32 : T 32 = some ⟨.struct #[⟨ "Which", 3, 0, false, "", "", 0⟩, ⟨ "N", 3, 1, false, "", "", 8⟩, ⟨ "B", 30, 2, false, "", "", 16⟩], 3, 40, [.int .i64 0, .int .i64 0, .sl 0 1 []], true, false⟩ := rfl
@[simp] theorem D_32 : descOf T 32 = some (.struct #[⟨ "Which", 3, 0, false, "", "", 0⟩, ⟨ "N", 3, 1, false, "", "", 8⟩, ⟨ "B", 30, 2, false, "", "", 16⟩]) := rfl
@[simp] theorem S_32 : sizeT T 32 = some 3 := rfl
@[simp] theorem T_35 : T 35 = some ⟨.struct #[⟨ "B", 30, 0, false, "", "", 0⟩, ⟨ "D", 3, 1, false, "", "", 24⟩], 2, 32, [.sl 0 1 [], .int .i64 0], true, false⟩ := rfl
@[simp] theorem D_35 : descOf T 35 = some (.struct #[⟨ "B", 30, 0, false, "", "", 0⟩, ⟨ "D", 3, 1, false, "", "", 24⟩]) := rfl
@[simp] theorem S_35 : sizeT T 35 = some 2 := rfl
@[simp] theorem T_36 : T 36 = some ⟨.struct #[⟨ "B", 30, 0, false, "", "", 0⟩, ⟨ "D", 3, 1, false, "", "", 24⟩], 2, 32, [.sl 0 1 [], .int .i64 0], true, false⟩ := rfl
@[simp] theorem D_36 : descOf T 36 = some (.struct #[⟨ "B", 30, 0, false, "", "", 0⟩, ⟨ "D", 3, 1, false, "", "", 24⟩]) := rfl
@[simp] theorem S_36 : sizeT T 36 = some 2 := rfl
@[simp] theorem T_44 : T 44 = some ⟨.int .i64, 1, 8, [.int .i64 0], false, false⟩ := rfl
@[simp] theorem D_44 : descOf T 44 = some (.int .i64) := rfl
@[simp] theorem S_44 : sizeT T 44 = some 1 := rfl
@[simp] theorem T_46 : T 46 = some ⟨.struct #[⟨ "data", 30, 0, false, "", "cellplane/disk", 0⟩, ⟨ "durable", 3, 1, false, "", "cellplane/disk", 24⟩], 2, 32, [.sl 0 1 [], .int .i64 0], true, false⟩ := rfl
@[simp] theorem D_46 : descOf T 46 = some (.struct #[⟨ "data", 30, 0, false, "", "cellplane/disk", 0⟩, ⟨ "durable", 3, 1, false, "", "cellplane/disk", 24⟩]) := rfl
@[simp] theorem S_46 : sizeT T 46 = some 2 := rfl
@[simp] theorem T_47 : T 47 = some ⟨.struct #[⟨ "data", 30, 0, false, "", "cellplane/disk", 0⟩, ⟨ "durable", 3, 1, false, "", "cellplane/disk", 24⟩], 2, 32, [.sl 0 1 [], .int .i64 0], true, false⟩ := rfl
@[simp] theorem D_47 : descOf T 47 = some (.struct #[⟨ "data", 30, 0, false, "", "cellplane/disk", 0⟩, ⟨ "durable", 3, 1, false, "", "cellplane/disk", 24⟩]) := rfl
@[simp] theorem S_47 : sizeT T 47 = some 2 := rfl
@[simp] theorem T_55 : T 55 = some ⟨.int .u32, 1, 4, [.int .u32 0], false, false⟩ := rfl
@[simp] theorem D_55 : descOf T 55 = some (.int .u32) := rfl
@[simp] theorem S_55 : sizeT T 55 = some 1 := rfl
@[simp] theorem T_59 : T 59 = some ⟨.pointer 5, 1, 8, [.pnil], false, false⟩ := rfl
@[simp] theorem D_59 : descOf T 59 = some (.pointer 5) := rfl
@[simp] theorem S_59 : sizeT T 59 = some 1 := rfl

def C0 : FuncId → List V → List AObj → Option CRes := fun _ _ _ => none
theorem C0_ok : SpecsOk Try.prog C0 := fun f ⟨_, _, _, h⟩ => by cases h
theorem follows : Try.prog.follows .mixedOrders = true := by kernel_rfl
end Go.Proofs.Ytpahppndnpeiaaa
