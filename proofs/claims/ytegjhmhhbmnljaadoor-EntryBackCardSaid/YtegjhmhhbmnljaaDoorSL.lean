/-
  entry: laws over bytes.
-/
import Derived.Test.YtegjhmhhbmnljaaDoorSJ
import Derived.Test.YtegjhmhhbmnljaaDoorSK
namespace Go.Proofs.YtegjhmhhbmnljaaDoor
open Go.Lift

noncomputable def CLB := mkC [(12, trueE6), (13, madeSp), (11, lightSp), (16, shapeSp), (24, bytesESp), (20, refbytesSp), (21, readSp), (22, readSp), (23, sameSp)]
theorem CLB_ok : SpecsOk Tryd.prog CLB := mkC_ok (all_cons awake6_spec (all_cons made_spec (all_cons light_spec (all_cons shape_spec (all_cons bytesE_spec (all_cons refbytes_spec (all_cons read_spec (all_cons refread_spec (all_cons same_spec all_nil)))))))))
@[simp] theorem CLB_1 : CLB 12 = trueE6 := rfl
@[simp] theorem CLB_2 : CLB 13 = madeSp := rfl
@[simp] theorem CLB_3 : CLB 11 = lightSp := rfl
@[simp] theorem CLB_4 : CLB 16 = shapeSp := rfl
@[simp] theorem CLB_5 : CLB 24 = bytesESp := rfl
@[simp] theorem CLB_6 : CLB 20 = refbytesSp := rfl
@[simp] theorem CLB_7 : CLB 21 = readSp := rfl
@[simp] theorem CLB_8 : CLB 22 = readSp := rfl
@[simp] theorem CLB_9 : CLB 23 = sameSp := rfl

abbrev xsO (raw e : GEntry) (b : List UInt8) : AObj := ⟨41, 1, [[.sl 2 1 (byteRow b)], [.sl 2 1 (byteRow (bytesE raw))], [.sl 2 1 (byteRow (bytesE e ++ b))]], true, 1, .rw⟩
def ebSt (raw e : GEntry) (b : List UInt8) (i : Nat) : St := mkSt [(4, .ptr 0 0 0), (6, .bool false), (8, .ptr 1 0 0), (9, .own 2 0 3), (10, .int .i64 i)] [(0, entO raw), (1, entO e), (2, xsO raw e b)] 3
theorem three {i : Nat} (h : i < 3) : i = 0 ∨ i = 1 ∨ i = 2 := by omega
def xsL (raw e : GEntry) (b : List UInt8) (i : Nat) : List UInt8 := if i = 0 then b else if i = 1 then bytesE raw else bytesE e ++ b
theorem law_EntryBytes : Lift.Spec Tryd.prog 6 (fam (fun i : (List Int) × GEntry × (List UInt8) => [V.sl 2 1 (intRow i.1), vEntry i.2.1, V.sl 2 1 (byteRow i.2.2)]) (fun _ => []) (fun i : (List Int) × GEntry × (List UInt8) => (GEntry.ok i.2.1)) (fun _ => ⟨.bool true, []⟩)) := by
  refine spec_fam (C := CLB) types_ok CLB_ok follows Tryd.func6 (by kernel_rfl) rfl (by kernel_rfl) rfl ?_
  rintro ⟨l, raw, b⟩ h1
  try simp only at h1
  refine ⟨by simp, ?_⟩
  intro r hr
  by_cases hl : l.length ≤ 200
  · by_cases hb : b.length ≤ 300
    · have he := made_eok hl
      have k1 := encTo_le h1 9
      have k2 := encTo_le he 9
      replace k1 : (bytesE raw).length ≤ 90 := k1
      replace k2 : (bytesE (madeE l)).length ≤ 90 := k2
      have k3 : ((bytesE (madeE l)).length : Int) + b.length ≤ 140737488355328 := by omega
      have r1 : (b.length : Int) ≤ 140737488355328 := by omega
      have r2 : ((bytesE raw).length : Int) ≤ 140737488355328 := by omega
      have r3 : ((bytesE (madeE l)).length : Int) ≤ 140737488355328 := by omega
      have r4 : List.take ((bytesE (madeE l)).length + b.length) (bytesE (madeE l) ++ b) = bytesE (madeE l) ++ b := List.take_of_length_le (by simp)
      have hb' : ¬ 300 < (b.length : Int) := by omega
      simp [GEntry.cells, GConfig.cells, hl, hb', h1, he, rowOf, k3]
      (repeat refine ⟨⟨by kernel_rfl, by kernel_rfl⟩, ?_⟩)
      refine axwp_loop (ebSt raw (madeE l) b) (fun i => i ≤ 3) (fun i => 3 - i) 0 ?_ (Nat.zero_le _) ?_
      · refine (weak_fzS [33, 37] ?_).trans (weak_at [.inr 4, .inr 8, .inr 9] ?_ ?_ ?_ ?_) <;> simp [entO, GEntry.cells, r4]
      · intro i hi
        by_cases hi3 : i < 3
        · rcases three hi3 with rfl | rfl | rfl
          · simp [ebSt, entO, GEntry.cells, readV, r1]
            refine Again.mk 1 (by decide) (by decide) ?_
            refine weak_at [.inr 4, .inr 8, .inr 9] ?_ ?_ ?_ ?_ <;> simp [entO, GEntry.cells]
          · simp [ebSt, entO, GEntry.cells, readV, r2]
            refine Again.mk 2 (by decide) (by decide) ?_
            refine weak_at [.inr 4, .inr 8, .inr 9] ?_ ?_ ?_ ?_ <;> simp [entO, GEntry.cells]
          · simp [ebSt, entO, GEntry.cells, readV, k3]
            refine Again.mk 3 (by decide) (by decide) ?_
            refine weak_at [.inr 4, .inr 8, .inr 9] ?_ ?_ ?_ ?_ <;> simp [entO, GEntry.cells]
        · obtain rfl : i = 3 := by omega
          simp [ebSt, entO, GEntry.cells, h1, he, rowOf]
          ((repeat refine ⟨⟨by kernel_rfl, by kernel_rfl⟩, ?_⟩); rw [hr]; refine ret_closed rfl ?_ rfl; simp)
    · have hb' : 300 < (b.length : Int) := by omega
      simp [GEntry.cells, hl, hb']
      ((repeat refine ⟨⟨by kernel_rfl, by kernel_rfl⟩, ?_⟩); rw [hr]; refine ret_closed rfl ?_ rfl; simp)
  · simp [GEntry.cells, hl]
    ((repeat refine ⟨⟨by kernel_rfl, by kernel_rfl⟩, ?_⟩); rw [hr]; refine ret_closed rfl ?_ rfl; simp)
end Go.Proofs.YtegjhmhhbmnljaaDoor
