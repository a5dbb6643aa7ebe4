/-
  entry: laws over made entries: shape, validity.
-/
import Derived.Test.YtegjhmhhbmnljaaDoorSI
import Derived.Test.YtegjhmhhbmnljaaDoorE8
namespace Go.Proofs.YtegjhmhhbmnljaaDoor
open Go.Lift

noncomputable def CLW := mkC [(12, trueE6), (13, madeSp), (11, lightSp), (15, betweenSp), (14, spoiltSp), (16, shapeSp), (17, shapeSp), (18, validESp), (19, validESp)]
theorem CLW_ok : SpecsOk Tryd.prog CLW := mkC_ok (all_cons awake6_spec (all_cons made_spec (all_cons light_spec (all_cons between_spec (all_cons spoilt_spec (all_cons shape_spec (all_cons refshape_spec (all_cons validE_spec (all_cons refvalidE_spec all_nil)))))))))
@[simp] theorem CLW_1 : CLW 12 = trueE6 := rfl
@[simp] theorem CLW_2 : CLW 13 = madeSp := rfl
@[simp] theorem CLW_3 : CLW 11 = lightSp := rfl
@[simp] theorem CLW_4 : CLW 15 = betweenSp := rfl
@[simp] theorem CLW_5 : CLW 14 = spoiltSp := rfl
@[simp] theorem CLW_6 : CLW 16 = shapeSp := rfl
@[simp] theorem CLW_7 : CLW 17 = shapeSp := rfl
@[simp] theorem CLW_8 : CLW 18 = validESp := rfl
@[simp] theorem CLW_9 : CLW 19 = validESp := rfl

theorem law_EntryShape : Lift.Spec Tryd.prog 3 (fam (fun i : (List Int) × GEntry × Int × Int => [V.sl 2 1 (intRow i.1), vEntry i.2.1, .int .i64 i.2.2.1, .int .i64 i.2.2.2]) (fun _ => []) (fun _ : (List Int) × GEntry × Int × Int => True) (fun _ => ⟨.bool true, []⟩)) := by
  refine spec_fam (C := CLW) types_ok CLW_ok follows Tryd.func3 (by kernel_rfl) rfl (by kernel_rfl) rfl ?_
  rintro ⟨l, raw, w, b⟩ _
  refine ⟨by simp, ?_⟩
  intro r hr
  by_cases hl : l.length ≤ 200
  · simp [GEntry.cells, GConfig.cells, hl]
    (repeat refine ⟨⟨by kernel_rfl, by kernel_rfl⟩, ?_⟩)
    try simp [GEntry.cells, GConfig.cells, hl]
    ((repeat refine ⟨⟨by kernel_rfl, by kernel_rfl⟩, ?_⟩); rw [hr]; refine ret_closed rfl ?_ rfl; simp)
  · simp [GEntry.cells, hl]
    ((repeat refine ⟨⟨by kernel_rfl, by kernel_rfl⟩, ?_⟩); rw [hr]; refine ret_closed rfl ?_ rfl; simp)
theorem law_EntryValid : Lift.Spec Tryd.prog 5 (fam (fun i : (List Int) × GEntry × Int × Int => [V.sl 2 1 (intRow i.1), vEntry i.2.1, .int .i64 i.2.2.1, .int .i64 i.2.2.2]) (fun _ => []) (fun _ : (List Int) × GEntry × Int × Int => True) (fun _ => ⟨.bool true, []⟩)) := by
  refine spec_fam (C := CLW) types_ok CLW_ok follows Tryd.func5 (by kernel_rfl) rfl (by kernel_rfl) rfl ?_
  rintro ⟨l, raw, w, b⟩ _
  refine ⟨by simp, ?_⟩
  intro r hr
  by_cases hl : l.length ≤ 200
  · have ht := (cfg_ok l).topo
    simp [GEntry.cells, GConfig.cells, hl, ht]
    (repeat refine ⟨⟨by kernel_rfl, by kernel_rfl⟩, ?_⟩)
    try simp [GEntry.cells, GConfig.cells, hl, ht]
    ((repeat refine ⟨⟨by kernel_rfl, by kernel_rfl⟩, ?_⟩); rw [hr]; refine ret_closed rfl ?_ rfl; simp)
  · simp [GEntry.cells, hl]
    ((repeat refine ⟨⟨by kernel_rfl, by kernel_rfl⟩, ?_⟩); rw [hr]; refine ret_closed rfl ?_ rfl; simp)
theorem valid_shape {C : GConfig} {e : GEntry} (h : validE C e = true) : shapeE e = true := by
  unfold validE at h
  simp only [Bool.and_eq_true] at h
  exact h.1
theorem law_EntryValidShape : Lift.Spec Tryd.prog 9 (fam (fun i : (List Int) × GEntry × Int × Int => [V.sl 2 1 (intRow i.1), vEntry i.2.1, .int .i64 i.2.2.1, .int .i64 i.2.2.2]) (fun _ => []) (fun _ : (List Int) × GEntry × Int × Int => True) (fun _ => ⟨.bool true, []⟩)) := by
  refine spec_fam (C := CLW) types_ok CLW_ok follows Tryd.func9 (by kernel_rfl) rfl (by kernel_rfl) rfl ?_
  rintro ⟨l, raw, w, b⟩ _
  refine ⟨by simp, ?_⟩
  intro r hr
  by_cases hl : l.length ≤ 200
  · have ht := (cfg_ok l).topo
    have q1 : validE (cfgOf l) raw = false ∨ (validE (cfgOf l) raw = true ∧ shapeE raw = true) := by
      cases hv : validE (cfgOf l) raw
      · exact .inl rfl
      · exact .inr ⟨rfl, valid_shape hv⟩
    have q2 : validE (cfgOf l) (madeE l) = false ∨ (validE (cfgOf l) (madeE l) = true ∧ shapeE (madeE l) = true) := by
      cases hv : validE (cfgOf l) (madeE l)
      · exact .inl rfl
      · exact .inr ⟨rfl, valid_shape hv⟩
    have q3 : validE (cfgOf l) (spoilt (madeE l) w b) = false ∨ (validE (cfgOf l) (spoilt (madeE l) w b) = true ∧ shapeE (spoilt (madeE l) w b) = true) := by
      cases hv : validE (cfgOf l) (spoilt (madeE l) w b)
      · exact .inl rfl
      · exact .inr ⟨rfl, valid_shape hv⟩
    subst hr
    rcases q1 with q1 | ⟨q1, p1⟩ <;> rcases q2 with q2 | ⟨q2, p2⟩ <;> rcases q3 with q3 | ⟨q3, p3⟩
    all_goals
      simp [GEntry.cells, GConfig.cells, *]
      refine ret_closed rfl ?_ rfl
      simp
  · simp [GEntry.cells, hl]
    ((repeat refine ⟨⟨by kernel_rfl, by kernel_rfl⟩, ?_⟩); rw [hr]; refine ret_closed rfl ?_ rfl; simp)
end Go.Proofs.YtegjhmhhbmnljaaDoor
