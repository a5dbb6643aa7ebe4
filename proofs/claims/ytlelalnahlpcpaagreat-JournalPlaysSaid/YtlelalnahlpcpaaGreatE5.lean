/-
  entry: by the reference, on.
-/
import Derived.Test.YtlelalnahlpcpaaGreatE3
set_option linter.unusedSimpArgs false
set_option linter.unusedVariables false
namespace Go.Proofs.YtlelalnahlpcpaaGreat
open Go.Lift

noncomputable def CE7 := mkC [(84, inSp), (85, placesSp), (86, numbersSp)]
theorem CE7_ok : SpecsOk Tryz.prog CE7 := mkC_ok (all_cons in6_spec (all_cons places_spec (all_cons numbers_spec all_nil)))
@[simp] theorem CE7_1 : CE7 84 = inSp := rfl
@[simp] theorem CE7_2 : CE7 85 = placesSp := rfl
@[simp] theorem CE7_3 : CE7 86 = numbersSp := rfl

theorem fitE_parts (t c r v : Int) (e : GEntry) (h : inB e.Kind 1 16 = true) : fitE t c r v e = (inB e.Tick 0 1073741824 && (placesB e t c r && numbersB e v)) := by
  have hk := kinds (inB_iff.1 h)
  obtain ⟨kd, tk, tn, ce, ot, ep, fr, un, n⟩ := e
  simp only at hk h
  simp only [fitE, placesB, numbersB, h, inR, plR, nuR, Bool.true_and]
  rcases hk with rfl | rfl | rfl | rfl | rfl | rfl | rfl | rfl | rfl | rfl | rfl | rfl | rfl | rfl | rfl | rfl
  all_goals
    simp only [rngK, twB]
    simp
    generalize inB tk _ _ = b1
    cases b1 <;> simp
  all_goals
    rw [Bool.eq_iff_iff]
    simp
    grind
noncomputable def right6Sp := fam (fun i : GEntry × Int × Int × Int × Int => [vEntry i.1, .int .i64 i.2.1, .int .i64 i.2.2.1, .int .i64 i.2.2.2.1, .int .i64 i.2.2.2.2]) (fun _ : GEntry × Int × Int × Int × Int => []) (fun i : GEntry × Int × Int × Int × Int => (0 ≤ i.2.1 ∧ i.2.1 ≤ 9223372036854775807) ∧ (0 ≤ i.2.2.1 ∧ i.2.2.1 ≤ 9223372036854775807) ∧ (0 ≤ i.2.2.2.1 ∧ i.2.2.2.1 ≤ 9223372036854775807) ∧ (0 ≤ i.2.2.2.2 ∧ i.2.2.2.2 ≤ 9223372036854775807)) (fun i : GEntry × Int × Int × Int × Int => ⟨.bool (fitE i.2.1 i.2.2.1 i.2.2.2.1 i.2.2.2.2 i.1), []⟩)
@[simp] theorem right6Sp_eq {e : GEntry} {t : Int} {c : Int} {g : Int} {v : Int} (h1 : 0 ≤ t ∧ t ≤ 9223372036854775807) (h2 : 0 ≤ c ∧ c ≤ 9223372036854775807) (h3 : 0 ≤ g ∧ g ≤ 9223372036854775807) (h4 : 0 ≤ v ∧ v ≤ 9223372036854775807) : right6Sp ([vEntry e, .int .i64 t, .int .i64 c, .int .i64 g, .int .i64 v]) ([]) = some (⟨.bool (fitE t c g v e), []⟩) :=
  fam_eq (A := fun i : GEntry × Int × Int × Int × Int => [vEntry i.1, .int .i64 i.2.1, .int .i64 i.2.2.1, .int .i64 i.2.2.2.1, .int .i64 i.2.2.2.2]) (O := fun _ : GEntry × Int × Int × Int × Int => []) (res := fun i : GEntry × Int × Int × Int × Int => ⟨.bool (fitE i.2.1 i.2.2.1 i.2.2.2.1 i.2.2.2.2 i.1), []⟩) (by rintro ⟨a0, a1, a2, a3, a4⟩ ⟨b0, b1, b2, b3, b4⟩ h h' <;> simp at h h' <;> simp_all) (e, t, c, g, v) ⟨h1, h2, h3, h4⟩

set_option maxHeartbeats 40000000 in
theorem right6_spec : Lift.Spec Tryz.prog 69 right6Sp := by
  refine spec_fam (C := CE7) types_ok CE7_ok follows Tryz.func69 (by kernel_rfl) rfl (by kernel_rfl) rfl ?_
  rintro ⟨e, t, c, g, v⟩ ⟨h1, h2, h3, h4⟩
  try simp only at h1 h2 h3 h4
  refine ⟨by simp, ?_⟩
  intro r hr
  cases k0 : inB e.Kind 1 16
  · simp [GEntry.cells, k0]
    ((repeat refine ⟨⟨by kernel_rfl, by kernel_rfl⟩, ?_⟩); rw [hr]; refine ret_closed rfl ?_ rfl; simp [fitE, k0])
  have hk := inB_iff.1 k0
  have hp := fitE_parts t c g v e k0
  rw [hp] at hr
  cases gg0 : inB e.Tick 0 1073741824
  · simp [GEntry.cells, k0, gg0]
    ((repeat refine ⟨⟨by kernel_rfl, by kernel_rfl⟩, ?_⟩); rw [hr]; refine ret_closed rfl ?_ rfl; simp [gg0])
  cases gg1 : placesB e t c g
  · simp [GEntry.cells, k0, hk, h1, h2, h3, gg0, gg1]
    ((repeat refine ⟨⟨by kernel_rfl, by kernel_rfl⟩, ?_⟩); rw [hr]; refine ret_closed rfl ?_ rfl; simp [gg0, gg1])
  simp [GEntry.cells, k0, hk, h1, h2, h3, h4, gg0, gg1]
  ((repeat refine ⟨⟨by kernel_rfl, by kernel_rfl⟩, ?_⟩); rw [hr]; refine ret_closed rfl ?_ rfl; simp [gg0, gg1])

noncomputable def CE8 := mkC [(69, right6Sp)]
theorem CE8_ok : SpecsOk Tryz.prog CE8 := mkC_ok (all_cons right6_spec all_nil)
@[simp] theorem CE8_1 : CE8 69 = right6Sp := rfl

theorem refshape_spec : Lift.Spec Tryz.prog 56 shapeSp := by
  refine spec_fam (C := CE8) types_ok CE8_ok follows Tryz.func56 (by kernel_rfl) rfl (by kernel_rfl) rfl ?_
  rintro e _
  refine ⟨by simp, ?_⟩
  intro r hr
  simp [GEntry.cells]
  ((repeat refine ⟨⟨by kernel_rfl, by kernel_rfl⟩, ?_⟩); rw [hr]; refine ret_closed rfl ?_ rfl; simp [shapeE])

theorem inB_cap {n a b m : Int} (h : a ≤ b) : inB n m (a - 1) = (inB n m (b - 1) && inB n m (a - 1)) := by
  unfold inB
  rw [Bool.eq_iff_iff]; simp; omega
theorem fitE_cap {t c r v t' c' r' v' : Int} (e : GEntry) (h1 : t ≤ t') (h2 : c ≤ c') (h3 : r ≤ r') (h4 : v ≤ v') : fitE t c r v e = (fitE t' c' r' v' e && fitE t c r v e) := by
  obtain ⟨kd, tk, tn, ce, ot, ep, fr, un, n⟩ := e
  simp only [fitE, inR]
  by_cases hk : 1 ≤ kd ∧ kd ≤ 16
  · rcases kinds hk with rfl | rfl | rfl | rfl | rfl | rfl | rfl | rfl | rfl | rfl | rfl | rfl | rfl | rfl | rfl | rfl
    all_goals
      rw [Bool.eq_iff_iff]
      simp [rngK, inB]
      try (intros; refine ⟨by assumption, ?_⟩; omega)
  · have : inB kd 1 16 = false := by unfold inB; simp; omega
    simp [this]
theorem minI {a b : Int} (h : a ≤ b) : (if b < a then b else a) = a := if_neg (by omega)
end Go.Proofs.YtlelalnahlpcpaaGreat
