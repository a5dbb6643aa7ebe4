/-
  entry: by the reference, on.
-/
import Derived.Test.YtlelalnahlpcpaaGreatE2
set_option linter.unusedSimpArgs false
set_option linter.unusedVariables false
namespace Go.Proofs.YtlelalnahlpcpaaGreat
open Go.Lift

theorem inB_self (n a : Int) : inB n a a = decide (n = a) := by
  unfold inB
  exact decide_eq_decide.2 (by omega)
theorem inB_neg (m : Int) : inB (-1) 0 m = false := by simp [inB]
def plR (e : GEntry) (R : GR) : Bool := inB e.Tenant R.a0 R.a1 && (inB e.Cell R.b0 R.b1 && inB e.Other R.c0 R.c1)
def placesB (e : GEntry) (t c r : Int) : Bool := plR e (rngK e.Kind t c r 0) && !twB e
def nuR (e : GEntry) (R : GR) : Bool := inB e.Epoch R.d0 R.d1 && (inB e.From R.e0 R.e1 && (inB e.Until R.f0 R.f1 && inB e.N R.g0 R.g1))
def numbersB (e : GEntry) (v : Int) : Bool := nuR e (rngK e.Kind 0 0 0 v)
noncomputable def placesSp := fam (fun i : GEntry × Int × Int × Int => [vEntry i.1, .int .i64 i.2.1, .int .i64 i.2.2.1, .int .i64 i.2.2.2]) (fun _ : GEntry × Int × Int × Int => []) (fun i : GEntry × Int × Int × Int => (1 ≤ i.1.Kind ∧ i.1.Kind ≤ 16) ∧ (0 ≤ i.2.1 ∧ i.2.1 ≤ 9223372036854775807) ∧ (0 ≤ i.2.2.1 ∧ i.2.2.1 ≤ 9223372036854775807) ∧ (0 ≤ i.2.2.2 ∧ i.2.2.2 ≤ 9223372036854775807)) (fun i : GEntry × Int × Int × Int => ⟨.bool (placesB i.1 i.2.1 i.2.2.1 i.2.2.2), []⟩)
@[simp] theorem placesSp_eq {e : GEntry} {t : Int} {c : Int} {g : Int} (h1 : 1 ≤ e.Kind ∧ e.Kind ≤ 16) (h2 : 0 ≤ t ∧ t ≤ 9223372036854775807) (h3 : 0 ≤ c ∧ c ≤ 9223372036854775807) (h4 : 0 ≤ g ∧ g ≤ 9223372036854775807) : placesSp ([vEntry e, .int .i64 t, .int .i64 c, .int .i64 g]) ([]) = some (⟨.bool (placesB e t c g), []⟩) :=
  fam_eq (A := fun i : GEntry × Int × Int × Int => [vEntry i.1, .int .i64 i.2.1, .int .i64 i.2.2.1, .int .i64 i.2.2.2]) (O := fun _ : GEntry × Int × Int × Int => []) (res := fun i : GEntry × Int × Int × Int => ⟨.bool (placesB i.1 i.2.1 i.2.2.1 i.2.2.2), []⟩) (by rintro ⟨a0, a1, a2, a3⟩ ⟨b0, b1, b2, b3⟩ h h' <;> simp at h h' <;> simp_all) (e, t, c, g) ⟨h1, h2, h3, h4⟩

set_option maxHeartbeats 40000000 in
theorem places_spec : Lift.Spec Tryz.prog 85 placesSp := by
  refine spec_fam (C := CE6) types_ok CE6_ok follows Tryz.func85 (by kernel_rfl) rfl (by kernel_rfl) rfl ?_
  rintro ⟨e, t, c, g⟩ ⟨h1, h2, h3, h4⟩
  try simp only at h1 h2 h3 h4
  refine ⟨by simp, ?_⟩
  intro r hr
  have w1 : IntKind.i64.wrap (t - 1) = t - 1 := wrap_i64_in (by omega) (by omega)
  have w2 : IntKind.i64.wrap (c - 1) = c - 1 := wrap_i64_in (by omega) (by omega)
  have w3 : IntKind.i64.wrap (g - 1) = g - 1 := wrap_i64_in (by omega) (by omega)
  obtain ⟨kd, tk, tn, ce, ot, ep, fr, un, n⟩ := e
  simp only at h1
  rcases kinds h1 with rfl | rfl | rfl | rfl | rfl | rfl | rfl | rfl | rfl | rfl | rfl | rfl | rfl | rfl | rfl | rfl
  · clear h1
    by_cases hoc : ot = ce
    · subst hoc
      by_cases gg0 : (tn = -1)
      · simp [GEntry.cells, gg0]
        ((repeat refine ⟨⟨by kernel_rfl, by kernel_rfl⟩, ?_⟩); rw [hr]; refine ret_closed rfl ?_ rfl; simp [placesB, plR, rngK, twB, inB_neg, gg0])
      cases gg1 : inB tn 0 (t - 1)
      · simp [GEntry.cells, w1, gg0, gg1]
        ((repeat refine ⟨⟨by kernel_rfl, by kernel_rfl⟩, ?_⟩); rw [hr]; refine ret_closed rfl ?_ rfl; simp [placesB, plR, rngK, twB, gg1])
      cases gg2 : inB ot 0 (c - 1)
      · simp [GEntry.cells, w1, w2, gg0, gg1, gg2]
        ((repeat refine ⟨⟨by kernel_rfl, by kernel_rfl⟩, ?_⟩); rw [hr]; refine ret_closed rfl ?_ rfl; simp [placesB, plR, rngK, twB, gg1, gg2])
      cases gg3 : inB ot (-1) (c - 1)
      · simp [GEntry.cells, w1, w2, gg0, gg1, gg2, gg3]
        ((repeat refine ⟨⟨by kernel_rfl, by kernel_rfl⟩, ?_⟩); rw [hr]; refine ret_closed rfl ?_ rfl; simp [placesB, plR, rngK, twB, gg1, gg2, gg3])
      simp [GEntry.cells, w1, w2, gg0, gg1, gg2, gg3]
      ((repeat refine ⟨⟨by kernel_rfl, by kernel_rfl⟩, ?_⟩); rw [hr]; refine ret_closed rfl ?_ rfl; simp [placesB, plR, rngK, twB, gg1, gg2, gg3])
    by_cases gg0 : (tn = -1)
    · simp [GEntry.cells, gg0]
      ((repeat refine ⟨⟨by kernel_rfl, by kernel_rfl⟩, ?_⟩); rw [hr]; refine ret_closed rfl ?_ rfl; simp [placesB, plR, rngK, twB, inB_neg, hoc, gg0])
    cases gg1 : inB tn 0 (t - 1)
    · simp [GEntry.cells, w1, gg0, gg1]
      ((repeat refine ⟨⟨by kernel_rfl, by kernel_rfl⟩, ?_⟩); rw [hr]; refine ret_closed rfl ?_ rfl; simp [placesB, plR, rngK, twB, hoc, gg1])
    cases gg2 : inB ce 0 (c - 1)
    · simp [GEntry.cells, w1, w2, gg0, gg1, gg2]
      ((repeat refine ⟨⟨by kernel_rfl, by kernel_rfl⟩, ?_⟩); rw [hr]; refine ret_closed rfl ?_ rfl; simp [placesB, plR, rngK, twB, hoc, gg1, gg2])
    cases gg3 : inB ot (-1) (c - 1)
    · simp [GEntry.cells, w1, w2, gg0, gg1, gg2, gg3]
      ((repeat refine ⟨⟨by kernel_rfl, by kernel_rfl⟩, ?_⟩); rw [hr]; refine ret_closed rfl ?_ rfl; simp [placesB, plR, rngK, twB, hoc, gg1, gg2, gg3])
    simp [GEntry.cells, w1, w2, hoc, gg0, gg1, gg2, gg3]
    ((repeat refine ⟨⟨by kernel_rfl, by kernel_rfl⟩, ?_⟩); rw [hr]; refine ret_closed rfl ?_ rfl; simp [placesB, plR, rngK, twB, hoc, gg1, gg2, gg3])
  · clear h1
    by_cases gg0 : (tn = -1)
    · simp [GEntry.cells, gg0]
      ((repeat refine ⟨⟨by kernel_rfl, by kernel_rfl⟩, ?_⟩); rw [hr]; refine ret_closed rfl ?_ rfl; simp [placesB, plR, rngK, twB, inB_self, inB_neg, gg0])
    cases gg1 : inB tn 0 (t - 1)
    · simp [GEntry.cells, w1, gg0, gg1]
      ((repeat refine ⟨⟨by kernel_rfl, by kernel_rfl⟩, ?_⟩); rw [hr]; refine ret_closed rfl ?_ rfl; simp [placesB, plR, rngK, twB, inB_self, gg1])
    cases gg2 : inB ce 0 (c - 1)
    · simp [GEntry.cells, w1, w2, gg0, gg1, gg2]
      ((repeat refine ⟨⟨by kernel_rfl, by kernel_rfl⟩, ?_⟩); rw [hr]; refine ret_closed rfl ?_ rfl; simp [placesB, plR, rngK, twB, inB_self, gg1, gg2])
    by_cases gg3 : ¬ (ot = -1)
    · simp [GEntry.cells, w1, w2, gg0, gg1, gg2, gg3]
      ((repeat refine ⟨⟨by kernel_rfl, by kernel_rfl⟩, ?_⟩); rw [hr]; refine ret_closed rfl ?_ rfl; simp [placesB, plR, rngK, twB, inB_self, gg1, gg2, gg3])
    replace gg3 : ot = -1 := Classical.byContradiction gg3
    simp [GEntry.cells, w1, w2, gg0, gg1, gg2, gg3]
    ((repeat refine ⟨⟨by kernel_rfl, by kernel_rfl⟩, ?_⟩); rw [hr]; refine ret_closed rfl ?_ rfl; simp [placesB, plR, rngK, twB, inB_self, gg1, gg2, gg3])
  · clear h1
    by_cases gg0 : (tn = -1)
    · simp [GEntry.cells, gg0]
      ((repeat refine ⟨⟨by kernel_rfl, by kernel_rfl⟩, ?_⟩); rw [hr]; refine ret_closed rfl ?_ rfl; simp [placesB, plR, rngK, twB, inB_self, inB_neg, gg0])
    cases gg1 : inB tn 0 (t - 1)
    · simp [GEntry.cells, w1, gg0, gg1]
      ((repeat refine ⟨⟨by kernel_rfl, by kernel_rfl⟩, ?_⟩); rw [hr]; refine ret_closed rfl ?_ rfl; simp [placesB, plR, rngK, twB, inB_self, gg1])
    by_cases gg2 : ¬ (ce = -1)
    · simp [GEntry.cells, w1, gg0, gg1, gg2]
      ((repeat refine ⟨⟨by kernel_rfl, by kernel_rfl⟩, ?_⟩); rw [hr]; refine ret_closed rfl ?_ rfl; simp [placesB, plR, rngK, twB, inB_self, gg1, gg2])
    replace gg2 : ce = -1 := Classical.byContradiction gg2
    by_cases gg3 : ¬ (ot = -1)
    · simp [GEntry.cells, w1, gg0, gg1, gg2, gg3]
      ((repeat refine ⟨⟨by kernel_rfl, by kernel_rfl⟩, ?_⟩); rw [hr]; refine ret_closed rfl ?_ rfl; simp [placesB, plR, rngK, twB, inB_self, gg1, gg2, gg3])
    replace gg3 : ot = -1 := Classical.byContradiction gg3
    simp [GEntry.cells, w1, gg0, gg1, gg2, gg3]
    ((repeat refine ⟨⟨by kernel_rfl, by kernel_rfl⟩, ?_⟩); rw [hr]; refine ret_closed rfl ?_ rfl; simp [placesB, plR, rngK, twB, inB_self, gg1, gg2, gg3])
  · clear h1
    by_cases gg0 : (tn = -1)
    · simp [GEntry.cells, gg0]
      ((repeat refine ⟨⟨by kernel_rfl, by kernel_rfl⟩, ?_⟩); rw [hr]; refine ret_closed rfl ?_ rfl; simp [placesB, plR, rngK, twB, inB_self, inB_neg, gg0])
    cases gg1 : inB tn 0 (t - 1)
    · simp [GEntry.cells, w1, gg0, gg1]
      ((repeat refine ⟨⟨by kernel_rfl, by kernel_rfl⟩, ?_⟩); rw [hr]; refine ret_closed rfl ?_ rfl; simp [placesB, plR, rngK, twB, inB_self, gg1])
    cases gg2 : inB ce (-1) (c - 1)
    · simp [GEntry.cells, w1, w2, gg0, gg1, gg2]
      ((repeat refine ⟨⟨by kernel_rfl, by kernel_rfl⟩, ?_⟩); rw [hr]; refine ret_closed rfl ?_ rfl; simp [placesB, plR, rngK, twB, inB_self, gg1, gg2])
    by_cases gg3 : ¬ (ot = -1)
    · simp [GEntry.cells, w1, w2, gg0, gg1, gg2, gg3]
      ((repeat refine ⟨⟨by kernel_rfl, by kernel_rfl⟩, ?_⟩); rw [hr]; refine ret_closed rfl ?_ rfl; simp [placesB, plR, rngK, twB, inB_self, gg1, gg2, gg3])
    replace gg3 : ot = -1 := Classical.byContradiction gg3
    simp [GEntry.cells, w1, w2, gg0, gg1, gg2, gg3]
    ((repeat refine ⟨⟨by kernel_rfl, by kernel_rfl⟩, ?_⟩); rw [hr]; refine ret_closed rfl ?_ rfl; simp [placesB, plR, rngK, twB, inB_self, gg1, gg2, gg3])
  · clear h1
    by_cases gg0 : (tn = -1)
    · simp [GEntry.cells, gg0]
      ((repeat refine ⟨⟨by kernel_rfl, by kernel_rfl⟩, ?_⟩); rw [hr]; refine ret_closed rfl ?_ rfl; simp [placesB, plR, rngK, twB, inB_self, inB_neg, gg0])
    cases gg1 : inB tn 0 (t - 1)
    · simp [GEntry.cells, w1, gg0, gg1]
      ((repeat refine ⟨⟨by kernel_rfl, by kernel_rfl⟩, ?_⟩); rw [hr]; refine ret_closed rfl ?_ rfl; simp [placesB, plR, rngK, twB, inB_self, gg1])
    cases gg2 : inB ce 0 (c - 1)
    · simp [GEntry.cells, w1, w2, gg0, gg1, gg2]
      ((repeat refine ⟨⟨by kernel_rfl, by kernel_rfl⟩, ?_⟩); rw [hr]; refine ret_closed rfl ?_ rfl; simp [placesB, plR, rngK, twB, inB_self, gg1, gg2])
    by_cases gg3 : ¬ (ot = -1)
    · simp [GEntry.cells, w1, w2, gg0, gg1, gg2, gg3]
      ((repeat refine ⟨⟨by kernel_rfl, by kernel_rfl⟩, ?_⟩); rw [hr]; refine ret_closed rfl ?_ rfl; simp [placesB, plR, rngK, twB, inB_self, gg1, gg2, gg3])
    replace gg3 : ot = -1 := Classical.byContradiction gg3
    simp [GEntry.cells, w1, w2, gg0, gg1, gg2, gg3]
    ((repeat refine ⟨⟨by kernel_rfl, by kernel_rfl⟩, ?_⟩); rw [hr]; refine ret_closed rfl ?_ rfl; simp [placesB, plR, rngK, twB, inB_self, gg1, gg2, gg3])
  · clear h1
    by_cases gg0 : (tn = -1)
    · simp [GEntry.cells, gg0]
      ((repeat refine ⟨⟨by kernel_rfl, by kernel_rfl⟩, ?_⟩); rw [hr]; refine ret_closed rfl ?_ rfl; simp [placesB, plR, rngK, twB, inB_self, inB_neg, gg0])
    cases gg1 : inB tn 0 (t - 1)
    · simp [GEntry.cells, w1, gg0, gg1]
      ((repeat refine ⟨⟨by kernel_rfl, by kernel_rfl⟩, ?_⟩); rw [hr]; refine ret_closed rfl ?_ rfl; simp [placesB, plR, rngK, twB, inB_self, gg1])
    cases gg2 : inB ce 0 (c - 1)
    · simp [GEntry.cells, w1, w2, gg0, gg1, gg2]
      ((repeat refine ⟨⟨by kernel_rfl, by kernel_rfl⟩, ?_⟩); rw [hr]; refine ret_closed rfl ?_ rfl; simp [placesB, plR, rngK, twB, inB_self, gg1, gg2])
    by_cases gg3 : ¬ (ot = -1)
    · simp [GEntry.cells, w1, w2, gg0, gg1, gg2, gg3]
      ((repeat refine ⟨⟨by kernel_rfl, by kernel_rfl⟩, ?_⟩); rw [hr]; refine ret_closed rfl ?_ rfl; simp [placesB, plR, rngK, twB, inB_self, gg1, gg2, gg3])
    replace gg3 : ot = -1 := Classical.byContradiction gg3
    simp [GEntry.cells, w1, w2, gg0, gg1, gg2, gg3]
    ((repeat refine ⟨⟨by kernel_rfl, by kernel_rfl⟩, ?_⟩); rw [hr]; refine ret_closed rfl ?_ rfl; simp [placesB, plR, rngK, twB, inB_self, gg1, gg2, gg3])
  · clear h1
    by_cases gg0 : (tn = -1)
    · simp [GEntry.cells, gg0]
      ((repeat refine ⟨⟨by kernel_rfl, by kernel_rfl⟩, ?_⟩); rw [hr]; refine ret_closed rfl ?_ rfl; simp [placesB, plR, rngK, twB, inB_self, inB_neg, gg0])
    cases gg1 : inB tn 0 (t - 1)
    · simp [GEntry.cells, w1, gg0, gg1]
      ((repeat refine ⟨⟨by kernel_rfl, by kernel_rfl⟩, ?_⟩); rw [hr]; refine ret_closed rfl ?_ rfl; simp [placesB, plR, rngK, twB, inB_self, gg1])
    by_cases gg2 : ¬ (ce = -1)
    · simp [GEntry.cells, w1, gg0, gg1, gg2]
      ((repeat refine ⟨⟨by kernel_rfl, by kernel_rfl⟩, ?_⟩); rw [hr]; refine ret_closed rfl ?_ rfl; simp [placesB, plR, rngK, twB, inB_self, gg1, gg2])
    replace gg2 : ce = -1 := Classical.byContradiction gg2
    by_cases gg3 : ¬ (ot = -1)
    · simp [GEntry.cells, w1, gg0, gg1, gg2, gg3]
      ((repeat refine ⟨⟨by kernel_rfl, by kernel_rfl⟩, ?_⟩); rw [hr]; refine ret_closed rfl ?_ rfl; simp [placesB, plR, rngK, twB, inB_self, gg1, gg2, gg3])
    replace gg3 : ot = -1 := Classical.byContradiction gg3
    simp [GEntry.cells, w1, gg0, gg1, gg2, gg3]
    ((repeat refine ⟨⟨by kernel_rfl, by kernel_rfl⟩, ?_⟩); rw [hr]; refine ret_closed rfl ?_ rfl; simp [placesB, plR, rngK, twB, inB_self, gg1, gg2, gg3])
  · clear h1
    by_cases gg0 : (tn = -1)
    · simp [GEntry.cells, gg0]
      ((repeat refine ⟨⟨by kernel_rfl, by kernel_rfl⟩, ?_⟩); rw [hr]; refine ret_closed rfl ?_ rfl; simp [placesB, plR, rngK, twB, inB_self, inB_neg, gg0])
    cases gg1 : inB tn 0 (t - 1)
    · simp [GEntry.cells, w1, gg0, gg1]
      ((repeat refine ⟨⟨by kernel_rfl, by kernel_rfl⟩, ?_⟩); rw [hr]; refine ret_closed rfl ?_ rfl; simp [placesB, plR, rngK, twB, inB_self, gg1])
    by_cases gg2 : ¬ (ce = -1)
    · simp [GEntry.cells, w1, gg0, gg1, gg2]
      ((repeat refine ⟨⟨by kernel_rfl, by kernel_rfl⟩, ?_⟩); rw [hr]; refine ret_closed rfl ?_ rfl; simp [placesB, plR, rngK, twB, inB_self, gg1, gg2])
    replace gg2 : ce = -1 := Classical.byContradiction gg2
    by_cases gg3 : ¬ (ot = -1)
    · simp [GEntry.cells, w1, gg0, gg1, gg2, gg3]
      ((repeat refine ⟨⟨by kernel_rfl, by kernel_rfl⟩, ?_⟩); rw [hr]; refine ret_closed rfl ?_ rfl; simp [placesB, plR, rngK, twB, inB_self, gg1, gg2, gg3])
    replace gg3 : ot = -1 := Classical.byContradiction gg3
    simp [GEntry.cells, w1, gg0, gg1, gg2, gg3]
    ((repeat refine ⟨⟨by kernel_rfl, by kernel_rfl⟩, ?_⟩); rw [hr]; refine ret_closed rfl ?_ rfl; simp [placesB, plR, rngK, twB, inB_self, gg1, gg2, gg3])
  · clear h1
    by_cases gg0 : ¬ (tn = -1)
    · simp [GEntry.cells, gg0]
      ((repeat refine ⟨⟨by kernel_rfl, by kernel_rfl⟩, ?_⟩); rw [hr]; refine ret_closed rfl ?_ rfl; simp [placesB, plR, rngK, twB, inB_self, gg0])
    replace gg0 : tn = -1 := Classical.byContradiction gg0
    cases gg1 : inB ce 0 (c - 1)
    · simp [GEntry.cells, w2, gg0, gg1]
      ((repeat refine ⟨⟨by kernel_rfl, by kernel_rfl⟩, ?_⟩); rw [hr]; refine ret_closed rfl ?_ rfl; simp [placesB, plR, rngK, twB, inB_self, gg0, gg1])
    by_cases gg2 : ¬ (ot = -1)
    · simp [GEntry.cells, w2, gg0, gg1, gg2]
      ((repeat refine ⟨⟨by kernel_rfl, by kernel_rfl⟩, ?_⟩); rw [hr]; refine ret_closed rfl ?_ rfl; simp [placesB, plR, rngK, twB, inB_self, gg0, gg1, gg2])
    replace gg2 : ot = -1 := Classical.byContradiction gg2
    simp [GEntry.cells, w2, gg0, gg1, gg2]
    ((repeat refine ⟨⟨by kernel_rfl, by kernel_rfl⟩, ?_⟩); rw [hr]; refine ret_closed rfl ?_ rfl; simp [placesB, plR, rngK, twB, inB_self, gg0, gg1, gg2])
  · clear h1
    by_cases gg0 : ¬ (tn = -1)
    · simp [GEntry.cells, gg0]
      ((repeat refine ⟨⟨by kernel_rfl, by kernel_rfl⟩, ?_⟩); rw [hr]; refine ret_closed rfl ?_ rfl; simp [placesB, plR, rngK, twB, inB_self, gg0])
    replace gg0 : tn = -1 := Classical.byContradiction gg0
    cases gg1 : inB ce 0 (c - 1)
    · simp [GEntry.cells, w2, gg0, gg1]
      ((repeat refine ⟨⟨by kernel_rfl, by kernel_rfl⟩, ?_⟩); rw [hr]; refine ret_closed rfl ?_ rfl; simp [placesB, plR, rngK, twB, inB_self, gg0, gg1])
    by_cases gg2 : ¬ (ot = -1)
    · simp [GEntry.cells, w2, gg0, gg1, gg2]
      ((repeat refine ⟨⟨by kernel_rfl, by kernel_rfl⟩, ?_⟩); rw [hr]; refine ret_closed rfl ?_ rfl; simp [placesB, plR, rngK, twB, inB_self, gg0, gg1, gg2])
    replace gg2 : ot = -1 := Classical.byContradiction gg2
    simp [GEntry.cells, w2, gg0, gg1, gg2]
    ((repeat refine ⟨⟨by kernel_rfl, by kernel_rfl⟩, ?_⟩); rw [hr]; refine ret_closed rfl ?_ rfl; simp [placesB, plR, rngK, twB, inB_self, gg0, gg1, gg2])
  · clear h1
    by_cases gg0 : ¬ (tn = -1)
    · simp [GEntry.cells, gg0]
      ((repeat refine ⟨⟨by kernel_rfl, by kernel_rfl⟩, ?_⟩); rw [hr]; refine ret_closed rfl ?_ rfl; simp [placesB, plR, rngK, twB, inB_self, gg0])
    replace gg0 : tn = -1 := Classical.byContradiction gg0
    cases gg1 : inB ce 0 (c - 1)
    · simp [GEntry.cells, w2, gg0, gg1]
      ((repeat refine ⟨⟨by kernel_rfl, by kernel_rfl⟩, ?_⟩); rw [hr]; refine ret_closed rfl ?_ rfl; simp [placesB, plR, rngK, twB, inB_self, gg0, gg1])
    by_cases gg2 : ¬ (ot = -1)
    · simp [GEntry.cells, w2, gg0, gg1, gg2]
      ((repeat refine ⟨⟨by kernel_rfl, by kernel_rfl⟩, ?_⟩); rw [hr]; refine ret_closed rfl ?_ rfl; simp [placesB, plR, rngK, twB, inB_self, gg0, gg1, gg2])
    replace gg2 : ot = -1 := Classical.byContradiction gg2
    simp [GEntry.cells, w2, gg0, gg1, gg2]
    ((repeat refine ⟨⟨by kernel_rfl, by kernel_rfl⟩, ?_⟩); rw [hr]; refine ret_closed rfl ?_ rfl; simp [placesB, plR, rngK, twB, inB_self, gg0, gg1, gg2])
  · clear h1
    by_cases gg0 : ¬ (tn = -1)
    · simp [GEntry.cells, gg0]
      ((repeat refine ⟨⟨by kernel_rfl, by kernel_rfl⟩, ?_⟩); rw [hr]; refine ret_closed rfl ?_ rfl; simp [placesB, plR, rngK, twB, inB_self, gg0])
    replace gg0 : tn = -1 := Classical.byContradiction gg0
    by_cases gg1 : ¬ (ce = -1)
    · simp [GEntry.cells, gg0, gg1]
      ((repeat refine ⟨⟨by kernel_rfl, by kernel_rfl⟩, ?_⟩); rw [hr]; refine ret_closed rfl ?_ rfl; simp [placesB, plR, rngK, twB, inB_self, gg0, gg1])
    replace gg1 : ce = -1 := Classical.byContradiction gg1
    by_cases gg2 : ¬ (ot = -1)
    · simp [GEntry.cells, gg0, gg1, gg2]
      ((repeat refine ⟨⟨by kernel_rfl, by kernel_rfl⟩, ?_⟩); rw [hr]; refine ret_closed rfl ?_ rfl; simp [placesB, plR, rngK, twB, inB_self, gg0, gg1, gg2])
    replace gg2 : ot = -1 := Classical.byContradiction gg2
    simp [GEntry.cells, gg0, gg1, gg2]
    ((repeat refine ⟨⟨by kernel_rfl, by kernel_rfl⟩, ?_⟩); rw [hr]; refine ret_closed rfl ?_ rfl; simp [placesB, plR, rngK, twB, inB_self, gg0, gg1, gg2])
  · clear h1
    by_cases gg0 : ¬ (tn = -1)
    · simp [GEntry.cells, gg0]
      ((repeat refine ⟨⟨by kernel_rfl, by kernel_rfl⟩, ?_⟩); rw [hr]; refine ret_closed rfl ?_ rfl; simp [placesB, plR, rngK, twB, inB_self, gg0])
    replace gg0 : tn = -1 := Classical.byContradiction gg0
    by_cases gg1 : ¬ (ce = -1)
    · simp [GEntry.cells, gg0, gg1]
      ((repeat refine ⟨⟨by kernel_rfl, by kernel_rfl⟩, ?_⟩); rw [hr]; refine ret_closed rfl ?_ rfl; simp [placesB, plR, rngK, twB, inB_self, gg0, gg1])
    replace gg1 : ce = -1 := Classical.byContradiction gg1
    cases gg2 : inB ot 0 (g - 1)
    · simp [GEntry.cells, w3, gg0, gg1, gg2]
      ((repeat refine ⟨⟨by kernel_rfl, by kernel_rfl⟩, ?_⟩); rw [hr]; refine ret_closed rfl ?_ rfl; simp [placesB, plR, rngK, twB, inB_self, gg0, gg1, gg2])
    simp [GEntry.cells, w3, gg0, gg1, gg2]
    ((repeat refine ⟨⟨by kernel_rfl, by kernel_rfl⟩, ?_⟩); rw [hr]; refine ret_closed rfl ?_ rfl; simp [placesB, plR, rngK, twB, inB_self, gg0, gg1, gg2])
  · clear h1
    by_cases gg0 : ¬ (tn = -1)
    · simp [GEntry.cells, gg0]
      ((repeat refine ⟨⟨by kernel_rfl, by kernel_rfl⟩, ?_⟩); rw [hr]; refine ret_closed rfl ?_ rfl; simp [placesB, plR, rngK, twB, inB_self, gg0])
    replace gg0 : tn = -1 := Classical.byContradiction gg0
    by_cases gg1 : ¬ (ce = -1)
    · simp [GEntry.cells, gg0, gg1]
      ((repeat refine ⟨⟨by kernel_rfl, by kernel_rfl⟩, ?_⟩); rw [hr]; refine ret_closed rfl ?_ rfl; simp [placesB, plR, rngK, twB, inB_self, gg0, gg1])
    replace gg1 : ce = -1 := Classical.byContradiction gg1
    by_cases gg2 : ¬ (ot = -1)
    · simp [GEntry.cells, gg0, gg1, gg2]
      ((repeat refine ⟨⟨by kernel_rfl, by kernel_rfl⟩, ?_⟩); rw [hr]; refine ret_closed rfl ?_ rfl; simp [placesB, plR, rngK, twB, inB_self, gg0, gg1, gg2])
    replace gg2 : ot = -1 := Classical.byContradiction gg2
    simp [GEntry.cells, gg0, gg1, gg2]
    ((repeat refine ⟨⟨by kernel_rfl, by kernel_rfl⟩, ?_⟩); rw [hr]; refine ret_closed rfl ?_ rfl; simp [placesB, plR, rngK, twB, inB_self, gg0, gg1, gg2])
  · clear h1
    by_cases gg0 : ¬ (tn = -1)
    · simp [GEntry.cells, gg0]
      ((repeat refine ⟨⟨by kernel_rfl, by kernel_rfl⟩, ?_⟩); rw [hr]; refine ret_closed rfl ?_ rfl; simp [placesB, plR, rngK, twB, inB_self, gg0])
    replace gg0 : tn = -1 := Classical.byContradiction gg0
    by_cases gg1 : ¬ (ce = -1)
    · simp [GEntry.cells, gg0, gg1]
      ((repeat refine ⟨⟨by kernel_rfl, by kernel_rfl⟩, ?_⟩); rw [hr]; refine ret_closed rfl ?_ rfl; simp [placesB, plR, rngK, twB, inB_self, gg0, gg1])
    replace gg1 : ce = -1 := Classical.byContradiction gg1
    by_cases gg2 : ¬ (ot = -1)
    · simp [GEntry.cells, gg0, gg1, gg2]
      ((repeat refine ⟨⟨by kernel_rfl, by kernel_rfl⟩, ?_⟩); rw [hr]; refine ret_closed rfl ?_ rfl; simp [placesB, plR, rngK, twB, inB_self, gg0, gg1, gg2])
    replace gg2 : ot = -1 := Classical.byContradiction gg2
    simp [GEntry.cells, gg0, gg1, gg2]
    ((repeat refine ⟨⟨by kernel_rfl, by kernel_rfl⟩, ?_⟩); rw [hr]; refine ret_closed rfl ?_ rfl; simp [placesB, plR, rngK, twB, inB_self, gg0, gg1, gg2])
  · clear h1
    by_cases gg0 : ¬ (tn = -1)
    · simp [GEntry.cells, gg0]
      ((repeat refine ⟨⟨by kernel_rfl, by kernel_rfl⟩, ?_⟩); rw [hr]; refine ret_closed rfl ?_ rfl; simp [placesB, plR, rngK, twB, inB_self, gg0])
    replace gg0 : tn = -1 := Classical.byContradiction gg0
    by_cases gg1 : ¬ (ce = -1)
    · simp [GEntry.cells, gg0, gg1]
      ((repeat refine ⟨⟨by kernel_rfl, by kernel_rfl⟩, ?_⟩); rw [hr]; refine ret_closed rfl ?_ rfl; simp [placesB, plR, rngK, twB, inB_self, gg0, gg1])
    replace gg1 : ce = -1 := Classical.byContradiction gg1
    by_cases gg2 : ¬ (ot = -1)
    · simp [GEntry.cells, gg0, gg1, gg2]
      ((repeat refine ⟨⟨by kernel_rfl, by kernel_rfl⟩, ?_⟩); rw [hr]; refine ret_closed rfl ?_ rfl; simp [placesB, plR, rngK, twB, inB_self, gg0, gg1, gg2])
    replace gg2 : ot = -1 := Classical.byContradiction gg2
    simp [GEntry.cells, gg0, gg1, gg2]
    ((repeat refine ⟨⟨by kernel_rfl, by kernel_rfl⟩, ?_⟩); rw [hr]; refine ret_closed rfl ?_ rfl; simp [placesB, plR, rngK, twB, inB_self, gg0, gg1, gg2])
noncomputable def numbersSp := fam (fun i : GEntry × Int => [vEntry i.1, .int .i64 i.2]) (fun _ : GEntry × Int => []) (fun i : GEntry × Int => (1 ≤ i.1.Kind ∧ i.1.Kind ≤ 16) ∧ (0 ≤ i.2 ∧ i.2 ≤ 9223372036854775807)) (fun i : GEntry × Int => ⟨.bool (numbersB i.1 i.2), []⟩)
@[simp] theorem numbersSp_eq {e : GEntry} {v : Int} (h1 : 1 ≤ e.Kind ∧ e.Kind ≤ 16) (h2 : 0 ≤ v ∧ v ≤ 9223372036854775807) : numbersSp ([vEntry e, .int .i64 v]) ([]) = some (⟨.bool (numbersB e v), []⟩) :=
  fam_eq (A := fun i : GEntry × Int => [vEntry i.1, .int .i64 i.2]) (O := fun _ : GEntry × Int => []) (res := fun i : GEntry × Int => ⟨.bool (numbersB i.1 i.2), []⟩) (by rintro ⟨a0, a1⟩ ⟨b0, b1⟩ h h' <;> simp at h h' <;> simp_all) (e, v) ⟨h1, h2⟩

set_option maxHeartbeats 40000000 in
theorem numbers_spec : Lift.Spec Tryz.prog 86 numbersSp := by
  refine spec_fam (C := CE6) types_ok CE6_ok follows Tryz.func86 (by kernel_rfl) rfl (by kernel_rfl) rfl ?_
  rintro ⟨e, v⟩ ⟨h1, h2⟩
  try simp only at h1 h2
  refine ⟨by simp, ?_⟩
  intro r hr
  have w1 : IntKind.i64.wrap (v - 1) = v - 1 := wrap_i64_in (by omega) (by omega)
  obtain ⟨kd, tk, tn, ce, ot, ep, fr, un, n⟩ := e
  simp only at h1
  rcases kinds h1 with rfl | rfl | rfl | rfl | rfl | rfl | rfl | rfl | rfl | rfl | rfl | rfl | rfl | rfl | rfl | rfl
  · clear h1
    by_cases gg0 : ¬ (ep = 0)
    · simp [GEntry.cells, gg0]
      ((repeat refine ⟨⟨by kernel_rfl, by kernel_rfl⟩, ?_⟩); rw [hr]; refine ret_closed rfl ?_ rfl; simp [numbersB, nuR, rngK, inB_self, gg0])
    replace gg0 : ep = 0 := Classical.byContradiction gg0
    by_cases gg1 : ¬ (fr = 0)
    · simp [GEntry.cells, gg0, gg1]
      ((repeat refine ⟨⟨by kernel_rfl, by kernel_rfl⟩, ?_⟩); rw [hr]; refine ret_closed rfl ?_ rfl; simp [numbersB, nuR, rngK, inB_self, gg0, gg1])
    replace gg1 : fr = 0 := Classical.byContradiction gg1
    by_cases gg2 : ¬ (un = 0)
    · simp [GEntry.cells, gg0, gg1, gg2]
      ((repeat refine ⟨⟨by kernel_rfl, by kernel_rfl⟩, ?_⟩); rw [hr]; refine ret_closed rfl ?_ rfl; simp [numbersB, nuR, rngK, inB_self, gg0, gg1, gg2])
    replace gg2 : un = 0 := Classical.byContradiction gg2
    simp [GEntry.cells, gg0, gg1, gg2]
    ((repeat refine ⟨⟨by kernel_rfl, by kernel_rfl⟩, ?_⟩); rw [hr]; refine ret_closed rfl ?_ rfl; simp [numbersB, nuR, rngK, inB_self, gg0, gg1, gg2])
  · clear h1
    cases gg0 : inB ep 1 1048576
    · simp [GEntry.cells, gg0]
      ((repeat refine ⟨⟨by kernel_rfl, by kernel_rfl⟩, ?_⟩); rw [hr]; refine ret_closed rfl ?_ rfl; simp [numbersB, nuR, rngK, gg0])
    cases gg1 : inB fr 0 1073741824
    · simp [GEntry.cells, gg0, gg1]
      ((repeat refine ⟨⟨by kernel_rfl, by kernel_rfl⟩, ?_⟩); rw [hr]; refine ret_closed rfl ?_ rfl; simp [numbersB, nuR, rngK, gg0, gg1])
    cases gg2 : inB un 0 1073741824
    · simp [GEntry.cells, gg0, gg1, gg2]
      ((repeat refine ⟨⟨by kernel_rfl, by kernel_rfl⟩, ?_⟩); rw [hr]; refine ret_closed rfl ?_ rfl; simp [numbersB, nuR, rngK, gg0, gg1, gg2])
    simp [GEntry.cells, w1, gg0, gg1, gg2]
    ((repeat refine ⟨⟨by kernel_rfl, by kernel_rfl⟩, ?_⟩); rw [hr]; refine ret_closed rfl ?_ rfl; simp [numbersB, nuR, rngK, gg0, gg1, gg2])
  · clear h1
    cases gg0 : inB ep 1 1048576
    · simp [GEntry.cells, gg0]
      ((repeat refine ⟨⟨by kernel_rfl, by kernel_rfl⟩, ?_⟩); rw [hr]; refine ret_closed rfl ?_ rfl; simp [numbersB, nuR, rngK, inB_self, gg0])
    by_cases gg1 : ¬ (fr = 0)
    · simp [GEntry.cells, gg0, gg1]
      ((repeat refine ⟨⟨by kernel_rfl, by kernel_rfl⟩, ?_⟩); rw [hr]; refine ret_closed rfl ?_ rfl; simp [numbersB, nuR, rngK, inB_self, gg0, gg1])
    replace gg1 : fr = 0 := Classical.byContradiction gg1
    by_cases gg2 : ¬ (un = 0)
    · simp [GEntry.cells, gg0, gg1, gg2]
      ((repeat refine ⟨⟨by kernel_rfl, by kernel_rfl⟩, ?_⟩); rw [hr]; refine ret_closed rfl ?_ rfl; simp [numbersB, nuR, rngK, inB_self, gg0, gg1, gg2])
    replace gg2 : un = 0 := Classical.byContradiction gg2
    simp [GEntry.cells, gg0, gg1, gg2]
    ((repeat refine ⟨⟨by kernel_rfl, by kernel_rfl⟩, ?_⟩); rw [hr]; refine ret_closed rfl ?_ rfl; simp [numbersB, nuR, rngK, inB_self, gg0, gg1, gg2])
  · clear h1
    by_cases gg0 : ¬ (ep = 0)
    · simp [GEntry.cells, gg0]
      ((repeat refine ⟨⟨by kernel_rfl, by kernel_rfl⟩, ?_⟩); rw [hr]; refine ret_closed rfl ?_ rfl; simp [numbersB, nuR, rngK, inB_self, gg0])
    replace gg0 : ep = 0 := Classical.byContradiction gg0
    by_cases gg1 : ¬ (fr = 0)
    · simp [GEntry.cells, gg0, gg1]
      ((repeat refine ⟨⟨by kernel_rfl, by kernel_rfl⟩, ?_⟩); rw [hr]; refine ret_closed rfl ?_ rfl; simp [numbersB, nuR, rngK, inB_self, gg0, gg1])
    replace gg1 : fr = 0 := Classical.byContradiction gg1
    by_cases gg2 : ¬ (un = 0)
    · simp [GEntry.cells, gg0, gg1, gg2]
      ((repeat refine ⟨⟨by kernel_rfl, by kernel_rfl⟩, ?_⟩); rw [hr]; refine ret_closed rfl ?_ rfl; simp [numbersB, nuR, rngK, inB_self, gg0, gg1, gg2])
    replace gg2 : un = 0 := Classical.byContradiction gg2
    simp [GEntry.cells, gg0, gg1, gg2]
    ((repeat refine ⟨⟨by kernel_rfl, by kernel_rfl⟩, ?_⟩); rw [hr]; refine ret_closed rfl ?_ rfl; simp [numbersB, nuR, rngK, inB_self, gg0, gg1, gg2])
  · clear h1
    by_cases gg0 : ¬ (ep = 0)
    · simp [GEntry.cells, gg0]
      ((repeat refine ⟨⟨by kernel_rfl, by kernel_rfl⟩, ?_⟩); rw [hr]; refine ret_closed rfl ?_ rfl; simp [numbersB, nuR, rngK, inB_self, gg0])
    replace gg0 : ep = 0 := Classical.byContradiction gg0
    by_cases gg1 : ¬ (fr = 0)
    · simp [GEntry.cells, gg0, gg1]
      ((repeat refine ⟨⟨by kernel_rfl, by kernel_rfl⟩, ?_⟩); rw [hr]; refine ret_closed rfl ?_ rfl; simp [numbersB, nuR, rngK, inB_self, gg0, gg1])
    replace gg1 : fr = 0 := Classical.byContradiction gg1
    by_cases gg2 : ¬ (un = 0)
    · simp [GEntry.cells, gg0, gg1, gg2]
      ((repeat refine ⟨⟨by kernel_rfl, by kernel_rfl⟩, ?_⟩); rw [hr]; refine ret_closed rfl ?_ rfl; simp [numbersB, nuR, rngK, inB_self, gg0, gg1, gg2])
    replace gg2 : un = 0 := Classical.byContradiction gg2
    simp [GEntry.cells, gg0, gg1, gg2]
    ((repeat refine ⟨⟨by kernel_rfl, by kernel_rfl⟩, ?_⟩); rw [hr]; refine ret_closed rfl ?_ rfl; simp [numbersB, nuR, rngK, inB_self, gg0, gg1, gg2])
  · clear h1
    by_cases gg0 : ¬ (ep = 0)
    · simp [GEntry.cells, gg0]
      ((repeat refine ⟨⟨by kernel_rfl, by kernel_rfl⟩, ?_⟩); rw [hr]; refine ret_closed rfl ?_ rfl; simp [numbersB, nuR, rngK, inB_self, gg0])
    replace gg0 : ep = 0 := Classical.byContradiction gg0
    by_cases gg1 : ¬ (fr = 0)
    · simp [GEntry.cells, gg0, gg1]
      ((repeat refine ⟨⟨by kernel_rfl, by kernel_rfl⟩, ?_⟩); rw [hr]; refine ret_closed rfl ?_ rfl; simp [numbersB, nuR, rngK, inB_self, gg0, gg1])
    replace gg1 : fr = 0 := Classical.byContradiction gg1
    by_cases gg2 : ¬ (un = 0)
    · simp [GEntry.cells, gg0, gg1, gg2]
      ((repeat refine ⟨⟨by kernel_rfl, by kernel_rfl⟩, ?_⟩); rw [hr]; refine ret_closed rfl ?_ rfl; simp [numbersB, nuR, rngK, inB_self, gg0, gg1, gg2])
    replace gg2 : un = 0 := Classical.byContradiction gg2
    simp [GEntry.cells, gg0, gg1, gg2]
    ((repeat refine ⟨⟨by kernel_rfl, by kernel_rfl⟩, ?_⟩); rw [hr]; refine ret_closed rfl ?_ rfl; simp [numbersB, nuR, rngK, inB_self, gg0, gg1, gg2])
  · clear h1
    by_cases gg0 : ¬ (ep = 0)
    · simp [GEntry.cells, gg0]
      ((repeat refine ⟨⟨by kernel_rfl, by kernel_rfl⟩, ?_⟩); rw [hr]; refine ret_closed rfl ?_ rfl; simp [numbersB, nuR, rngK, inB_self, gg0])
    replace gg0 : ep = 0 := Classical.byContradiction gg0
    by_cases gg1 : ¬ (fr = 0)
    · simp [GEntry.cells, gg0, gg1]
      ((repeat refine ⟨⟨by kernel_rfl, by kernel_rfl⟩, ?_⟩); rw [hr]; refine ret_closed rfl ?_ rfl; simp [numbersB, nuR, rngK, inB_self, gg0, gg1])
    replace gg1 : fr = 0 := Classical.byContradiction gg1
    by_cases gg2 : ¬ (un = 0)
    · simp [GEntry.cells, gg0, gg1, gg2]
      ((repeat refine ⟨⟨by kernel_rfl, by kernel_rfl⟩, ?_⟩); rw [hr]; refine ret_closed rfl ?_ rfl; simp [numbersB, nuR, rngK, inB_self, gg0, gg1, gg2])
    replace gg2 : un = 0 := Classical.byContradiction gg2
    simp [GEntry.cells, gg0, gg1, gg2]
    ((repeat refine ⟨⟨by kernel_rfl, by kernel_rfl⟩, ?_⟩); rw [hr]; refine ret_closed rfl ?_ rfl; simp [numbersB, nuR, rngK, inB_self, gg0, gg1, gg2])
  · clear h1
    by_cases gg0 : ¬ (ep = 0)
    · simp [GEntry.cells, gg0]
      ((repeat refine ⟨⟨by kernel_rfl, by kernel_rfl⟩, ?_⟩); rw [hr]; refine ret_closed rfl ?_ rfl; simp [numbersB, nuR, rngK, inB_self, gg0])
    replace gg0 : ep = 0 := Classical.byContradiction gg0
    by_cases gg1 : ¬ (fr = 0)
    · simp [GEntry.cells, gg0, gg1]
      ((repeat refine ⟨⟨by kernel_rfl, by kernel_rfl⟩, ?_⟩); rw [hr]; refine ret_closed rfl ?_ rfl; simp [numbersB, nuR, rngK, inB_self, gg0, gg1])
    replace gg1 : fr = 0 := Classical.byContradiction gg1
    by_cases gg2 : ¬ (un = 0)
    · simp [GEntry.cells, gg0, gg1, gg2]
      ((repeat refine ⟨⟨by kernel_rfl, by kernel_rfl⟩, ?_⟩); rw [hr]; refine ret_closed rfl ?_ rfl; simp [numbersB, nuR, rngK, inB_self, gg0, gg1, gg2])
    replace gg2 : un = 0 := Classical.byContradiction gg2
    simp [GEntry.cells, gg0, gg1, gg2]
    ((repeat refine ⟨⟨by kernel_rfl, by kernel_rfl⟩, ?_⟩); rw [hr]; refine ret_closed rfl ?_ rfl; simp [numbersB, nuR, rngK, inB_self, gg0, gg1, gg2])
  · clear h1
    by_cases gg0 : ¬ (ep = 0)
    · simp [GEntry.cells, gg0]
      ((repeat refine ⟨⟨by kernel_rfl, by kernel_rfl⟩, ?_⟩); rw [hr]; refine ret_closed rfl ?_ rfl; simp [numbersB, nuR, rngK, inB_self, gg0])
    replace gg0 : ep = 0 := Classical.byContradiction gg0
    by_cases gg1 : ¬ (fr = 0)
    · simp [GEntry.cells, gg0, gg1]
      ((repeat refine ⟨⟨by kernel_rfl, by kernel_rfl⟩, ?_⟩); rw [hr]; refine ret_closed rfl ?_ rfl; simp [numbersB, nuR, rngK, inB_self, gg0, gg1])
    replace gg1 : fr = 0 := Classical.byContradiction gg1
    by_cases gg2 : ¬ (un = 0)
    · simp [GEntry.cells, gg0, gg1, gg2]
      ((repeat refine ⟨⟨by kernel_rfl, by kernel_rfl⟩, ?_⟩); rw [hr]; refine ret_closed rfl ?_ rfl; simp [numbersB, nuR, rngK, inB_self, gg0, gg1, gg2])
    replace gg2 : un = 0 := Classical.byContradiction gg2
    simp [GEntry.cells, gg0, gg1, gg2]
    ((repeat refine ⟨⟨by kernel_rfl, by kernel_rfl⟩, ?_⟩); rw [hr]; refine ret_closed rfl ?_ rfl; simp [numbersB, nuR, rngK, inB_self, gg0, gg1, gg2])
  · clear h1
    by_cases gg0 : ¬ (ep = 0)
    · simp [GEntry.cells, gg0]
      ((repeat refine ⟨⟨by kernel_rfl, by kernel_rfl⟩, ?_⟩); rw [hr]; refine ret_closed rfl ?_ rfl; simp [numbersB, nuR, rngK, inB_self, gg0])
    replace gg0 : ep = 0 := Classical.byContradiction gg0
    by_cases gg1 : ¬ (fr = 0)
    · simp [GEntry.cells, gg0, gg1]
      ((repeat refine ⟨⟨by kernel_rfl, by kernel_rfl⟩, ?_⟩); rw [hr]; refine ret_closed rfl ?_ rfl; simp [numbersB, nuR, rngK, inB_self, gg0, gg1])
    replace gg1 : fr = 0 := Classical.byContradiction gg1
    by_cases gg2 : ¬ (un = 0)
    · simp [GEntry.cells, gg0, gg1, gg2]
      ((repeat refine ⟨⟨by kernel_rfl, by kernel_rfl⟩, ?_⟩); rw [hr]; refine ret_closed rfl ?_ rfl; simp [numbersB, nuR, rngK, inB_self, gg0, gg1, gg2])
    replace gg2 : un = 0 := Classical.byContradiction gg2
    simp [GEntry.cells, w1, gg0, gg1, gg2]
    ((repeat refine ⟨⟨by kernel_rfl, by kernel_rfl⟩, ?_⟩); rw [hr]; refine ret_closed rfl ?_ rfl; simp [numbersB, nuR, rngK, inB_self, gg0, gg1, gg2])
  · clear h1
    by_cases gg0 : ¬ (ep = 0)
    · simp [GEntry.cells, gg0]
      ((repeat refine ⟨⟨by kernel_rfl, by kernel_rfl⟩, ?_⟩); rw [hr]; refine ret_closed rfl ?_ rfl; simp [numbersB, nuR, rngK, inB_self, gg0])
    replace gg0 : ep = 0 := Classical.byContradiction gg0
    by_cases gg1 : ¬ (fr = 0)
    · simp [GEntry.cells, gg0, gg1]
      ((repeat refine ⟨⟨by kernel_rfl, by kernel_rfl⟩, ?_⟩); rw [hr]; refine ret_closed rfl ?_ rfl; simp [numbersB, nuR, rngK, inB_self, gg0, gg1])
    replace gg1 : fr = 0 := Classical.byContradiction gg1
    by_cases gg2 : ¬ (un = 0)
    · simp [GEntry.cells, gg0, gg1, gg2]
      ((repeat refine ⟨⟨by kernel_rfl, by kernel_rfl⟩, ?_⟩); rw [hr]; refine ret_closed rfl ?_ rfl; simp [numbersB, nuR, rngK, inB_self, gg0, gg1, gg2])
    replace gg2 : un = 0 := Classical.byContradiction gg2
    simp [GEntry.cells, w1, gg0, gg1, gg2]
    ((repeat refine ⟨⟨by kernel_rfl, by kernel_rfl⟩, ?_⟩); rw [hr]; refine ret_closed rfl ?_ rfl; simp [numbersB, nuR, rngK, inB_self, gg0, gg1, gg2])
  · clear h1
    by_cases gg0 : ¬ (ep = 0)
    · simp [GEntry.cells, gg0]
      ((repeat refine ⟨⟨by kernel_rfl, by kernel_rfl⟩, ?_⟩); rw [hr]; refine ret_closed rfl ?_ rfl; simp [numbersB, nuR, rngK, inB_self, gg0])
    replace gg0 : ep = 0 := Classical.byContradiction gg0
    by_cases gg1 : ¬ (fr = 0)
    · simp [GEntry.cells, gg0, gg1]
      ((repeat refine ⟨⟨by kernel_rfl, by kernel_rfl⟩, ?_⟩); rw [hr]; refine ret_closed rfl ?_ rfl; simp [numbersB, nuR, rngK, inB_self, gg0, gg1])
    replace gg1 : fr = 0 := Classical.byContradiction gg1
    by_cases gg2 : ¬ (un = 0)
    · simp [GEntry.cells, gg0, gg1, gg2]
      ((repeat refine ⟨⟨by kernel_rfl, by kernel_rfl⟩, ?_⟩); rw [hr]; refine ret_closed rfl ?_ rfl; simp [numbersB, nuR, rngK, inB_self, gg0, gg1, gg2])
    replace gg2 : un = 0 := Classical.byContradiction gg2
    simp [GEntry.cells, w1, gg0, gg1, gg2]
    ((repeat refine ⟨⟨by kernel_rfl, by kernel_rfl⟩, ?_⟩); rw [hr]; refine ret_closed rfl ?_ rfl; simp [numbersB, nuR, rngK, inB_self, gg0, gg1, gg2])
  · clear h1
    by_cases gg0 : ¬ (ep = 0)
    · simp [GEntry.cells, gg0]
      ((repeat refine ⟨⟨by kernel_rfl, by kernel_rfl⟩, ?_⟩); rw [hr]; refine ret_closed rfl ?_ rfl; simp [numbersB, nuR, rngK, inB_self, gg0])
    replace gg0 : ep = 0 := Classical.byContradiction gg0
    by_cases gg1 : ¬ (fr = 0)
    · simp [GEntry.cells, gg0, gg1]
      ((repeat refine ⟨⟨by kernel_rfl, by kernel_rfl⟩, ?_⟩); rw [hr]; refine ret_closed rfl ?_ rfl; simp [numbersB, nuR, rngK, inB_self, gg0, gg1])
    replace gg1 : fr = 0 := Classical.byContradiction gg1
    by_cases gg2 : ¬ (un = 0)
    · simp [GEntry.cells, gg0, gg1, gg2]
      ((repeat refine ⟨⟨by kernel_rfl, by kernel_rfl⟩, ?_⟩); rw [hr]; refine ret_closed rfl ?_ rfl; simp [numbersB, nuR, rngK, inB_self, gg0, gg1, gg2])
    replace gg2 : un = 0 := Classical.byContradiction gg2
    simp [GEntry.cells, gg0, gg1, gg2]
    ((repeat refine ⟨⟨by kernel_rfl, by kernel_rfl⟩, ?_⟩); rw [hr]; refine ret_closed rfl ?_ rfl; simp [numbersB, nuR, rngK, inB_self, gg0, gg1, gg2])
  · clear h1
    by_cases gg0 : ¬ (ep = 0)
    · simp [GEntry.cells, gg0]
      ((repeat refine ⟨⟨by kernel_rfl, by kernel_rfl⟩, ?_⟩); rw [hr]; refine ret_closed rfl ?_ rfl; simp [numbersB, nuR, rngK, inB_self, gg0])
    replace gg0 : ep = 0 := Classical.byContradiction gg0
    by_cases gg1 : ¬ (fr = 0)
    · simp [GEntry.cells, gg0, gg1]
      ((repeat refine ⟨⟨by kernel_rfl, by kernel_rfl⟩, ?_⟩); rw [hr]; refine ret_closed rfl ?_ rfl; simp [numbersB, nuR, rngK, inB_self, gg0, gg1])
    replace gg1 : fr = 0 := Classical.byContradiction gg1
    by_cases gg2 : ¬ (un = 0)
    · simp [GEntry.cells, gg0, gg1, gg2]
      ((repeat refine ⟨⟨by kernel_rfl, by kernel_rfl⟩, ?_⟩); rw [hr]; refine ret_closed rfl ?_ rfl; simp [numbersB, nuR, rngK, inB_self, gg0, gg1, gg2])
    replace gg2 : un = 0 := Classical.byContradiction gg2
    simp [GEntry.cells, gg0, gg1, gg2]
    ((repeat refine ⟨⟨by kernel_rfl, by kernel_rfl⟩, ?_⟩); rw [hr]; refine ret_closed rfl ?_ rfl; simp [numbersB, nuR, rngK, inB_self, gg0, gg1, gg2])
  · clear h1
    by_cases gg0 : ¬ (ep = 0)
    · simp [GEntry.cells, gg0]
      ((repeat refine ⟨⟨by kernel_rfl, by kernel_rfl⟩, ?_⟩); rw [hr]; refine ret_closed rfl ?_ rfl; simp [numbersB, nuR, rngK, inB_self, gg0])
    replace gg0 : ep = 0 := Classical.byContradiction gg0
    by_cases gg1 : ¬ (fr = 0)
    · simp [GEntry.cells, gg0, gg1]
      ((repeat refine ⟨⟨by kernel_rfl, by kernel_rfl⟩, ?_⟩); rw [hr]; refine ret_closed rfl ?_ rfl; simp [numbersB, nuR, rngK, inB_self, gg0, gg1])
    replace gg1 : fr = 0 := Classical.byContradiction gg1
    by_cases gg2 : ¬ (un = 0)
    · simp [GEntry.cells, gg0, gg1, gg2]
      ((repeat refine ⟨⟨by kernel_rfl, by kernel_rfl⟩, ?_⟩); rw [hr]; refine ret_closed rfl ?_ rfl; simp [numbersB, nuR, rngK, inB_self, gg0, gg1, gg2])
    replace gg2 : un = 0 := Classical.byContradiction gg2
    simp [GEntry.cells, gg0, gg1, gg2]
    ((repeat refine ⟨⟨by kernel_rfl, by kernel_rfl⟩, ?_⟩); rw [hr]; refine ret_closed rfl ?_ rfl; simp [numbersB, nuR, rngK, inB_self, gg0, gg1, gg2])
  · clear h1
    by_cases gg0 : ¬ (ep = 0)
    · simp [GEntry.cells, gg0]
      ((repeat refine ⟨⟨by kernel_rfl, by kernel_rfl⟩, ?_⟩); rw [hr]; refine ret_closed rfl ?_ rfl; simp [numbersB, nuR, rngK, inB_self, gg0])
    replace gg0 : ep = 0 := Classical.byContradiction gg0
    by_cases gg1 : ¬ (fr = 0)
    · simp [GEntry.cells, gg0, gg1]
      ((repeat refine ⟨⟨by kernel_rfl, by kernel_rfl⟩, ?_⟩); rw [hr]; refine ret_closed rfl ?_ rfl; simp [numbersB, nuR, rngK, inB_self, gg0, gg1])
    replace gg1 : fr = 0 := Classical.byContradiction gg1
    by_cases gg2 : ¬ (un = 0)
    · simp [GEntry.cells, gg0, gg1, gg2]
      ((repeat refine ⟨⟨by kernel_rfl, by kernel_rfl⟩, ?_⟩); rw [hr]; refine ret_closed rfl ?_ rfl; simp [numbersB, nuR, rngK, inB_self, gg0, gg1, gg2])
    replace gg2 : un = 0 := Classical.byContradiction gg2
    simp [GEntry.cells, gg0, gg1, gg2]
    ((repeat refine ⟨⟨by kernel_rfl, by kernel_rfl⟩, ?_⟩); rw [hr]; refine ret_closed rfl ?_ rfl; simp [numbersB, nuR, rngK, inB_self, gg0, gg1, gg2])
end Go.Proofs.YtlelalnahlpcpaaGreat
