/-
  entry: which entries have the right shape.
-/
import Derived.Test.YtlelalnahlpcpaaGreatP1
set_option linter.unusedSimpArgs false
set_option linter.unusedVariables false
namespace Go.Proofs.YtlelalnahlpcpaaGreat
open Go.Lift

attribute [simp] vEntry_fold
attribute [simp high] vEntry_cells

/-- Ranges of seven fields. -/
structure GR where
  a0 : Int
  a1 : Int
  b0 : Int
  b1 : Int
  c0 : Int
  c1 : Int
  d0 : Int
  d1 : Int
  e0 : Int
  e1 : Int
  f0 : Int
  f1 : Int
  g0 : Int
  g1 : Int
def GR.cells (r : GR) : List V := [.int .i64 r.a0, .int .i64 r.a1, .int .i64 r.b0, .int .i64 r.b1, .int .i64 r.c0, .int .i64 r.c1, .int .i64 r.d0, .int .i64 r.d1, .int .i64 r.e0, .int .i64 r.e1, .int .i64 r.f0, .int .i64 r.f1, .int .i64 r.g0, .int .i64 r.g1]
theorem GR.cells_inj {r s : GR} (h : r.cells = s.cells) : r = s := by
  cases r; cases s; simp [GR.cells] at h; simp [h]
/-- The ranges of a kind where there are so many things. -/
def rngK (k t c r v : Int) : GR :=
  if k = 1 then ⟨0, t - 1, 0, c - 1, -1, c - 1, 0, 0, 0, 0, 0, 0, 0, 0⟩
  else if k = 2 then ⟨0, t - 1, 0, c - 1, -1, -1, 1, 1048576, 0, 1073741824, 0, 1073741824, 0, v - 1⟩
  else if k = 3 then ⟨0, t - 1, -1, -1, -1, -1, 1, 1048576, 0, 0, 0, 0, 0, 0⟩
  else if k = 4 then ⟨0, t - 1, -1, c - 1, -1, -1, 0, 0, 0, 0, 0, 0, 0, 0⟩
  else if k = 5 then ⟨0, t - 1, 0, c - 1, -1, -1, 0, 0, 0, 0, 0, 0, 0, 0⟩
  else if k = 6 then ⟨0, t - 1, 0, c - 1, -1, -1, 0, 0, 0, 0, 0, 0, 0, 0⟩
  else if k = 7 then ⟨0, t - 1, -1, -1, -1, -1, 0, 0, 0, 0, 0, 0, 0, 0⟩
  else if k = 8 then ⟨0, t - 1, -1, -1, -1, -1, 0, 0, 0, 0, 0, 0, 0, 1⟩
  else if k = 9 then ⟨-1, -1, 0, c - 1, -1, -1, 0, 0, 0, 0, 0, 0, 1, 3⟩
  else if k = 10 then ⟨-1, -1, 0, c - 1, -1, -1, 0, 0, 0, 0, 0, 0, 0, v - 1⟩
  else if k = 11 then ⟨-1, -1, 0, c - 1, -1, -1, 0, 0, 0, 0, 0, 0, 0, v - 1⟩
  else if k = 12 then ⟨-1, -1, -1, -1, -1, -1, 0, 0, 0, 0, 0, 0, 0, v - 1⟩
  else if k = 13 then ⟨-1, -1, -1, -1, 0, r - 1, 0, 0, 0, 0, 0, 0, 0, 1⟩
  else if k = 14 then ⟨-1, -1, -1, -1, -1, -1, 0, 0, 0, 0, 0, 0, 0, 0⟩
  else if k = 15 then ⟨-1, -1, -1, -1, -1, -1, 0, 0, 0, 0, 0, 0, 0, 0⟩
  else if k = 16 then ⟨-1, -1, -1, -1, -1, -1, 0, 0, 0, 0, 0, 0, 0, 1073741824⟩
  else ⟨0, 0, 0, 0, 0, 0, 0, 0, 0, 0, 0, 0, 0, 0⟩

noncomputable def spanHasSp := fam (fun i : Int × Int × Int => [V.agg [.int .i64 i.1, .int .i64 i.2.1], .int .i64 i.2.2]) (fun _ : Int × Int × Int => []) (fun _ : Int × Int × Int => True) (fun i : Int × Int × Int => ⟨.bool (inB i.2.2 i.1 i.2.1), []⟩)
@[simp] theorem spanHasSp_eq {lo : Int} {hi : Int} {n : Int}  : spanHasSp ([V.agg [.int .i64 lo, .int .i64 hi], .int .i64 n]) ([]) = some (⟨.bool (inB n lo hi), []⟩) :=
  fam_eq (A := fun i : Int × Int × Int => [V.agg [.int .i64 i.1, .int .i64 i.2.1], .int .i64 i.2.2]) (O := fun _ : Int × Int × Int => []) (res := fun i : Int × Int × Int => ⟨.bool (inB i.2.2 i.1 i.2.1), []⟩) (by rintro ⟨a0, a1, a2⟩ ⟨b0, b1, b2⟩ h h' <;> simp at h h' <;> simp_all) (lo, hi, n) trivial

theorem spanHas_spec : Lift.Spec Tryz.prog 111 spanHasSp := by
  refine spec_fam (C := C0) types_ok C0_ok follows Tryz.func111 (by kernel_rfl) rfl (by kernel_rfl) rfl ?_
  rintro ⟨lo, hi, n⟩ _
  refine ⟨by simp, ?_⟩
  intro r hr
  by_cases h : lo ≤ n <;> simp [h]
  all_goals (rw [hr]; refine ret_closed rfl ?_ rfl; simp [inB, h])

noncomputable def indicesSp := fam (fun i : Int => [V.int .i64 i]) (fun _ : Int => []) (fun i : Int => (0 ≤ i) ∧ (i ≤ 9223372036854775807)) (fun i : Int => ⟨.agg [.int .i64 0, .int .i64 (i - 1)], []⟩)
@[simp] theorem indicesSp_eq {n : Int} (h1 : 0 ≤ n) (h2 : n ≤ 9223372036854775807) : indicesSp ([V.int .i64 n]) ([]) = some (⟨.agg [.int .i64 0, .int .i64 (n - 1)], []⟩) :=
  fam_eq (A := fun i : Int => [V.int .i64 i]) (O := fun _ : Int => []) (res := fun i : Int => ⟨.agg [.int .i64 0, .int .i64 (i - 1)], []⟩) (by intro a b h h' <;> simp at h h' <;> simp_all) n ⟨h1, h2⟩

theorem indices_spec : Lift.Spec Tryz.prog 113 indicesSp := by
  refine spec_fam (C := C0) types_ok C0_ok follows Tryz.func113 (by kernel_rfl) rfl (by kernel_rfl) rfl ?_
  rintro n ⟨h1, h2⟩
  try simp only at h1 h2
  refine ⟨by simp, ?_⟩
  intro r hr
  have w : IntKind.i64.wrap (n - 1) = n - 1 := wrap_i64_in (by omega) (by omega)
  simp [w]
  rw [hr]; refine ret_closed rfl ?_ rfl
  simp

noncomputable def orNoneSp := fam (fun i : Int × Int => [V.agg [.int .i64 i.1, .int .i64 i.2]]) (fun _ : Int × Int => []) (fun _ : Int × Int => True) (fun i : Int × Int => ⟨.agg [.int .i64 (-1), .int .i64 i.2], []⟩)
@[simp] theorem orNoneSp_eq {lo : Int} {hi : Int}  : orNoneSp ([V.agg [.int .i64 lo, .int .i64 hi]]) ([]) = some (⟨.agg [.int .i64 (-1), .int .i64 hi], []⟩) :=
  fam_eq (A := fun i : Int × Int => [V.agg [.int .i64 i.1, .int .i64 i.2]]) (O := fun _ : Int × Int => []) (res := fun i : Int × Int => ⟨.agg [.int .i64 (-1), .int .i64 i.2], []⟩) (by rintro ⟨a0, a1⟩ ⟨b0, b1⟩ h h' <;> simp at h h' <;> simp_all) (lo, hi) trivial

theorem orNone_spec : Lift.Spec Tryz.prog 115 orNoneSp := by
  refine spec_fam (C := C0) types_ok C0_ok follows Tryz.func115 (by kernel_rfl) rfl (by kernel_rfl) rfl ?_
  rintro ⟨lo, hi⟩ _
  refine ⟨by simp, ?_⟩
  intro r hr
  simp
  rw [hr]; refine ret_closed rfl ?_ rfl
  simp

noncomputable def unusedSp := fam (fun _ : Unit => []) (fun _ => []) (fun _ => True) (fun _ => ⟨.agg [.int .i64 (-1), .int .i64 (-1), .int .i64 (-1), .int .i64 (-1), .int .i64 (-1), .int .i64 (-1), .int .i64 0, .int .i64 0, .int .i64 0, .int .i64 0, .int .i64 0, .int .i64 0, .int .i64 0, .int .i64 0], []⟩)
@[simp] theorem unusedSp_eq : unusedSp [] [] = some ⟨.agg [.int .i64 (-1), .int .i64 (-1), .int .i64 (-1), .int .i64 (-1), .int .i64 (-1), .int .i64 (-1), .int .i64 0, .int .i64 0, .int .i64 0, .int .i64 0, .int .i64 0, .int .i64 0, .int .i64 0, .int .i64 0], []⟩ :=
  fam_eq (A := fun _ : Unit => []) (fun _ _ _ _ => rfl) () trivial
theorem unused_spec : Lift.Spec Tryz.prog 114 unusedSp := by
  refine spec_fam (C := C0) types_ok C0_ok follows Tryz.func114 (by kernel_rfl) rfl (by kernel_rfl) rfl ?_
  rintro u _
  refine ⟨by simp, ?_⟩
  intro r hr
  simp
  rw [hr]; refine ret_closed rfl ?_ rfl
  simp

def twB (e : GEntry) : Bool := decide (e.Kind = 1 ∧ e.Other = e.Cell)
noncomputable def twiceSp := fam (fun i : GEntry => [vEntry i]) (fun _ : GEntry => []) (fun _ : GEntry => True) (fun i : GEntry => ⟨.bool (twB i), []⟩)
@[simp] theorem twiceSp_eq {e : GEntry}  : twiceSp ([vEntry e]) ([]) = some (⟨.bool (twB e), []⟩) :=
  fam_eq (A := fun i : GEntry => [vEntry i]) (O := fun _ : GEntry => []) (res := fun i : GEntry => ⟨.bool (twB i), []⟩) (by intro a b h h' <;> simp at h h' <;> simp_all) e trivial

theorem twice_spec : Lift.Spec Tryz.prog 110 twiceSp := by
  refine spec_fam (C := C0) types_ok C0_ok follows Tryz.func110 (by kernel_rfl) rfl (by kernel_rfl) rfl ?_
  rintro e _
  refine ⟨by simp, ?_⟩
  intro r hr
  by_cases h : e.Kind = 1 <;> simp [GEntry.cells, h]
  all_goals (rw [hr]; refine ret_closed rfl ?_ rfl; simp [twB, h])

noncomputable def CE1 := mkC [(111, spanHasSp), (113, indicesSp), (115, orNoneSp), (114, unusedSp), (110, twiceSp)]
theorem CE1_ok : SpecsOk Tryz.prog CE1 := mkC_ok (all_cons spanHas_spec (all_cons indices_spec (all_cons orNone_spec (all_cons unused_spec (all_cons twice_spec all_nil)))))
@[simp] theorem CE1_1 : CE1 111 = spanHasSp := rfl
@[simp] theorem CE1_2 : CE1 113 = indicesSp := rfl
@[simp] theorem CE1_3 : CE1 115 = orNoneSp := rfl
@[simp] theorem CE1_4 : CE1 114 = unusedSp := rfl
@[simp] theorem CE1_5 : CE1 110 = twiceSp := rfl

noncomputable def rangesSp := fam (fun i : Int × Int × Int × Int × Int => [V.int .i64 i.1, .agg [.int .i64 i.2.1, .int .i64 i.2.2.1, .int .i64 i.2.2.2.1, .int .i64 i.2.2.2.2]]) (fun _ : Int × Int × Int × Int × Int => []) (fun i : Int × Int × Int × Int × Int => (0 ≤ i.2.1 ∧ i.2.1 ≤ 9223372036854775807) ∧ (0 ≤ i.2.2.1 ∧ i.2.2.1 ≤ 9223372036854775807) ∧ (0 ≤ i.2.2.2.1 ∧ i.2.2.2.1 ≤ 9223372036854775807) ∧ (0 ≤ i.2.2.2.2 ∧ i.2.2.2.2 ≤ 9223372036854775807)) (fun i : Int × Int × Int × Int × Int => ⟨.tup [.agg (rngK i.1 i.2.1 i.2.2.1 i.2.2.2.1 i.2.2.2.2).cells, .bool (inB i.1 1 16)], []⟩)
@[simp] theorem rangesSp_eq {k : Int} {t : Int} {c : Int} {r : Int} {v : Int} (h1 : 0 ≤ t ∧ t ≤ 9223372036854775807) (h2 : 0 ≤ c ∧ c ≤ 9223372036854775807) (h3 : 0 ≤ r ∧ r ≤ 9223372036854775807) (h4 : 0 ≤ v ∧ v ≤ 9223372036854775807) : rangesSp ([V.int .i64 k, .agg [.int .i64 t, .int .i64 c, .int .i64 r, .int .i64 v]]) ([]) = some (⟨.tup [.agg (rngK k t c r v).cells, .bool (inB k 1 16)], []⟩) :=
  fam_eq (A := fun i : Int × Int × Int × Int × Int => [V.int .i64 i.1, .agg [.int .i64 i.2.1, .int .i64 i.2.2.1, .int .i64 i.2.2.2.1, .int .i64 i.2.2.2.2]]) (O := fun _ : Int × Int × Int × Int × Int => []) (res := fun i : Int × Int × Int × Int × Int => ⟨.tup [.agg (rngK i.1 i.2.1 i.2.2.1 i.2.2.2.1 i.2.2.2.2).cells, .bool (inB i.1 1 16)], []⟩) (by rintro ⟨a0, a1, a2, a3, a4⟩ ⟨b0, b1, b2, b3, b4⟩ h h' <;> simp at h h' <;> simp_all) (k, t, c, r, v) ⟨h1, h2, h3, h4⟩

set_option maxHeartbeats 40000000 in
theorem ranges_spec : Lift.Spec Tryz.prog 109 rangesSp := by
  refine spec_fam (C := CE1) types_ok CE1_ok follows Tryz.func109 (by kernel_rfl) rfl (by kernel_rfl) rfl ?_
  rintro ⟨k, t, c, r, v⟩ ⟨h1, h2, h3, h4⟩
  try simp only at h1 h2 h3 h4
  refine ⟨by simp, ?_⟩
  intro r hr
  by_cases hk : ¬ (1 ≤ k ∧ k ≤ 16)
  · have e : ∀ n : Int, 1 ≤ n → n ≤ 16 → (k = n) = False := fun n a b => eq_false (by omega)
    simp [h1, h2, h3, h4, e]
    ((repeat refine ⟨⟨by kernel_rfl, by kernel_rfl⟩, ?_⟩); rw [hr]; refine ret_closed rfl ?_ rfl; simp [rngK, GR.cells, inB, hk, e])
  · replace hk : 1 ≤ k ∧ k ≤ 16 := Classical.byContradiction hk
    have : k = 1 ∨ k = 2 ∨ k = 3 ∨ k = 4 ∨ k = 5 ∨ k = 6 ∨ k = 7 ∨ k = 8 ∨ k = 9 ∨ k = 10 ∨ k = 11 ∨ k = 12 ∨ k = 13 ∨ k = 14 ∨ k = 15 ∨ k = 16 := by omega
    clear hk
    rcases this with rfl | rfl | rfl | rfl | rfl | rfl | rfl | rfl | rfl | rfl | rfl | rfl | rfl | rfl | rfl | rfl
    all_goals
      simp [h1, h2, h3, h4]
      ((repeat refine ⟨⟨by kernel_rfl, by kernel_rfl⟩, ?_⟩); rw [hr]; refine ret_closed rfl ?_ rfl; simp [rngK, GR.cells, inB])

noncomputable def CE2 := mkC [(111, spanHasSp), (110, twiceSp), (109, rangesSp)]
theorem CE2_ok : SpecsOk Tryz.prog CE2 := mkC_ok (all_cons spanHas_spec (all_cons twice_spec (all_cons ranges_spec all_nil)))
@[simp] theorem CE2_1 : CE2 111 = spanHasSp := rfl
@[simp] theorem CE2_2 : CE2 110 = twiceSp := rfl
@[simp] theorem CE2_3 : CE2 109 = rangesSp := rfl

/-- Whether the fields of an entry lie in their ranges. -/
def inR (e : GEntry) (R : GR) : Bool :=
  inB e.Tick 0 1073741824 && (inB e.Tenant R.a0 R.a1 && (inB e.Cell R.b0 R.b1 && (inB e.Other R.c0 R.c1 && (inB e.Epoch R.d0 R.d1 && (inB e.From R.e0 R.e1 && (inB e.Until R.f0 R.f1 && inB e.N R.g0 R.g1))))))
def fitE (t c r v : Int) (e : GEntry) : Bool :=
  inB e.Kind 1 16 && (!(twB e) && inR e (rngK e.Kind t c r v))
noncomputable def fitsESp := fam (fun i : GEntry × Int × Int × Int × Int => [vEntry i.1, .agg [.int .i64 i.2.1, .int .i64 i.2.2.1, .int .i64 i.2.2.2.1, .int .i64 i.2.2.2.2]]) (fun _ : GEntry × Int × Int × Int × Int => []) (fun i : GEntry × Int × Int × Int × Int => (0 ≤ i.2.1 ∧ i.2.1 ≤ 9223372036854775807) ∧ (0 ≤ i.2.2.1 ∧ i.2.2.1 ≤ 9223372036854775807) ∧ (0 ≤ i.2.2.2.1 ∧ i.2.2.2.1 ≤ 9223372036854775807) ∧ (0 ≤ i.2.2.2.2 ∧ i.2.2.2.2 ≤ 9223372036854775807)) (fun i : GEntry × Int × Int × Int × Int => ⟨.bool (fitE i.2.1 i.2.2.1 i.2.2.2.1 i.2.2.2.2 i.1), []⟩)
@[simp] theorem fitsESp_eq {e : GEntry} {t : Int} {c : Int} {g : Int} {v : Int} (h1 : 0 ≤ t ∧ t ≤ 9223372036854775807) (h2 : 0 ≤ c ∧ c ≤ 9223372036854775807) (h3 : 0 ≤ g ∧ g ≤ 9223372036854775807) (h4 : 0 ≤ v ∧ v ≤ 9223372036854775807) : fitsESp ([vEntry e, .agg [.int .i64 t, .int .i64 c, .int .i64 g, .int .i64 v]]) ([]) = some (⟨.bool (fitE t c g v e), []⟩) :=
  fam_eq (A := fun i : GEntry × Int × Int × Int × Int => [vEntry i.1, .agg [.int .i64 i.2.1, .int .i64 i.2.2.1, .int .i64 i.2.2.2.1, .int .i64 i.2.2.2.2]]) (O := fun _ : GEntry × Int × Int × Int × Int => []) (res := fun i : GEntry × Int × Int × Int × Int => ⟨.bool (fitE i.2.1 i.2.2.1 i.2.2.2.1 i.2.2.2.2 i.1), []⟩) (by rintro ⟨a0, a1, a2, a3, a4⟩ ⟨b0, b1, b2, b3, b4⟩ h h' <;> simp at h h' <;> simp_all) (e, t, c, g, v) ⟨h1, h2, h3, h4⟩

set_option maxHeartbeats 40000000 in
theorem fitsE_spec : Lift.Spec Tryz.prog 103 fitsESp := by
  refine spec_fam (C := CE2) types_ok CE2_ok follows Tryz.func103 (by kernel_rfl) rfl (by kernel_rfl) rfl ?_
  rintro ⟨e, t, c, g, v⟩ ⟨h1, h2, h3, h4⟩
  try simp only at h1 h2 h3 h4
  refine ⟨by simp, ?_⟩
  intro r hr
  have hR : ∃ R, R = rngK e.Kind t c g v := ⟨_, rfl⟩
  obtain ⟨R, hR⟩ := hR
  cases gg0 : inB e.Kind 1 16
  · simp [GEntry.cells, h1, h2, h3, h4, ← hR, GR.cells, gg0]
    ((repeat refine ⟨⟨by kernel_rfl, by kernel_rfl⟩, ?_⟩); rw [hr]; refine ret_closed rfl ?_ rfl; simp [fitE, inR, ← hR, gg0])
  cases gg1 : twB e
  rotate_left
  · simp [GEntry.cells, h1, h2, h3, h4, ← hR, GR.cells, gg0, gg1]
    ((repeat refine ⟨⟨by kernel_rfl, by kernel_rfl⟩, ?_⟩); rw [hr]; refine ret_closed rfl ?_ rfl; simp [fitE, inR, ← hR, gg0, gg1])
  cases gg2 : inB e.Tick 0 1073741824
  · simp [GEntry.cells, h1, h2, h3, h4, ← hR, GR.cells, gg0, gg1, gg2]
    ((repeat refine ⟨⟨by kernel_rfl, by kernel_rfl⟩, ?_⟩); rw [hr]; refine ret_closed rfl ?_ rfl; simp [fitE, inR, ← hR, gg0, gg1, gg2])
  cases gg3 : inB e.Tenant R.a0 R.a1
  · simp [GEntry.cells, h1, h2, h3, h4, ← hR, GR.cells, gg0, gg1, gg2, gg3]
    ((repeat refine ⟨⟨by kernel_rfl, by kernel_rfl⟩, ?_⟩); rw [hr]; refine ret_closed rfl ?_ rfl; simp [fitE, inR, ← hR, gg0, gg1, gg2, gg3])
  cases gg4 : inB e.Cell R.b0 R.b1
  · simp [GEntry.cells, h1, h2, h3, h4, ← hR, GR.cells, gg0, gg1, gg2, gg3, gg4]
    ((repeat refine ⟨⟨by kernel_rfl, by kernel_rfl⟩, ?_⟩); rw [hr]; refine ret_closed rfl ?_ rfl; simp [fitE, inR, ← hR, gg0, gg1, gg2, gg3, gg4])
  cases gg5 : inB e.Other R.c0 R.c1
  · simp [GEntry.cells, h1, h2, h3, h4, ← hR, GR.cells, gg0, gg1, gg2, gg3, gg4, gg5]
    ((repeat refine ⟨⟨by kernel_rfl, by kernel_rfl⟩, ?_⟩); rw [hr]; refine ret_closed rfl ?_ rfl; simp [fitE, inR, ← hR, gg0, gg1, gg2, gg3, gg4, gg5])
  cases gg6 : inB e.Epoch R.d0 R.d1
  · simp [GEntry.cells, h1, h2, h3, h4, ← hR, GR.cells, gg0, gg1, gg2, gg3, gg4, gg5, gg6]
    ((repeat refine ⟨⟨by kernel_rfl, by kernel_rfl⟩, ?_⟩); rw [hr]; refine ret_closed rfl ?_ rfl; simp [fitE, inR, ← hR, gg0, gg1, gg2, gg3, gg4, gg5, gg6])
  cases gg7 : inB e.From R.e0 R.e1
  · simp [GEntry.cells, h1, h2, h3, h4, ← hR, GR.cells, gg0, gg1, gg2, gg3, gg4, gg5, gg6, gg7]
    ((repeat refine ⟨⟨by kernel_rfl, by kernel_rfl⟩, ?_⟩); rw [hr]; refine ret_closed rfl ?_ rfl; simp [fitE, inR, ← hR, gg0, gg1, gg2, gg3, gg4, gg5, gg6, gg7])
  cases gg8 : inB e.Until R.f0 R.f1
  · simp [GEntry.cells, h1, h2, h3, h4, ← hR, GR.cells, gg0, gg1, gg2, gg3, gg4, gg5, gg6, gg7, gg8]
    ((repeat refine ⟨⟨by kernel_rfl, by kernel_rfl⟩, ?_⟩); rw [hr]; refine ret_closed rfl ?_ rfl; simp [fitE, inR, ← hR, gg0, gg1, gg2, gg3, gg4, gg5, gg6, gg7, gg8])
  simp [GEntry.cells, h1, h2, h3, h4, ← hR, GR.cells, gg0, gg1, gg2, gg3, gg4, gg5, gg6, gg7, gg8]
  ((repeat refine ⟨⟨by kernel_rfl, by kernel_rfl⟩, ?_⟩); rw [hr]; refine ret_closed rfl ?_ rfl; simp [fitE, inR, ← hR, gg0, gg1, gg2, gg3, gg4, gg5, gg6, gg7, gg8])

noncomputable def CE3 := mkC [(103, fitsESp)]
theorem CE3_ok : SpecsOk Tryz.prog CE3 := mkC_ok (all_cons fitsE_spec all_nil)
@[simp] theorem CE3_1 : CE3 103 = fitsESp := rfl

def shapeE (e : GEntry) : Bool := fitE 32 16 4 30 e
noncomputable def shapeSp := fam (fun i : GEntry => [vEntry i]) (fun _ : GEntry => []) (fun _ : GEntry => True) (fun i : GEntry => ⟨.bool (shapeE i), []⟩)
@[simp] theorem shapeSp_eq {e : GEntry}  : shapeSp ([vEntry e]) ([]) = some (⟨.bool (shapeE e), []⟩) :=
  fam_eq (A := fun i : GEntry => [vEntry i]) (O := fun _ : GEntry => []) (res := fun i : GEntry => ⟨.bool (shapeE i), []⟩) (by intro a b h h' <;> simp at h h' <;> simp_all) e trivial

theorem shape_spec : Lift.Spec Tryz.prog 92 shapeSp := by
  refine spec_fam (C := CE3) types_ok CE3_ok follows Tryz.func92 (by kernel_rfl) rfl (by kernel_rfl) rfl ?_
  rintro e _
  refine ⟨by simp, ?_⟩
  intro r hr
  simp [GEntry.cells]
  ((repeat refine ⟨⟨by kernel_rfl, by kernel_rfl⟩, ?_⟩); rw [hr]; refine ret_closed rfl ?_ rfl; simp [shapeE])
noncomputable def CE4 := mkC [(103, fitsESp), (92, shapeSp)]
theorem CE4_ok : SpecsOk Tryz.prog CE4 := mkC_ok (all_cons fitsE_spec (all_cons shape_spec all_nil))
@[simp] theorem CE4_1 : CE4 103 = fitsESp := rfl
@[simp] theorem CE4_2 : CE4 92 = shapeSp := rfl

end Go.Proofs.YtlelalnahlpcpaaGreat
