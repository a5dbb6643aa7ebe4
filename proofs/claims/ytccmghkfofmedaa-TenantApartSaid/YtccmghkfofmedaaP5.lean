/-
  topo: the laws' own functions.
-/
import Derived.Test.YtccmghkfofmedaaP4
import Derived.Test.YtccmghkfofmedaaM3
namespace Go.Proofs.Ytccmghkfofmedaa
open Go.Lift

noncomputable def smallSp := fam (fun i : GConfig => [vConfig i]) (fun _ : GConfig => []) (fun _ : GConfig => True) (fun i : GConfig => ⟨.bool (decide ((i.Zones.length : Int) ≤ 20 ∧ (i.Cells.length : Int) ≤ 20 ∧ (i.Tenants.length : Int) ≤ 40 ∧ (i.Versions.length : Int) ≤ 40 ∧ (i.Replicas.length : Int) ≤ 12 ∧ (i.Observers.length : Int) ≤ 12)), []⟩)
@[simp] theorem smallSp_eq {C : GConfig}  : smallSp ([vConfig C]) ([]) = some (⟨.bool (decide ((C.Zones.length : Int) ≤ 20 ∧ (C.Cells.length : Int) ≤ 20 ∧ (C.Tenants.length : Int) ≤ 40 ∧ (C.Versions.length : Int) ≤ 40 ∧ (C.Replicas.length : Int) ≤ 12 ∧ (C.Observers.length : Int) ≤ 12)), []⟩) :=
  fam_eq (A := fun i : GConfig => [vConfig i]) (O := fun _ : GConfig => []) (res := fun i : GConfig => ⟨.bool (decide ((i.Zones.length : Int) ≤ 20 ∧ (i.Cells.length : Int) ≤ 20 ∧ (i.Tenants.length : Int) ≤ 40 ∧ (i.Versions.length : Int) ≤ 40 ∧ (i.Replicas.length : Int) ≤ 12 ∧ (i.Observers.length : Int) ≤ 12)), []⟩) (by intro a b h h' <;> simp at h h' <;> simp_all) C trivial

theorem small_spec : Lift.Spec Try.prog 10 smallSp := by
  refine spec_fam (C := C0) types_ok C0_ok follows Try.func10 (by kernel_rfl) rfl (by kernel_rfl) rfl ?_
  rintro C _
  refine ⟨by simp, ?_⟩
  intro r hr
  by_cases n1 : ¬ (C.Zones.length : Int) ≤ 20
  · simp [GConfig.cells, n1]
    rw [hr]; refine ret_closed rfl ?_ rfl
    simp [n1]
  have h1 : (C.Zones.length : Int) ≤ 20 := by omega
  by_cases n2 : ¬ (C.Cells.length : Int) ≤ 20
  · simp [GConfig.cells, h1, n2]
    rw [hr]; refine ret_closed rfl ?_ rfl
    simp [h1, n2]
  have h2 : (C.Cells.length : Int) ≤ 20 := by omega
  by_cases n3 : ¬ (C.Tenants.length : Int) ≤ 40
  · simp [GConfig.cells, h1, h2, n3]
    rw [hr]; refine ret_closed rfl ?_ rfl
    simp [h1, h2, n3]
  have h3 : (C.Tenants.length : Int) ≤ 40 := by omega
  by_cases n4 : ¬ (C.Versions.length : Int) ≤ 40
  · simp [GConfig.cells, h1, h2, h3, n4]
    rw [hr]; refine ret_closed rfl ?_ rfl
    simp [h1, h2, h3, n4]
  have h4 : (C.Versions.length : Int) ≤ 40 := by omega
  by_cases n5 : ¬ (C.Replicas.length : Int) ≤ 12
  · simp [GConfig.cells, h1, h2, h3, h4, n5]
    rw [hr]; refine ret_closed rfl ?_ rfl
    simp [h1, h2, h3, h4, n5]
  have h5 : (C.Replicas.length : Int) ≤ 12 := by omega
  simp [GConfig.cells, h1, h2, h3, h4, h5]
  rw [hr]; refine ret_closed rfl ?_ rfl
  simp [h1, h2, h3, h4, h5]

def twoC : GConfig := ⟨2, [⟨0⟩, ⟨1⟩], [⟨0, 5⟩, ⟨1, 7⟩], [], [⟨0, 0⟩], [0], [1], 1, 1, 0⟩
noncomputable def twoSp := fam (fun _ : Unit => []) (fun _ : Unit => []) (fun _ : Unit => True) (fun _ : Unit => ⟨vConfig twoC, []⟩)
@[simp] theorem twoSp_eq {u : Unit}  : twoSp ([]) ([]) = some (⟨vConfig twoC, []⟩) :=
  fam_eq (A := fun _ : Unit => []) (O := fun _ : Unit => []) (res := fun _ : Unit => ⟨vConfig twoC, []⟩) (by intro a b h h' <;> simp at h h' <;> simp_all) u trivial

theorem two_zone : ∀ i : Int, zoneAt twoC i = if i = 0 then 0 else if i = 1 then 1 else -1 := by
  intro i
  by_cases h0 : i = 0
  · subst h0; rfl
  by_cases h1 : i = 1
  · subst h1; rfl
  rw [if_neg h0, if_neg h1]
  refine zoneAt_out ?_
  unfold exB
  simp [twoC]; omega
theorem two_topo : TopoOk twoC := by
  constructor <;> simp [twoC, low0]
theorem two_valid : validT twoC = 0 := validT_ok.2 two_topo
theorem two_region1 : regionAt twoC 1 = 1 := rfl
theorem two_region2 : regionAt twoC 2 = -1 := rfl
theorem two_alive : aliveL twoC 1 = [1] := by decide
theorem two_maj2 : majB twoC 2 = true := by decide
theorem two_maj1 : majB twoC 1 = false := by decide
end Go.Proofs.Ytccmghkfofmedaa
