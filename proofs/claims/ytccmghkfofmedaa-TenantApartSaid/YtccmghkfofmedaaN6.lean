/-
  tenant: the sanity check of the laws.
-/
import Derived.Test.YtccmghkfofmedaaN5
import Derived.Test.YtccmghkfofmedaaP7
import Derived.Test.YtccmghkfofmedaaPW2
namespace Go.Proofs.Ytccmghkfofmedaa
open Go.Lift

def two5 : GConfig := ⟨2, [⟨0⟩, ⟨1⟩], [⟨0, 5⟩, ⟨1, 7⟩], [⟨3, 0, 1, 0, 3, 0, false⟩, ⟨2, 0, 5, 0, 2, 0, false⟩], [⟨0, 0⟩], [0], [1], 1, 1, 0⟩
noncomputable def two5Sp := fam (fun _ : Unit => []) (fun _ : Unit => []) (fun _ : Unit => True) (fun _ : Unit => ⟨vConfig two5, []⟩)
@[simp] theorem two5Sp_eq {u : Unit}  : two5Sp ([]) ([]) = some (⟨vConfig two5, []⟩) :=
  fam_eq (A := fun _ : Unit => []) (O := fun _ : Unit => []) (res := fun _ : Unit => ⟨vConfig two5, []⟩) (by intro a b h h' <;> simp at h h' <;> simp_all) u trivial

theorem two5_spec : Lift.Spec Try.prog 35 two5Sp := by
  refine spec_fam (C := C0) types_ok C0_ok follows Try.func35 (by kernel_rfl) rfl (by kernel_rfl) rfl ?_
  rintro u _
  refine ⟨by simp, ?_⟩
  intro r hr
  simp
  rw [hr]
  refine Ret.weak (ret_closed rfl ?_ (vConfig_closed _)) (weak_fz [24, 48, 64, 72, 80, 104] ?_)
  · simp
    rfl
  · simp

theorem two5_topo : TopoOk two5 := by
  constructor <;> simp [two5, low0]
theorem two5_len : two5.Tenants.length ≤ 12 := by decide
theorem two5_loads : LoadsOk two5 := ⟨by decide, by simp [two5]⟩
theorem two5_valid : validN two5 = 0 := by
  rw [validN_ok (validT_ok.2 two5_topo) (b := true) (by decide)]; rfl
theorem two5_order : natI (ordN two5 two5.Tenants.length) = [1, 0] := by decide
theorem two5_homes : homesL two5 1 = [1] := by
  unfold homesL; decide
theorem two5_apart : apartB two5 0 1 = true := by decide
theorem two5_apart0 : apartB two5 0 0 = false := by decide
theorem two5_total : totTo two5 two5.Tenants.length = 5 := by decide

noncomputable def CN7 := mkC [(35, two5Sp), (27, orderSp), (23, homesSp), (15, validNSp), (20, apartSp), (29, totalSp)]
theorem CN7_ok : SpecsOk Try.prog CN7 := mkC_ok (all_cons two5_spec (all_cons order_spec (all_cons homes_spec (all_cons validN_spec (all_cons apart_spec (all_cons total_spec all_nil))))))
@[simp] theorem CN7_1 : CN7 35 = two5Sp := rfl
@[simp] theorem CN7_2 : CN7 27 = orderSp := rfl
@[simp] theorem CN7_3 : CN7 23 = homesSp := rfl
@[simp] theorem CN7_4 : CN7 15 = validNSp := rfl
@[simp] theorem CN7_5 : CN7 20 = apartSp := rfl
@[simp] theorem CN7_6 : CN7 29 = totalSp := rfl

noncomputable def trueN5 := fam (fun _ : Unit => []) (fun _ : Unit => []) (fun _ : Unit => True) (fun _ : Unit => ⟨.bool true, []⟩)
@[simp] theorem trueN5_eq {u : Unit}  : trueN5 ([]) ([]) = some (⟨.bool true, []⟩) :=
  fam_eq (A := fun _ : Unit => []) (O := fun _ : Unit => []) (res := fun _ : Unit => ⟨.bool true, []⟩) (by intro a b h h' <;> simp at h h' <;> simp_all) u trivial

@[simp] theorem trueN5_at : trueN5 [] [] = some ⟨.bool true, []⟩ := trueN5_eq (u := ())
@[simp] theorem two5Sp_at : two5Sp [] [] = some ⟨vConfig two5, []⟩ := two5Sp_eq (u := ())
theorem awake5_spec : Lift.Spec Try.prog 12 trueN5 := by
  refine spec_fam (C := CN7) types_ok CN7_ok follows Try.func12 (by kernel_rfl) rfl (by kernel_rfl) rfl ?_
  rintro u _
  refine ⟨by simp, ?_⟩
  intro r hr
  have hl := two5_topo.lens
  have ht := two5_topo
  simp [GConfig.cells, ht, hl, two5_len, two5_loads, two5_valid, two5_order, two5_homes, two5_apart, two5_apart0, two5_total]
  refine ⟨⟨by kernel_rfl, by kernel_rfl⟩, ?_⟩
  rw [hr]; refine ret_closed rfl ?_ rfl
  simp
end Go.Proofs.Ytccmghkfofmedaa
