/-
  digest: the reference's functions, and the laws over them.
-/
import Derived.Test.YtgnfgcpolbcaoaaD1
namespace Go.Proofs.Ytgnfgcpolbcaoaa
open Go.Lift

theorem refmix_spec : Lift.Spec Try.prog 41 mixSp := by
  refine spec_fam (C := C0) types_ok C0_ok follows Try.func41 (by kernel_rfl) rfl (by kernel_rfl) rfl ?_
  rintro ⟨h, n⟩ _
  refine ⟨by simp, ?_⟩
  intro r hr
  simp
  rw [hr]; refine ret_closed rfl ?_ rfl
  simp [mix_body]

noncomputable def CD4 := mkC [(41, mixSp)]
theorem CD4_ok : SpecsOk Try.prog CD4 := mkC_ok (all_cons refmix_spec all_nil)
@[simp] theorem CD4_1 : CD4 41 = mixSp := rfl

noncomputable def rxSt (h : Int) (t : Nat) (l : List UInt8) (i : Nat) : St :=
  mkSt [(0, .int .u64 (foldI h (l.take i))), (1, .sl t 1 (byteRow l)), (5, .int .i64 i)] [] 0

theorem refall_spec : Lift.Spec Try.prog 40 mixAllSp := by
  refine spec_fam (C := CD4) types_ok CD4_ok follows Try.func40 (by kernel_rfl) rfl (by kernel_rfl) rfl ?_
  rintro ⟨h, t, l⟩ ⟨hh, hl⟩
  simp only at hh hl
  refine ⟨by simp, ?_⟩
  intro r hr
  simp
  refine axwp_loop (rxSt h t l) (fun i => i ≤ l.length) (fun i => l.length - i) 0 ?_ (Nat.zero_le _) ?_
  · refine weak_mk id ?_ ?_ ?_ ?_ <;> simp [foldI_nil]
  · intro i hi
    have hin := foldI_in hh (l.take i)
    by_cases hik : i < l.length
    · obtain ⟨x, hx, hx'⟩ : ∃ x, l[i]? = some x ∧ l[i] = x := ⟨_, List.getElem?_eq_getElem hik, rfl⟩
      have w0 : IntKind.i64.wrap (x.toNat : Int) = (x.toNat : Int) := by have := x.toNat_lt; exact wrap_i64_in (by omega) (by omega)
      have w4 : IntKind.i64.wrap ((i : Int) + 1) = (i : Int) + 1 := wrap_i64_in (by omega) (by omega)
      simp [rxSt, hik, hx', w0, w4, hin]
      refine Again.mk (i + 1) ?_ ?_ ?_
      · exact hik
      · omega
      · refine weak_mk id ?_ ?_ ?_ ?_ <;> simp [foldI_take hx]
    · have e : i = l.length := by omega
      subst e
      rw [List.take_length] at hin
      simp [rxSt, hin, in64_nat hl]
      rw [hr]; refine ret_closed rfl ?_ rfl
      simp [allI]

noncomputable def CD5 := mkC [(41, mixSp), (40, mixAllSp)]
theorem CD5_ok : SpecsOk Try.prog CD5 := mkC_ok (all_cons refmix_spec (all_cons refall_spec all_nil))
@[simp] theorem CD5_1 : CD5 41 = mixSp := rfl
@[simp] theorem CD5_2 : CD5 40 = mixAllSp := rfl

theorem refsum_spec : Lift.Spec Try.prog 29 sumSp := by
  refine spec_fam (C := CD5) types_ok CD5_ok follows Try.func29 (by kernel_rfl) rfl (by kernel_rfl) rfl ?_
  rintro ⟨h, t, l⟩ ⟨hh, hl⟩
  simp only at hh hl
  refine ⟨by simp, ?_⟩
  intro r hr
  simp [hh, hl, basis_in]
  rw [hr]; refine ret_closed rfl ?_ rfl
  simp [sumI_eq]

noncomputable def CD6 := mkC [(37, mixSp), (25, sumSp), (41, mixSp), (29, sumSp)]
theorem CD6_ok : SpecsOk Try.prog CD6 := mkC_ok (all_cons mix_spec (all_cons sum_spec (all_cons refmix_spec (all_cons refsum_spec all_nil))))
@[simp] theorem CD6_1 : CD6 37 = mixSp := rfl
@[simp] theorem CD6_2 : CD6 25 = sumSp := rfl
@[simp] theorem CD6_3 : CD6 41 = mixSp := rfl
@[simp] theorem CD6_4 : CD6 29 = sumSp := rfl

end Go.Proofs.Ytgnfgcpolbcaoaa
