/-
  digest: the reference's functions, and the laws over them.
-/
import Derived.Test.YtopoplebnbcalaaD1
namespace Go.Proofs.Ytopoplebnbcalaa
open Go.Lift

theorem refmix_spec : Lift.Spec Try.prog 34 mixSp := by
  refine spec_fam (C := C0) types_ok C0_ok follows Try.func34 (by kernel_rfl) rfl (by kernel_rfl) rfl ?_
  rintro ⟨h, n⟩ _
  refine ⟨by simp, ?_⟩
  intro r hr
  simp
  rw [hr]; refine ret_closed rfl ?_ rfl
  simp [mix_body]

noncomputable def CD4 := mkC [(34, mixSp)]
theorem CD4_ok : SpecsOk Try.prog CD4 := mkC_ok (all_cons refmix_spec all_nil)
@[simp] theorem CD4_1 : CD4 34 = mixSp := rfl

noncomputable def rxSt (h : Int) (t : Nat) (l : List UInt8) (i : Nat) : St :=
  mkSt [(0, .int .u64 (foldI h (l.take i))), (1, .sl t 1 (byteRow l)), (5, .int .i64 i)] [] 0

theorem refall_spec : Lift.Spec Try.prog 48 mixAllSp := by
  refine spec_fam (C := CD4) types_ok CD4_ok follows Try.func48 (by kernel_rfl) rfl (by kernel_rfl) rfl ?_
  rintro ⟨h, t, l⟩ ⟨hh, hl⟩
  simp only at hh hl
  refine ⟨by simp, ?_⟩
  intro r hr
  simp
  refine axwp_loop (rxSt h t l) (fun i => i ≤ l.length) (fun i => l.length - i) 0 ?_ (Nat.zero_le _) ?_
  · refine weak_mk id ?_ ?_ ?_ ?_ <;> simp [foldI_nil]
  · intro i hi
    have hin := foldI_in hh (l.take i)
    by_cases hik : i < l.length
    · obtain ⟨x, hx, hx'⟩ : ∃ x, l[i]? = some x ∧ l[i] = x := ⟨_, List.getElem?_eq_getElem hik, rfl⟩
      have w0 : IntKind.i64.wrap (x.toNat : Int) = (x.toNat : Int) := by have := x.toNat_lt; exact wrap_i64_in (by omega) (by omega)
      have w4 : IntKind.i64.wrap ((i : Int) + 1) = (i : Int) + 1 := wrap_i64_in (by omega) (by omega)
      simp [rxSt, hik, hx', w0, w4, hin]
      refine Again.mk (i + 1) ?_ ?_ ?_
      · exact hik
      · omega
      · refine weak_mk id ?_ ?_ ?_ ?_ <;> simp [foldI_take hx]
    · have e : i = l.length := by omega
      subst e
      rw [List.take_length] at hin
      simp [rxSt, hin, in64_nat hl]
      rw [hr]; refine ret_closed rfl ?_ rfl
      simp [allI]

noncomputable def CD5 := mkC [(34, mixSp), (48, mixAllSp)]
theorem CD5_ok : SpecsOk Try.prog CD5 := mkC_ok (all_cons refmix_spec (all_cons refall_spec all_nil))
@[simp] theorem CD5_1 : CD5 34 = mixSp := rfl
@[simp] theorem CD5_2 : CD5 48 = mixAllSp := rfl

theorem refsum_spec : Lift.Spec Try.prog 36 sumSp := by
  refine spec_fam (C := CD5) types_ok CD5_ok follows Try.func36 (by kernel_rfl) rfl (by kernel_rfl) rfl ?_
  rintro ⟨h, t, l⟩ ⟨hh, hl⟩
  simp only at hh hl
  refine ⟨by simp, ?_⟩
  intro r hr
  simp [hh, hl, basis_in]
  rw [hr]; refine ret_closed rfl ?_ rfl
  simp [sumI_eq]

theorem refchain_spec : Lift.Spec Try.prog 38 chainSp := by
  refine spec_fam (C := CD5) types_ok CD5_ok follows Try.func38 (by kernel_rfl) rfl (by kernel_rfl) rfl ?_
  rintro ⟨h, p, t, l⟩ ⟨hh, hp, hl⟩
  simp only at hh hl
  refine ⟨by simp, ?_⟩
  intro r hr
  simp [hh, hl, basis_in]
  rw [hr]; refine ret_closed rfl ?_ rfl
  simp [chainI_eq]

noncomputable def CD6 := mkC [(33, mixSp), (35, sumSp), (37, chainSp), (34, mixSp), (36, sumSp), (38, chainSp), (32, trueSp)]
theorem CD6_ok : SpecsOk Try.prog CD6 := mkC_ok (all_cons mix_spec (all_cons sum_spec (all_cons chain_spec (all_cons refmix_spec (all_cons refsum_spec (all_cons refchain_spec (all_cons awakeD_spec all_nil)))))))
@[simp] theorem CD6_1 : CD6 33 = mixSp := rfl
@[simp] theorem CD6_2 : CD6 35 = sumSp := rfl
@[simp] theorem CD6_3 : CD6 37 = chainSp := rfl
@[simp] theorem CD6_4 : CD6 34 = mixSp := rfl
@[simp] theorem CD6_5 : CD6 36 = sumSp := rfl
@[simp] theorem CD6_6 : CD6 38 = chainSp := rfl
@[simp] theorem CD6_7 : CD6 32 = trueSp := rfl

theorem law_DigestMix : Lift.Spec Try.prog 13 (fam (fun i : Int × Int => [V.int .u64 i.1, .int .i64 i.2]) (fun _ => []) (fun i => InU64 i.1 ∧ In64 i.2) (fun _ => ⟨.bool true, []⟩)) := by
  refine spec_fam (C := CD6) types_ok CD6_ok follows Try.func13 (by kernel_rfl) rfl (by kernel_rfl) rfl ?_
  rintro ⟨h, n⟩ ⟨h1, h2⟩
  simp only at h1 h2
  refine ⟨by simp, ?_⟩
  intro r hr
  simp [h1, h2]
  rw [hr]; refine ret_closed rfl ?_ rfl
  simp

theorem law_DigestSum : Lift.Spec Try.prog 14 (fam (fun i : Int × Int × List UInt8 => [V.int .i64 i.1, .int .u64 i.2.1, .sl 2 1 (byteRow i.2.2)]) (fun _ => []) (fun i => In64 i.1 ∧ InU64 i.2.1 ∧ i.2.2.length ≤ 9223372036854775807) (fun _ => ⟨.bool true, []⟩)) := by
  refine spec_fam (C := CD6) types_ok CD6_ok follows Try.func14 (by kernel_rfl) rfl (by kernel_rfl) rfl ?_
  rintro ⟨k, p, l⟩ ⟨h1, h2, h3⟩
  simp only at h1 h2 h3
  have h3 : (l.length : Int) ≤ 9223372036854775807 := by omega
  refine ⟨by simp, ?_⟩
  intro r hr
  simp [h1, h2, h3]
  rw [hr]; refine ret_closed rfl ?_ rfl
  simp
end Go.Proofs.Ytopoplebnbcalaa
