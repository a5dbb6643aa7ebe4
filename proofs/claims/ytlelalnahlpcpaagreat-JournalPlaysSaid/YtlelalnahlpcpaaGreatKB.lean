/-
  journal: the program: terms, votes, entries.
-/
import Derived.Test.YtlelalnahlpcpaaGreatKA
set_option linter.unusedSimpArgs false
set_option linter.unusedVariables false
namespace Go.Proofs.YtlelalnahlpcpaaGreat
open Go.Lift

noncomputable def jnSetSp := fam (fun i : JN × Int × Int => [V.ptr 0 0 0, .int .i64 i.2.1, .int .i64 i.2.2]) (fun i : JN × Int × Int => [jnO i.1]) (fun _ : JN × Int × Int => True) (fun i : JN × Int × Int => ⟨.int .i64 (stE i.1 i.2.1 i.2.2), [jnO (stJ i.1 i.2.1 i.2.2)]⟩)
@[simp] theorem jnSetSp_eq {J : JN} {t : Int} {v : Int}  : jnSetSp ([V.ptr 0 0 0, .int .i64 t, .int .i64 v]) ([jnO J]) = some (⟨.int .i64 (stE J t v), [jnO (stJ J t v)]⟩) :=
  fam_eq (A := fun i : JN × Int × Int => [V.ptr 0 0 0, .int .i64 i.2.1, .int .i64 i.2.2]) (O := fun i : JN × Int × Int => [jnO i.1]) (res := fun i : JN × Int × Int => ⟨.int .i64 (stE i.1 i.2.1 i.2.2), [jnO (stJ i.1 i.2.1 i.2.2)]⟩) (by rintro ⟨a0, a1, a2⟩ ⟨b0, b1, b2⟩ h h' <;> simp at h h' <;> simp_all) (J, t, v) trivial

theorem jnSet_spec : Lift.Spec Tryz.prog 76 jnSetSp := by
  refine spec_famO [] (C := C0) types_ok C0_ok follows Tryz.func76 (by kernel_rfl) rfl (by kernel_rfl) rfl ?_
  rintro ⟨J, t, v⟩ _
  refine ⟨by simp, ?_⟩
  intro r hr
  by_cases h1 : t < 0
  · have e : stE J t v = 1 := by unfold stE; (repeat' split) <;> omega
    simp [h1]
    rw [hr]
    refine retC [] [.inl 0] [] rfl ?_
    simp [e, stJ]
  by_cases h2 : 1073741824 < t
  · have e : stE J t v = 1 := by unfold stE; (repeat' split) <;> omega
    simp [h1, h2]
    rw [hr]
    refine retC [] [.inl 0] [] rfl ?_
    simp [e, stJ]
  by_cases h3 : v < -1
  · have e : stE J t v = 1 := by unfold stE; (repeat' split) <;> omega
    simp [h1, h2, h3]
    rw [hr]
    refine retC [] [.inl 0] [] rfl ?_
    simp [e, stJ]
  by_cases h4 : 5 ≤ v
  · have e : stE J t v = 1 := by unfold stE; (repeat' split) <;> omega
    simp [h1, h2, h3, h4]
    rw [hr]
    refine retC [] [.inl 0] [] rfl ?_
    simp [e, stJ]
  by_cases h5 : t < J.term
  · have e : stE J t v = 20 := by unfold stE; (repeat' split) <;> omega
    simp [h1, h2, h3, h4, h5]
    rw [hr]
    refine retC [] [.inl 0] [] rfl ?_
    simp [e, stJ]
  by_cases h6 : t = J.term
  · by_cases h7 : J.vote = -1
    · have e : stE J t v = 0 := by unfold stE; (repeat' split) <;> omega
      simp [h1, h2, h3, h4, h5, eq_true h6, h7]
      rw [hr]
      refine retC [] [.inl 0] [] rfl ?_
      simp [e, stJ]
    · by_cases h8 : J.vote = v
      · have e : stE J t v = 0 := by unfold stE; (repeat' split) <;> omega
        simp [h1, h2, h3, h4, h5, eq_true h6, eq_false h7, eq_true h8]
        rw [hr]
        refine retC [] [.inl 0] [] rfl ?_
        simp [e, stJ]
      · have e : stE J t v = 20 := by unfold stE; (repeat' split) <;> omega
        simp [h1, h2, h3, h4, h5, eq_true h6, h7, h8]
        rw [hr]
        refine retC [] [.inl 0] [] rfl ?_
        simp [e, stJ]
  · have e : stE J t v = 0 := by unfold stE; (repeat' split) <;> omega
    simp [h1, h2, h3, h4, h5, h6]
    rw [hr]
    refine retC [] [.inl 0] [] rfl ?_
    simp [e, stJ]

noncomputable def jnAtSp := fam (fun i : JN × Int => [V.ptr 0 0 0, .int .i64 i.2]) (fun i : JN × Int => [jnO i.1]) (fun _ : JN × Int => True) (fun i : JN × Int => ⟨.tup [vLogged (logAt i.1.log i.2), .bool (hasAt i.1.log i.2)], [jnO i.1]⟩)
@[simp] theorem jnAtSp_eq {J : JN} {i : Int}  : jnAtSp ([V.ptr 0 0 0, .int .i64 i]) ([jnO J]) = some (⟨.tup [vLogged (logAt J.log i), .bool (hasAt J.log i)], [jnO J]⟩) :=
  fam_eq (A := fun i : JN × Int => [V.ptr 0 0 0, .int .i64 i.2]) (O := fun i : JN × Int => [jnO i.1]) (res := fun i : JN × Int => ⟨.tup [vLogged (logAt i.1.log i.2), .bool (hasAt i.1.log i.2)], [jnO i.1]⟩) (by rintro ⟨a0, a1⟩ ⟨b0, b1⟩ h h' <;> simp at h h' <;> simp_all) (J, i) trivial

theorem jnAt_spec : Lift.Spec Tryz.prog 44 jnAtSp := by
  refine spec_famO [] (C := C0) types_ok C0_ok follows Tryz.func44 (by kernel_rfl) rfl (by kernel_rfl) rfl ?_
  rintro ⟨J, i⟩ _
  refine ⟨by simp, ?_⟩
  intro r hr
  by_cases h1 : i < 0
  · simp [h1]
    rw [hr]
    refine retC [] [.inl 0] [] rfl ?_
    have e : hasAt J.log i = false := by simp [hasAt]; omega
    simp [h1, e, vLogged, GLogged.cells]
  by_cases h2 : (J.log.length : Int) ≤ i
  · simp [h1, h2]
    rw [hr]
    refine retC [] [.inl 0] [] rfl ?_
    have e : hasAt J.log i = false := by simp [hasAt]; omega
    simp [h2, e, vLogged, GLogged.cells]
  obtain ⟨k, rfl⟩ := Int.eq_ofNat_of_zero_le (show 0 ≤ i by omega)
  have hk : k < J.log.length := by omega
  obtain ⟨x, hx, hx', _⟩ := get_of_lt hk
  have e : hasAt J.log k = true := by simp [hasAt]; omega
  simp [h1, h2, hk, hx', GLogged.cells]
  rw [hr]
  refine retC [] [.inl 0] [] rfl ?_
  simp [e, logAt_get hx, vLogged, GLogged.cells]

noncomputable def CN5 := mkC [(44, jnAtSp)]
theorem CN5_ok : SpecsOk Tryz.prog CN5 := mkC_ok (all_cons jnAt_spec all_nil)
@[simp] theorem CN5_1 : CN5 44 = jnAtSp := rfl

noncomputable def jnTermAtSp := fam (fun i : JN × Int => [V.ptr 0 0 0, .int .i64 i.2]) (fun i : JN × Int => [jnO i.1]) (fun _ : JN × Int => True) (fun i : JN × Int => ⟨.int .i64 (logAt i.1.log i.2).Term, [jnO i.1]⟩)
@[simp] theorem jnTermAtSp_eq {J : JN} {i : Int}  : jnTermAtSp ([V.ptr 0 0 0, .int .i64 i]) ([jnO J]) = some (⟨.int .i64 (logAt J.log i).Term, [jnO J]⟩) :=
  fam_eq (A := fun i : JN × Int => [V.ptr 0 0 0, .int .i64 i.2]) (O := fun i : JN × Int => [jnO i.1]) (res := fun i : JN × Int => ⟨.int .i64 (logAt i.1.log i.2).Term, [jnO i.1]⟩) (by rintro ⟨a0, a1⟩ ⟨b0, b1⟩ h h' <;> simp at h h' <;> simp_all) (J, i) trivial

theorem jnTermAt_spec : Lift.Spec Tryz.prog 43 jnTermAtSp := by
  refine spec_famO [] (C := CN5) types_ok CN5_ok follows Tryz.func43 (by kernel_rfl) rfl (by kernel_rfl) rfl ?_
  rintro ⟨J, i⟩ _
  refine ⟨by simp, ?_⟩
  intro r hr
  simp [GLogged.cells]
  rw [hr]
  refine retC [] [.inl 0] [] rfl ?_
  simp [GLogged.cells]
noncomputable def CN6 := mkC [(43, jnTermAtSp)]
theorem CN6_ok : SpecsOk Tryz.prog CN6 := mkC_ok (all_cons jnTermAt_spec all_nil)
@[simp] theorem CN6_1 : CN6 43 = jnTermAtSp := rfl

noncomputable def jnCutSp := fam (fun i : JN × Int => [V.ptr 0 0 0, .int .i64 i.2]) (fun i : JN × Int => [jnO i.1]) (fun i : JN × Int => (i.1.log.length ≤ 1000000000)) (fun i : JN × Int => ⟨.int .i64 (cuE i.1 i.2), [jnO (cuJ i.1 i.2)]⟩)
@[simp] theorem jnCutSp_eq {J : JN} {n : Int} (h1 : J.log.length ≤ 1000000000) : jnCutSp ([V.ptr 0 0 0, .int .i64 n]) ([jnO J]) = some (⟨.int .i64 (cuE J n), [jnO (cuJ J n)]⟩) :=
  fam_eq (A := fun i : JN × Int => [V.ptr 0 0 0, .int .i64 i.2]) (O := fun i : JN × Int => [jnO i.1]) (res := fun i : JN × Int => ⟨.int .i64 (cuE i.1 i.2), [jnO (cuJ i.1 i.2)]⟩) (by rintro ⟨a0, a1⟩ ⟨b0, b1⟩ h h' <;> simp at h h' <;> simp_all) (J, n) h1

theorem jnCut_spec : Lift.Spec Tryz.prog 78 jnCutSp := by
  refine spec_famO [] (C := C0) types_ok C0_ok follows Tryz.func78 (by kernel_rfl) rfl (by kernel_rfl) rfl ?_
  rintro ⟨J, n⟩ h0
  try simp only at h0
  refine ⟨by simp, ?_⟩
  intro r hr
  by_cases h1 : n < 0
  · simp [h1]
    rw [hr]
    refine retC [] [.inl 0] [] rfl ?_
    simp [cuE, cuJ, h1]
  by_cases h2 : (J.log.length : Int) < n
  · simp [h1, h2]
    rw [hr]
    refine retC [] [.inl 0] [] rfl ?_
    simp [cuE, cuJ, h1, h2]
  obtain ⟨k, rfl⟩ := Int.eq_ofNat_of_zero_le (show 0 ≤ n by omega)
  have hk : k ≤ J.log.length := by omega
  have h3 : min k J.log.length = k := by omega
  have h4 : (k : Int) * 80 ≤ 140737488355328 := by omega
  have h5 : (k : Int) ≤ 140737488355328 := by omega
  simp [h1, h2, hk, h3, h4, h5]
  rw [hr]
  refine retC [] [.inl 0] [] rfl ?_
  simp [cuE, cuJ, h1, h2, h3, hk, List.take_take]

noncomputable def jnLastSp := fam (fun _ : JN => [V.ptr 0 0 0]) (fun i : JN => [jnO i]) (fun i : JN => (i.log.length ≤ 1000000000)) (fun i : JN => ⟨.int .i64 (lastT i.log), [jnO i]⟩)
@[simp] theorem jnLastSp_eq {J : JN} (h1 : J.log.length ≤ 1000000000) : jnLastSp ([V.ptr 0 0 0]) ([jnO J]) = some (⟨.int .i64 (lastT J.log), [jnO J]⟩) :=
  fam_eq (A := fun _ : JN => [V.ptr 0 0 0]) (O := fun i : JN => [jnO i]) (res := fun i : JN => ⟨.int .i64 (lastT i.log), [jnO i]⟩) (by intro a b h h' <;> simp at h h' <;> simp_all) J h1

theorem jnLast_spec : Lift.Spec Tryz.prog 93 jnLastSp := by
  refine spec_famO [(0, 2)] (C := C0) types_ok C0_ok follows Tryz.func93 (by kernel_rfl) rfl (by kernel_rfl) rfl ?_
  rintro J h0
  try simp only at h0
  refine ⟨by simp, ?_⟩
  intro r hr
  by_cases h1 : J.log.length = 0
  · have e : lastT J.log = 0 := by unfold lastT; rw [logAt_neg _ (by omega)]
    have h1' := eq_true (List.eq_nil_of_length_eq_zero h1)
    simp [h1']
    rw [hr]
    refine retC [] [.inl 0] [] rfl ?_
    simp [e]
  · obtain ⟨k, hk⟩ : ∃ k, J.log.length = k + 1 := ⟨J.log.length - 1, by omega⟩
    obtain ⟨x, hx, hx', _⟩ := get_of_lt (show k < J.log.length by omega)
    have w1 : IntKind.i64.wrap ((J.log.length : Int) - 1) = k := by rw [wrap_i64_in (by omega) (by omega)]; omega
    have e : lastT J.log = x.Term := by unfold lastT; rw [show (J.log.length : Int) - 1 = (k : Int) by omega, logAt_get hx]
    have hlt : k < J.log.length := by omega
    have h0' : ¬ (J.log = []) := fun h => by rw [h] at hlt; simp at hlt
    simp [h0', w1, hlt, hx', GLogged.cells]
    (repeat refine ⟨⟨by kernel_rfl, by kernel_rfl⟩, ?_⟩)
    rw [hr]
    refine retC [] [.inl 0] [] rfl ?_
    simp [e]

noncomputable def CN7 := mkC [(93, jnLastSp), (92, shapeSp)]
theorem CN7_ok : SpecsOk Tryz.prog CN7 := mkC_ok (all_cons jnLast_spec (all_cons shape_spec all_nil))
@[simp] theorem CN7_1 : CN7 93 = jnLastSp := rfl
@[simp] theorem CN7_2 : CN7 92 = shapeSp := rfl

noncomputable def jnAddSp := fam (fun i : JN × Int × GEntry => [V.ptr 0 0 0, .int .i64 i.2.1, vEntry i.2.2]) (fun i : JN × Int × GEntry => [jnO i.1]) (fun i : JN × Int × GEntry => (i.1.log.length ≤ 1000000000)) (fun i : JN × Int × GEntry => ⟨.int .i64 (adE i.1 i.2.1 i.2.2), [jnO (adJ i.1 i.2.1 i.2.2)]⟩)
@[simp] theorem jnAddSp_eq {J : JN} {t : Int} {e : GEntry} (h1 : J.log.length ≤ 1000000000) : jnAddSp ([V.ptr 0 0 0, .int .i64 t, vEntry e]) ([jnO J]) = some (⟨.int .i64 (adE J t e), [jnO (adJ J t e)]⟩) :=
  fam_eq (A := fun i : JN × Int × GEntry => [V.ptr 0 0 0, .int .i64 i.2.1, vEntry i.2.2]) (O := fun i : JN × Int × GEntry => [jnO i.1]) (res := fun i : JN × Int × GEntry => ⟨.int .i64 (adE i.1 i.2.1 i.2.2), [jnO (adJ i.1 i.2.1 i.2.2)]⟩) (by rintro ⟨a0, a1, a2⟩ ⟨b0, b1, b2⟩ h h' <;> simp at h h' <;> simp_all) (J, t, e) h1

theorem jnAdd_spec : Lift.Spec Tryz.prog 77 jnAddSp := by
  refine spec_famO [] (C := CN7) types_ok CN7_ok follows Tryz.func77 (by kernel_rfl) rfl (by kernel_rfl) rfl ?_
  rintro ⟨J, t, e⟩ h0
  try simp only at h0
  refine ⟨by simp, ?_⟩
  intro r hr
  have h9 : J.log.length ≤ 4611686018427387904 := by omega
  by_cases h1 : t < 1
  · have c : adE J t e = 1 := by unfold adE; rw [if_pos (.inl h1)]
    simp [h1, h9, GEntry.cells]
    rw [hr]
    refine retC [] [.inl 0] [] rfl ?_
    simp [c, adJ]
  by_cases h2 : 1073741824 < t
  · have c : adE J t e = 1 := by unfold adE; rw [if_pos (.inr (.inl h2))]
    simp [h1, h2, h9, GEntry.cells]
    rw [hr]
    refine retC [] [.inl 0] [] rfl ?_
    simp [c, adJ]
  cases h3 : shapeE e with
  | false =>
    have c : adE J t e = 1 := by unfold adE; rw [if_pos (.inr (.inr h3))]
    simp [h1, h2, h3, h9, GEntry.cells, vEntry_fold]
    rw [hr]
    refine retC [] [.inl 0] [] rfl ?_
    simp [c, adJ]
  | true =>
    have hn : ¬ (t < 1 ∨ 1073741824 < t ∨ shapeE e = false) := by rw [h3]; simp; omega
    by_cases h4 : J.term < t
    · have c : adE J t e = 20 := by unfold adE; rw [if_neg hn, if_pos (.inl h4)]
      simp [h1, h2, h3, h4, h9, h0, GEntry.cells, vEntry_fold]
      rw [hr]
      refine retC [] [.inl 0] [] rfl ?_
      simp [c, adJ]
    by_cases h5 : t < lastT J.log
    · have c : adE J t e = 20 := by unfold adE; rw [if_neg hn, if_pos (.inr h5)]
      simp [h1, h2, h3, h4, h5, h9, h0, GEntry.cells, vEntry_fold]
      rw [hr]
      refine retC [] [.inl 0] [] rfl ?_
      simp [c, adJ]
    have hn2 : ¬ (J.term < t ∨ t < lastT J.log) := by omega
    by_cases h6 : (4096 : Int) ≤ (J.log.length : Int)
    · have c : adE J t e = 2 := by unfold adE; rw [if_neg hn, if_neg hn2, if_pos (by omega)]
      simp [h1, h2, h3, h4, h5, h6, h9, h0, GEntry.cells, vEntry_fold]
      rw [hr]
      refine retC [] [.inl 0] [] rfl ?_
      simp [c, adJ]
    · have c : adE J t e = 0 := by unfold adE; rw [if_neg hn, if_neg hn2, if_neg (by omega)]
      have k1 : (J.log.length : Int) * 80 ≤ 140737488355328 := by omega
      have k2 : (J.log.length : Int) ≤ 140737488355328 := by omega
      have k3 : ((J.log.length : Int) + 1) * 80 ≤ 140737488355328 := by omega
      have k4 : (J.log.length : Int) + 1 ≤ 140737488355328 := by omega
      simp [h1, h2, h3, h4, h5, h6, h9, h0, k1, k2, k3, k4, GEntry.cells, vEntry_fold, GLogged.cells]
      have hrow : [[V.int .i64 t, .int .i64 e.Kind, .int .i64 e.Tick, .int .i64 e.Tenant, .int .i64 e.Cell, .int .i64 e.Other, .int .i64 e.Epoch, .int .i64 e.From, .int .i64 e.Until, .int .i64 e.N]] = GLogged.row [⟨t, e⟩] := rfl
      (repeat refine ⟨⟨by kernel_rfl, by kernel_rfl⟩, ?_⟩)
      rw [hr]
      refine retC [] [.inl 0] [] rfl ?_
      have ht : (J.log ++ [(⟨t, e⟩ : GLogged)]).take (J.log.length + 1) = J.log ++ [⟨t, e⟩] := List.take_of_length_le (by simp)
      simp [c, adJ, hrow, ht]

end Go.Proofs.YtlelalnahlpcpaaGreat
