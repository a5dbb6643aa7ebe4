/-
  journal: same.
-/
import Derived.Test.YtlelalnahlpcpaaGreatKH
set_option linter.unusedSimpArgs false
set_option linter.unusedVariables false
namespace Go.Proofs.YtlelalnahlpcpaaGreat
open Go.Lift
set_option maxRecDepth 100000

noncomputable def CNH := mkC [(42, jnBytesSp), (26, jnTermSp), (27, jnVoteSp), (24, jnLenSp), (44, jnAtSp), (43, jnTermAtSp), (45, jrAtSp), (41, sameSp)]
theorem CNH_ok : SpecsOk Tryz.prog CNH := mkC_ok (all_cons jnBytes_spec (all_cons jnTerm_spec (all_cons jnVote_spec (all_cons jnLen_spec (all_cons jnAt_spec (all_cons jnTermAt_spec (all_cons jrAt_spec (all_cons same_spec all_nil))))))))
@[simp] theorem CNH_1 : CNH 42 = jnBytesSp := rfl
@[simp] theorem CNH_2 : CNH 26 = jnTermSp := rfl
@[simp] theorem CNH_3 : CNH 27 = jnVoteSp := rfl
@[simp] theorem CNH_4 : CNH 24 = jnLenSp := rfl
@[simp] theorem CNH_5 : CNH 44 = jnAtSp := rfl
@[simp] theorem CNH_6 : CNH 43 = jnTermAtSp := rfl
@[simp] theorem CNH_7 : CNH 45 = jrAtSp := rfl
@[simp] theorem CNH_8 : CNH 41 = sameSp := rfl

noncomputable def same8Sp := fam (fun _ : JN => [V.ptr 0 0 0, .ptr 1 0 0]) (fun i : JN => [jnO i, rjO i]) (fun i : JN => (i.b.length ≤ 1000000000) ∧ (i.log.length ≤ 1000000000)) (fun i : JN => ⟨.bool true, [jnO i, rjO i]⟩)
@[simp] theorem same8Sp_eq {J : JN} (h1 : J.b.length ≤ 1000000000) (h2 : J.log.length ≤ 1000000000) : same8Sp ([V.ptr 0 0 0, .ptr 1 0 0]) ([jnO J, rjO J]) = some (⟨.bool true, [jnO J, rjO J]⟩) :=
  fam_eq (A := fun _ : JN => [V.ptr 0 0 0, .ptr 1 0 0]) (O := fun i : JN => [jnO i, rjO i]) (res := fun i : JN => ⟨.bool true, [jnO i, rjO i]⟩) (by intro a b h h' <;> simp at h h' <;> simp_all) J ⟨h1, h2⟩

def smSt (J : JN) (k : Nat) : St := mkSt [(0, .ptr 0 0 0), (1, .ptr 1 0 0), (5, .int .i64 ((k : Int) - 1))] [(0, jnO J), (1, rjO J)] 2
set_option maxHeartbeats 4000000 in
theorem same8_spec : Lift.Spec Tryz.prog 16 same8Sp := by
  refine spec_famO [(1, 0)] (C := CNH) types_ok CNH_ok follows Tryz.func16 (by kernel_rfl) rfl (by kernel_rfl) rfl ?_
  rintro J ⟨h1, h2⟩
  try simp only at h1 h2
  refine ⟨by simp, ?_⟩
  intro r hr
  have c1 : J.b.length ≤ 140737488355328 := by omega
  have a0 : ∀ n : Int, (J.log.length : Int) ≤ n → (logAt J.log n) = ⟨0, ⟨0, 0, 0, 0, 0, 0, 0, 0, 0⟩⟩ := fun n h => logAt_ge _ h
  simp [c1]
  (repeat refine ⟨⟨by kernel_rfl, by kernel_rfl⟩, ?_⟩)
  refine axwp_loop (smSt J) (fun k => k ≤ J.log.length + 2) (fun k => J.log.length + 2 - k) 0 ?_ (Nat.zero_le _) ?_
  · refine (weak_close [1] _).trans (weak_at [.inl 0, .inl 1] ?_ ?_ ?_ ?_) <;> first | (simp; done) | (intro n hn; rcases two_lt hn with rfl | rfl <;> simp)
  · intro k hk
    by_cases hkl : k < J.log.length + 2
    · have q : (k : Int) - 1 ≤ (J.log.length : Int) := by omega
      have w4 : IntKind.i64.wrap ((k : Int) - 1 + 1) = ((k + 1 : Nat) : Int) - 1 := by rw [wrap_i64_in (by omega) (by omega)]; omega
      have w5 : IntKind.i64.wrap (k : Int) = (k : Int) := wrap_i64_in (by omega) (by omega)
      simp [smSt, q, GLogged.cells, vLogged_fold]
      (repeat refine ⟨⟨by kernel_rfl, by kernel_rfl⟩, ?_⟩)
      refine Again.mk (k + 1) (by exact hkl) (by show J.log.length + 2 - (k + 1) < J.log.length + 2 - k; omega) ?_
      refine (weak_close [1] _).trans (weak_at [.inl 0, .inl 1] ?_ ?_ ?_ ?_) <;> first | (simp [w4, w5]; done) | (intro n hn; rcases two_lt hn with rfl | rfl <;> simp)
    · have q : ¬ (k : Int) - 1 ≤ (J.log.length : Int) := by omega
      simp [smSt, q]
      rw [hr]
      refine retC [] [.inl 1] [] rfl ?_
      simp
end Go.Proofs.YtlelalnahlpcpaaGreat
