/-
  The law 'ReplicaNew': for all arguments the call returns true, and the arguments read as before. Conditions: none.
-/
import Derived.Test.YtcpdgbncekdicaaGreatVX
import Derived.ProofKit
set_option linter.unusedSimpArgs false
set_option linter.unusedVariables false
namespace Go.Proofs.YtcpdgbncekdicaaGreat.lawReplicaNew
open Go.Lift Go.ChangeShapes Go.WideShapes Go.ChangeAt Go.RowKit

set_option maxRecDepth 100000 in
theorem lifted (os : Os) (started : os.Started) (H : Type) (eh : TypeId × Value → H) :
    ReturnsInHanded {} Tryz.checked os 3 .any (Rows.replicaNewSpec.pre6 eh Tryz.prog Tryz.f3 Rows.replicaNewRow.domain false) (Rows.replicaNewSpec.post eh Tryz.prog Tryz.f3 false true false false) := by
  refine returnsInHanded_of_change (C := Tryz.checked) own started (by kernel_rfl) Tryz.func3
    (ChangeSpec.witness6 (enc := eh) (C := Tryz.checked) false ⟨#[], #[.int .i64 0, .int .i64 0], []⟩ 8 (by kernel_rfl) (by kernel_rfl) (by kernel_rfl) (by kernel_rfl)) ?_
  intro W base args ds gs before hval hW _ _
  have hW' := hW
  obtain ⟨p, q, hA0, hV, rfl, hfz, hnd⟩ := hW
  have hA : DataW.TrodAll eh Tryz.prog W 0 (fun _ => true) true Tryz.f3.params.toList args.toList ds p := hA0
  rw [Tryz.params3] at hA hval
  obtain ⟨v0, vs0, d0, ds0, p0, q0, hargs, rfl, rfl, h0, r0⟩ := trodAll_cons hA
  obtain ⟨v1, vs1, d1, ds1, p1, q1, rfl, rfl, rfl, h1, r1⟩ := trodAll_cons r0
  obtain ⟨rfl, rfl, rfl⟩ := trodAll_nil r1
  obtain rfl : args = #[v0, v1] := by cases args; simp_all
  obtain ⟨rfl, rfl⟩ := trodVars_none hV
  obtain ⟨a0, e0, c0⟩ := sarg3 (hval 0 3 v0 rfl rfl) h0
  obtain ⟨a1, e1, c1⟩ := sarg3 (hval 1 3 v1 rfl rfl) h1
  refine (zjz law_ReplicaNew (a0, a1) trivial (W := W) (vs := [v0, v1]) (by simp) (zgg e0 (zgg e1 zvb)) (glob0 fun _ => rfl)).mono fun e W' h => ?_
  obtain ⟨rfl, hB⟩ := h
  exact ⟨_, rfl, law_post (t := 4) laid hW' rfl ⟨rfl, rfl, rfl⟩ rfl Tryz.underlying4 (of_decide_eq_true (by kernel_rfl)) hB⟩

theorem over : Rows.replicaNewRow.holds Tryz.pinned (OpenSpec.ofChange Rows.replicaNewSpec) :=
  OpenClaim.holds_of_wide 3 Tryz.f3 rfl rfl rfl rfl rfl rfl rfl ⟨rfl, rfl, rfl, rfl, rfl⟩ rfl rfl rfl rfl rfl (by kernel_rfl) Tryz.func3 (by kernel_rfl)
    (of_decide_eq_true (by kernel_rfl)) (by unfold Func.isWrapper; first | (rw [if_pos (by decide +kernel)]; kernel_rfl) | (rw [if_neg (by decide +kernel)]; exact ⟨rfl, rfl⟩))
    (fun os started H eh _ => lifted os started H eh)

theorem proved : Rows.ReplicaNewSaid :=
  over
end Go.Proofs.YtcpdgbncekdicaaGreat.lawReplicaNew
