/-
  make: State; entry: what the laws are made from.
-/
import Derived.Test.YtegjhmhhbmnljaaDoorSH
import Derived.Test.YtegjhmhhbmnljaaDoorM3
namespace Go.Proofs.YtegjhmhhbmnljaaDoor
open Go.Lift

theorem logGo_len (C : GConfig) (L : List Int) (n : Int) : ∀ (f : Nat) (s : GState) (j : Nat) (out : List GEntry), (logGo C L n f s j out).length ≤ out.length + f
  | 0, s, j, out => by simp [logGo]
  | f + 1, s, j, out => by
    simp only [logGo]
    split
    · split
      · have := logGo_len C L n f (applyS C s (entryM C s L j).1).1 (entryM C s L j).2 (out ++ [(entryM C s L j).1])
        simp only [List.length_append, List.length_singleton] at this
        omega
      · have := logGo_len C L n f s (entryM C s L j).2 out
        omega
    · omega
theorem logM_len (C : GConfig) (L : List Int) (n : Int) : (logM C L n).length ≤ 100000 := by
  have := logGo_len C L n 201 (newS C) 0 []
  unfold logM
  simp only [List.length_nil] at this
  omega
theorem foldS_ok {C : GConfig} (c : CfgOk C) : ∀ (l : List GEntry) (s : GState) (i : Nat), StOk C s → StOk C (foldS C s l i).1
  | [], s, i, h => h
  | e :: l, s, i, h => by
    unfold foldS
    split
    · rename_i h0
      exact foldS_ok c l _ _ (applyS_ok c h (Prod.ext rfl h0))
    · exact h
theorem cfg_ok (L : List Int) : CfgOk (cfgOf L) := by
  have h := cfgOf_ok L
  have hN := h.N
  have hT := h.T
  have hl := h.lease
  refine ⟨h.topo, ⟨by omega, by omega, fun t ht => ?_⟩, by omega, by omega⟩
  obtain ⟨h1, h2, -⟩ := h.ten t ht
  exact ⟨⟨by omega, by omega⟩, by omega, by omega⟩
noncomputable def stateM (C : GConfig) (L : List Int) (n : Int) : GState := (foldS C (newS C) (logM C L n) 0).1
theorem state_ok (C : GConfig) (c : CfgOk C) (L : List Int) (n : Int) : StOk C (stateM C L n) := foldS_ok c _ _ _ (newS_ok c)
noncomputable def CST := mkC [(49, logSp), (48, foldSp)]
theorem CST_ok : SpecsOk Tryd.prog CST := mkC_ok (all_cons log_spec (all_cons fold_spec all_nil))
@[simp] theorem CST_1 : CST 49 = logSp := rfl
@[simp] theorem CST_2 : CST 48 = foldSp := rfl

noncomputable def stateSp := fam (fun i : (List Int) × GConfig × Int => [V.sl 2 1 (intRow i.1), vConfig i.2.1, .int .i64 i.2.2]) (fun _ : (List Int) × GConfig × Int => []) (fun i : (List Int) × GConfig × Int => (i.1.length ≤ 200) ∧ (CfgOk i.2.1)) (fun i : (List Int) × GConfig × Int => ⟨vState (stateM i.2.1 i.1 i.2.2), []⟩)
@[simp] theorem stateSp_eq {L : List Int} {C : GConfig} {n : Int} (h1 : L.length ≤ 200) (h2 : CfgOk C) : stateSp ([V.sl 2 1 (intRow L), vConfig C, .int .i64 n]) ([]) = some (⟨vState (stateM C L n), []⟩) :=
  fam_eq (A := fun i : (List Int) × GConfig × Int => [V.sl 2 1 (intRow i.1), vConfig i.2.1, .int .i64 i.2.2]) (O := fun _ : (List Int) × GConfig × Int => []) (res := fun i : (List Int) × GConfig × Int => ⟨vState (stateM i.2.1 i.1 i.2.2), []⟩) (by rintro ⟨a0, a1, a2⟩ ⟨b0, b1, b2⟩ h h' <;> simp at h h' <;> simp_all) (L, C, n) ⟨h1, h2⟩

theorem state_spec : Lift.Spec Tryd.prog 30 stateSp := by
  refine spec_fam (C := CST) types_ok CST_ok follows Tryd.func30 (by kernel_rfl) rfl (by kernel_rfl) rfl ?_
  rintro ⟨L, C, n⟩ ⟨h1, c⟩
  try simp only at h1 c
  refine ⟨by simp, ?_⟩
  intro r hr
  have hl := logM_len C L n
  simp [GConfig.cells, GState.cells, h1, c, hl]
  (repeat refine ⟨⟨by kernel_rfl, by kernel_rfl⟩, ?_⟩)
  try simp [GConfig.cells, GState.cells, h1, c, hl]
  rw [hr]
  refine ret_closed rfl ?_ (vState_closed _)
  simp [stateM]
noncomputable def madeE (L : List Int) : GEntry := (entryM (cfgOf L) (stateM (cfgOf L) L 10) L 0).1
noncomputable def CMD := mkC [(27, configSp), (29, newTSp), (30, stateSp), (28, entryMSp)]
theorem CMD_ok : SpecsOk Tryd.prog CMD := mkC_ok (all_cons config_spec (all_cons newT_spec (all_cons state_spec (all_cons entryM_spec all_nil))))
@[simp] theorem CMD_1 : CMD 27 = configSp := rfl
@[simp] theorem CMD_2 : CMD 29 = newTSp := rfl
@[simp] theorem CMD_3 : CMD 30 = stateSp := rfl
@[simp] theorem CMD_4 : CMD 28 = entryMSp := rfl

noncomputable def madeSp := fam (fun i : List Int => [V.sl 2 1 (intRow i)]) (fun _ : List Int => []) (fun i : List Int => (i.length ≤ 200)) (fun i : List Int => ⟨.tup [vConfig (cfgOf i), vEntry (madeE i)], []⟩)
@[simp] theorem madeSp_eq {L : List Int} (h1 : L.length ≤ 200) : madeSp ([V.sl 2 1 (intRow L)]) ([]) = some (⟨.tup [vConfig (cfgOf L), vEntry (madeE L)], []⟩) :=
  fam_eq (A := fun i : List Int => [V.sl 2 1 (intRow i)]) (O := fun _ : List Int => []) (res := fun i : List Int => ⟨.tup [vConfig (cfgOf i), vEntry (madeE i)], []⟩) (by intro a b h h' <;> simp at h h' <;> simp_all) L h1

theorem made_spec : Lift.Spec Tryd.prog 13 madeSp := by
  refine spec_fam (C := CMD) types_ok CMD_ok follows Tryd.func13 (by kernel_rfl) rfl (by kernel_rfl) rfl ?_
  rintro L h1
  try simp only at h1
  refine ⟨by simp, ?_⟩
  intro r hr
  have c := cfg_ok L
  have hs := state_ok (cfgOf L) c L 10
  have E1 := entryMSp_eq (L := L) (j := 0) h1 (by omega) c hs
  simp only [tapeO] at E1
  simp only [madeE] at hr
  generalize entryM (cfgOf L) (stateM (cfgOf L) L 10) L 0 = p at *
  simp [tapeO, GConfig.cells, GEntry.cells, h1, c, E1]
  (repeat refine ⟨⟨by kernel_rfl, by kernel_rfl⟩, ?_⟩)
  try simp [tapeO, GConfig.cells, GEntry.cells, h1, c, E1]

  rw [hr]
  refine ret_closed rfl ?_ (by simp [V.closed, V.closed.closedAll])
  simp
end Go.Proofs.YtegjhmhhbmnljaaDoor
