/-
  state: what is read off a state, and new states.
-/
import Derived.Test.YtegjhmhhbmnljaaDoorL29
import Derived.Test.YtegjhmhhbmnljaaDoorE7
import Derived.Test.YtegjhmhhbmnljaaDoorN4
namespace Go.Proofs.YtegjhmhhbmnljaaDoor
open Go.Lift

attribute [simp] vState_fold vTenantState_fold vCellState_fold vWindow_fold
attribute [simp high] vState_cells vTenantState_cells vCellState_cells vWindow_cells

abbrev tsO (l : List GTenantState) : AObj := ⟨90, 12, GTenantState.row l, false, 2, .rw⟩
abbrev csO (l : List GCellState) : AObj := ⟨116, 4, GCellState.row l, false, 2, .rw⟩
/-- A state whose slices are objects. -/
abbrev wState (s : GState) (a b : Nat) : V := .agg [.int .i64 s.Tick, .int .i64 s.Count, .own a 0 s.Tenants.length, .own b 0 s.Cells.length, .int .i64 s.Proven, .int .i64 s.Evacuating, .int .i64 s.Low, .int .i64 s.High]

def tenS : GTenantState := ⟨false, false, -1, -1, -1, -1, 0, ⟨-1, 0, 0, 0, 0⟩⟩
def celS : GCellState := ⟨1, 0, 0, 0⟩
def newS (C : GConfig) : GState := ⟨0, 0, List.replicate C.Tenants.length tenS, List.replicate C.Cells.length celS, 1, 0, 0, 0⟩

def cellSt (s : GState) (i : Int) : GCellState := s.Cells.getD i.toNat celS
def tenSt (s : GState) (i : Int) : GTenantState := s.Tenants.getD i.toNat tenS
def provenB (s : GState) (v : Int) : Bool := hasB s.Proven v
def openB (s : GState) (i : Int) : Bool := !(provenB s (cellSt s i).Running) || !(provenB s (cellSt s i).Wanted)
def frozenB (C : GConfig) (s : GState) (i : Int) : Bool := hasB s.Evacuating (regionAt C i)
def togetherB (C : GConfig) (a b : Int) : Bool := decide (0 ≤ a) && (decide (0 ≤ b) && !(apartB C a b))

noncomputable def CZ1 := mkC [(62, hasSp), (73, regionOfSp), (64, apartSp)]
theorem CZ1_ok : SpecsOk Tryd.prog CZ1 := mkC_ok (all_cons has_spec (all_cons refregionOf_spec (all_cons refapart_spec all_nil)))
@[simp] theorem CZ1_1 : CZ1 62 = hasSp := rfl
@[simp] theorem CZ1_2 : CZ1 73 = regionOfSp := rfl
@[simp] theorem CZ1_3 : CZ1 64 = apartSp := rfl

noncomputable def provenSp := fam (fun i : GState × Int => [vState i.1, .int .i64 i.2]) (fun _ : GState × Int => []) (fun _ : GState × Int => True) (fun i : GState × Int => ⟨.bool (provenB i.1 i.2), []⟩)
@[simp] theorem provenSp_eq {s : GState} {v : Int}  : provenSp ([vState s, .int .i64 v]) ([]) = some (⟨.bool (provenB s v), []⟩) :=
  fam_eq (A := fun i : GState × Int => [vState i.1, .int .i64 i.2]) (O := fun _ : GState × Int => []) (res := fun i : GState × Int => ⟨.bool (provenB i.1 i.2), []⟩) (by rintro ⟨a0, a1⟩ ⟨b0, b1⟩ h h' <;> simp at h h' <;> simp_all) (s, v) trivial

theorem proven_spec : Lift.Spec Tryd.prog 96 provenSp := by
  refine spec_fam (C := CZ1) types_ok CZ1_ok follows Tryd.func96 (by kernel_rfl) rfl (by kernel_rfl) rfl ?_
  rintro ⟨s, v⟩ _
  refine ⟨by simp, ?_⟩
  intro r hr
  simp [GState.cells]
  ((repeat refine ⟨⟨by kernel_rfl, by kernel_rfl⟩, ?_⟩); rw [hr]; refine ret_closed rfl ?_ rfl; simp [provenB])

noncomputable def frozenSp := fam (fun i : GConfig × GState × Int => [vConfig i.1, vState i.2.1, .int .i64 i.2.2]) (fun _ : GConfig × GState × Int => []) (fun i : GConfig × GState × Int => (TopoOk i.1)) (fun i : GConfig × GState × Int => ⟨.bool (frozenB i.1 i.2.1 i.2.2), []⟩)
@[simp] theorem frozenSp_eq {C : GConfig} {s : GState} {i : Int} (h1 : TopoOk C) : frozenSp ([vConfig C, vState s, .int .i64 i]) ([]) = some (⟨.bool (frozenB C s i), []⟩) :=
  fam_eq (A := fun i : GConfig × GState × Int => [vConfig i.1, vState i.2.1, .int .i64 i.2.2]) (O := fun _ : GConfig × GState × Int => []) (res := fun i : GConfig × GState × Int => ⟨.bool (frozenB i.1 i.2.1 i.2.2), []⟩) (by rintro ⟨a0, a1, a2⟩ ⟨b0, b1, b2⟩ h h' <;> simp at h h' <;> simp_all) (C, s, i) h1

theorem frozen_spec : Lift.Spec Tryd.prog 90 frozenSp := by
  refine spec_fam (C := CZ1) types_ok CZ1_ok follows Tryd.func90 (by kernel_rfl) rfl (by kernel_rfl) rfl ?_
  rintro ⟨C, s, i⟩ h
  try simp only at h
  refine ⟨by simp, ?_⟩
  intro r hr
  simp [GState.cells, GConfig.cells, h]
  ((repeat refine ⟨⟨by kernel_rfl, by kernel_rfl⟩, ?_⟩); rw [hr]; refine ret_closed rfl ?_ rfl; simp [frozenB])

noncomputable def togetherSp := fam (fun i : GConfig × Int × Int => [vConfig i.1, .int .i64 i.2.1, .int .i64 i.2.2]) (fun _ : GConfig × Int × Int => []) (fun i : GConfig × Int × Int => (TopoOk i.1)) (fun i : GConfig × Int × Int => ⟨.bool (togetherB i.1 i.2.1 i.2.2), []⟩)
@[simp] theorem togetherSp_eq {C : GConfig} {a : Int} {b : Int} (h1 : TopoOk C) : togetherSp ([vConfig C, .int .i64 a, .int .i64 b]) ([]) = some (⟨.bool (togetherB C a b), []⟩) :=
  fam_eq (A := fun i : GConfig × Int × Int => [vConfig i.1, .int .i64 i.2.1, .int .i64 i.2.2]) (O := fun _ : GConfig × Int × Int => []) (res := fun i : GConfig × Int × Int => ⟨.bool (togetherB i.1 i.2.1 i.2.2), []⟩) (by rintro ⟨a0, a1, a2⟩ ⟨b0, b1, b2⟩ h h' <;> simp at h h' <;> simp_all) (C, a, b) h1

theorem together_spec : Lift.Spec Tryd.prog 91 togetherSp := by
  refine spec_fam (C := CZ1) types_ok CZ1_ok follows Tryd.func91 (by kernel_rfl) rfl (by kernel_rfl) rfl ?_
  rintro ⟨C, a, b⟩ h
  try simp only at h
  refine ⟨by simp, ?_⟩
  intro r hr
  by_cases h1 : 0 ≤ a
  · by_cases h2 : 0 ≤ b
    · simp [GConfig.cells, h, h1, h2]
      ((repeat refine ⟨⟨by kernel_rfl, by kernel_rfl⟩, ?_⟩); rw [hr]; refine ret_closed rfl ?_ rfl; simp [togetherB, h1, h2])
    · simp [GConfig.cells, h1, h2]
      ((repeat refine ⟨⟨by kernel_rfl, by kernel_rfl⟩, ?_⟩); rw [hr]; refine ret_closed rfl ?_ rfl; simp [togetherB, h1, h2])
  · simp [GConfig.cells, h1]
    ((repeat refine ⟨⟨by kernel_rfl, by kernel_rfl⟩, ?_⟩); rw [hr]; refine ret_closed rfl ?_ rfl; simp [togetherB, h1])

noncomputable def CZ2 := mkC [(96, provenSp)]
theorem CZ2_ok : SpecsOk Tryd.prog CZ2 := mkC_ok (all_cons proven_spec all_nil)
@[simp] theorem CZ2_1 : CZ2 96 = provenSp := rfl

noncomputable def openSp := fam (fun i : GState × Int => [vState i.1, .int .i64 i.2]) (fun _ : GState × Int => []) (fun i : GState × Int => (0 ≤ i.2) ∧ (i.2 < i.1.Cells.length)) (fun i : GState × Int => ⟨.bool (openB i.1 i.2), []⟩)
@[simp] theorem openSp_eq {s : GState} {i : Int} (h1 : 0 ≤ i) (h2 : i < s.Cells.length) : openSp ([vState s, .int .i64 i]) ([]) = some (⟨.bool (openB s i), []⟩) :=
  fam_eq (A := fun i : GState × Int => [vState i.1, .int .i64 i.2]) (O := fun _ : GState × Int => []) (res := fun i : GState × Int => ⟨.bool (openB i.1 i.2), []⟩) (by rintro ⟨a0, a1⟩ ⟨b0, b1⟩ h h' <;> simp at h h' <;> simp_all) (s, i) ⟨h1, h2⟩

theorem open_spec : Lift.Spec Tryd.prog 95 openSp := by
  refine spec_fam (C := CZ2) types_ok CZ2_ok follows Tryd.func95 (by kernel_rfl) rfl (by kernel_rfl) rfl ?_
  rintro ⟨s, i⟩ ⟨h1, h2⟩
  try simp only at h1 h2
  refine ⟨by simp, ?_⟩
  intro r hr
  obtain ⟨k, rfl⟩ := Int.eq_ofNat_of_zero_le h1
  have hk : k < s.Cells.length := by omega
  obtain ⟨x, hx, hx', _⟩ := get_of_lt hk
  have hc : cellSt s k = x := by simp [cellSt, hx]
  cases hp : provenB s x.Running
  · simp [GState.cells, hk, hx', GCellState.cells, hp]
    ((repeat refine ⟨⟨by kernel_rfl, by kernel_rfl⟩, ?_⟩); rw [hr]; refine ret_closed rfl ?_ rfl; simp [openB, hc, hp])
  · simp [GState.cells, hk, hx', GCellState.cells, hp]
    ((repeat refine ⟨⟨by kernel_rfl, by kernel_rfl⟩, ?_⟩); rw [hr]; refine ret_closed rfl ?_ rfl; simp [openB, hc, hp])

noncomputable def copiedSp := fam (fun i : GState => [vState i]) (fun _ : GState => []) (fun i : GState => (i.Tenants.length ≤ 32) ∧ (i.Cells.length ≤ 16)) (fun i : GState => ⟨wState i 0 1, [tsO i.Tenants, csO i.Cells]⟩)
@[simp] theorem copiedSp_eq {s : GState} (h1 : s.Tenants.length ≤ 32) (h2 : s.Cells.length ≤ 16) : copiedSp ([vState s]) ([]) = some (⟨wState s 0 1, [tsO s.Tenants, csO s.Cells]⟩) :=
  fam_eq (A := fun i : GState => [vState i]) (O := fun _ : GState => []) (res := fun i : GState => ⟨wState i 0 1, [tsO i.Tenants, csO i.Cells]⟩) (by intro a b h h' <;> simp at h h' <;> simp_all) s ⟨h1, h2⟩

theorem copied_spec : Lift.Spec Tryd.prog 75 copiedSp := by
  refine spec_fam (C := C0) types_ok C0_ok follows Tryd.func75 (by kernel_rfl) rfl (by kernel_rfl) rfl ?_
  rintro s ⟨h1, h2⟩
  try simp only at h1 h2
  refine ⟨by simp, ?_⟩
  intro r hr
  have q1 : (s.Tenants.length : Int) * 88 ≤ 140737488355328 := by omega
  have q2 : (s.Tenants.length : Int) ≤ 140737488355328 := by omega
  have q3 : (s.Cells.length : Int) * 32 ≤ 140737488355328 := by omega
  have q4 : (s.Cells.length : Int) ≤ 140737488355328 := by omega
  simp [GState.cells, q1, q2, q3, q4]
  rw [hr]
  refine ret_at [.inl 40, .inl 88] rfl ?_ ?_ (by simp) ?_ ?_ ?_ ?_ <;> simp
  trace_state

def zsO : AObj := ⟨59, 8, [[.int .i64 0, .int .i64 0, .sl 0 1 [], .sl 0 1 [], .int .i64 0, .int .i64 0, .int .i64 0, .int .i64 0]], true, 2, .rw⟩
def nwO (n m : Nat) : AObj := ⟨59, 8, [[.int .i64 0, .int .i64 0, .own 3 0 n, .own 4 0 m, .int .i64 1, .int .i64 0, .int .i64 0, .int .i64 0]], true, 0, .rw⟩
def nw1 (C : GConfig) (i : Nat) : St := mkSt [(1, .ptr 0 0 0), (2, .ptr 1 0 0), (3, .ptr 2 0 0), (4, .int .i64 i)] [(0, cfgO C), (1, zsO), (2, nwO i 0), (3, tsO (List.replicate i tenS)), (4, csO [])] 5
def nw2 (C : GConfig) (i : Nat) : St := mkSt [(1, .ptr 0 0 0), (2, .ptr 1 0 0), (3, .ptr 2 0 0), (5, .int .i64 i)] [(0, cfgO C), (1, zsO), (2, nwO C.Tenants.length i), (3, tsO (List.replicate C.Tenants.length tenS)), (4, csO (List.replicate i celS))] 5
noncomputable def newSSp := fam (fun i : GConfig => [vConfig i]) (fun _ : GConfig => []) (fun i : GConfig => (i.Tenants.length ≤ 32) ∧ (i.Cells.length ≤ 16)) (fun i : GConfig => ⟨vState (newS i), []⟩)
@[simp] theorem newSSp_eq {C : GConfig} (h1 : C.Tenants.length ≤ 32) (h2 : C.Cells.length ≤ 16) : newSSp ([vConfig C]) ([]) = some (⟨vState (newS C), []⟩) :=
  fam_eq (A := fun i : GConfig => [vConfig i]) (O := fun _ : GConfig => []) (res := fun i : GConfig => ⟨vState (newS i), []⟩) (by intro a b h h' <;> simp at h h' <;> simp_all) C ⟨h1, h2⟩

theorem tenRow_push (i : Nat) : GTenantState.row (List.replicate i tenS) ++ [GTenantState.cells tenS] = GTenantState.row (List.replicate (i + 1) tenS) := by rw [List.replicate_succ']; simp [GTenantState.row]
theorem celRow_push (i : Nat) : GCellState.row (List.replicate i celS) ++ [GCellState.cells celS] = GCellState.row (List.replicate (i + 1) celS) := by rw [List.replicate_succ']; simp [GCellState.row]
theorem newS_spec : Lift.Spec Tryd.prog 65 newSSp := by
  refine spec_fam (C := C0) types_ok C0_ok follows Tryd.func65 (by kernel_rfl) rfl (by kernel_rfl) rfl ?_
  rintro C ⟨h1, h2⟩
  try simp only at h1 h2
  refine ⟨by simp, ?_⟩
  intro r hr
  simp [GConfig.cells]
  refine axwp_loop (nw1 C) (fun i => i ≤ C.Tenants.length) (fun i => C.Tenants.length - i) 0 ?_ (Nat.zero_le _) ?_
  · refine (weak_nilRow 24 500 ⟨59, 8, [[.int .i64 0, .int .i64 0, .sl 0 1 [], .sl 0 1 [], .int .i64 1, .int .i64 0, .int .i64 0, .int .i64 0]], true, 2, .rw⟩ _ [tsO [], csO []] ?_ rfl (by decide) ?_ ?_ rfl).trans (weak_at [.inr 1, .inr 2, .inr 3, .inl 500, .inl 501] ?_ ?_ ?_ ?_)
    · simp
    · simp
    · intro i hi
      simp at hi
      simp [show ¬ 500 + i = 24 by omega, show ¬ 500 + i = 8 by omega]
    all_goals simp [zsO, nwO, cfgO, GConfig.cells]
  · intro i hi
    by_cases hik : i < C.Tenants.length
    · have w4 : IntKind.i64.wrap ((i : Int) + 1) = (i : Int) + 1 := wrap_i64_in (by omega) (by omega)
      have q1 : (i : Int) + 1 ≤ 140737488355328 := by omega
      have q2 : ((i : Int) + 1) * 88 ≤ 140737488355328 := by omega
      simp [nw1, cfgO, zsO, nwO, GConfig.cells, hik, q1, q2]
      refine Again.mk (i + 1) hik (by omega) ?_
      refine weak_at [.inr 1, .inr 2, .inr 3, .inl 85, .inl 4] ?_ ?_ ?_ ?_ <;> simp [zsO, nwO, cfgO, GConfig.cells, w4, ← tenRow_push]
      rfl
    · have e : i = C.Tenants.length := by omega
      subst e
      simp [nw1, cfgO, zsO, nwO, GConfig.cells]
      refine axwp_loop (nw2 C) (fun i => i ≤ C.Cells.length) (fun i => C.Cells.length - i) 0 ?_ (Nat.zero_le _) ?_
      · refine weak_at [.inr 1, .inr 2, .inr 3, .inl 3, .inl 4] ?_ ?_ ?_ ?_ <;> simp [zsO, nwO, cfgO, GConfig.cells]
      · intro i hi
        by_cases hik : i < C.Cells.length
        · have w4 : IntKind.i64.wrap ((i : Int) + 1) = (i : Int) + 1 := wrap_i64_in (by omega) (by omega)
          have q1 : (i : Int) + 1 ≤ 140737488355328 := by omega
          have q2 : ((i : Int) + 1) * 32 ≤ 140737488355328 := by omega
          simp [nw2, cfgO, zsO, nwO, GConfig.cells, hik, q1, q2]
          refine Again.mk (i + 1) hik (by omega) ?_
          refine weak_at [.inr 1, .inr 2, .inr 3, .inl 3, .inl 77] ?_ ?_ ?_ ?_ <;> simp [zsO, nwO, cfgO, GConfig.cells, w4, ← celRow_push]
          rfl
        · have e : i = C.Cells.length := by omega
          subst e
          simp [nw2, cfgO, zsO, nwO, GConfig.cells]
          rw [hr]
          refine retData [34] ?_ rfl (vState_closed _) ?_
          · simp
          · simp [newS]
            rfl
end Go.Proofs.YtegjhmhhbmnljaaDoor
