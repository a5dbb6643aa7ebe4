/-
  topo: configurations that are bent.
-/
import Derived.Test.YtccmghkfofmedaaP5
namespace Go.Proofs.Ytccmghkfofmedaa
open Go.Lift

def cellOf (C : GConfig) (b : Int) : Nat := (b % (C.Cells.length : Int)).toNat
def bentK (C : GConfig) (b : Int) : Nat → GConfig
  | 0 => { C with Regions := b }
  | 1 => { C with Zones := C.Zones ++ [⟨b⟩] }
  | 2 => { C with Cells := C.Cells ++ [⟨b, 5⟩] }
  | 3 => { C with Cells := C.Cells.set (cellOf C b) ⟨(C.Cells.getD (cellOf C b) ⟨0, 0⟩).Zone, b⟩ }
  | 4 => { C with Replicas := C.Replicas ++ [b] }
  | 5 => { C with Replicas := C.Replicas ++ [0, b] }
  | 6 => { C with Observers := C.Observers ++ [b] }
  | 7 => { C with Versions := C.Versions ++ [⟨b % 3, b⟩] }
  | 8 => { C with Blast := b }
  | 9 => { C with Lease := b }
  | 10 => { C with Bake := b }
  | 11 => { C with Tenants := C.Tenants ++ [⟨b, 0, 0, 0, 1, 0, false⟩] }
  | 12 => { C with Tenants := C.Tenants ++ [⟨5, 3, 0, 0, b, 0, false⟩] }
  | _ => { C with Tenants := C.Tenants ++ [⟨5, b, 0, b % 4 - 2, 1, 0, false⟩] }
def bentOf (C : GConfig) (w b : Int) : GConfig := bentK C b (w % 14).toNat
theorem bentOf_eq {C : GConfig} {w b : Int} (k : Nat) (h : w % 14 = (k : Int)) : bentOf C w b = bentK C b k := by unfold bentOf; rw [h]; rfl

theorem bent_lens {C : GConfig} (h : TopoOk C) (w b : Int) : Lens (bentOf C w b) := by
  have := h.Z; have := h.N; have := h.V; have := h.P; have := h.O; have := h.T
  unfold Lens bentOf
  generalize (w % 14).toNat = k
  match k with
  | 0 | 1 | 2 | 3 | 4 | 5 | 6 | 7 | 8 | 9 | 10 | 11 | 12 | k + 13 => simp only [bentK, List.length_append, List.length_set, List.length_cons, List.length_nil]; omega

theorem take_map_push {α β : Type} (f : α → β) (l : List α) (a : β) : (l.map f ++ [a]).take (l.length + 1) = l.map f ++ [a] := List.take_of_length_le (by simp)
theorem take_map_push2 {α β : Type} (f : α → β) (l : List α) (a b : β) : (l.map f ++ [a, b]).take (l.length + 2) = l.map f ++ [a, b] := List.take_of_length_le (by simp)

noncomputable def CP6 := mkC [(33, modSp)]
theorem CP6_ok : SpecsOk Try.prog CP6 := mkC_ok (all_cons mod_spec all_nil)
@[simp] theorem CP6_1 : CP6 33 = modSp := rfl

noncomputable def bentSp := fam (fun i : GConfig × Int × Int => [vConfig i.1, .int .i64 i.2.1, .int .i64 i.2.2]) (fun _ : GConfig × Int × Int => []) (fun i : GConfig × Int × Int => (TopoOk i.1)) (fun i : GConfig × Int × Int => ⟨vConfig (bentOf i.1 i.2.1 i.2.2), []⟩)
@[simp] theorem bentSp_eq {C : GConfig} {w : Int} {b : Int} (h1 : TopoOk C) : bentSp ([vConfig C, .int .i64 w, .int .i64 b]) ([]) = some (⟨vConfig (bentOf C w b), []⟩) :=
  fam_eq (A := fun i : GConfig × Int × Int => [vConfig i.1, .int .i64 i.2.1, .int .i64 i.2.2]) (O := fun _ : GConfig × Int × Int => []) (res := fun i : GConfig × Int × Int => ⟨vConfig (bentOf i.1 i.2.1 i.2.2), []⟩) (by rintro ⟨a0, a1, a2⟩ ⟨b0, b1, b2⟩ h h' <;> simp at h h' <;> simp_all) (C, w, b) h1

set_option maxHeartbeats 40000000 in
theorem bent_spec : Lift.Spec Try.prog 14 bentSp := by
  refine spec_fam (C := CP6) types_ok CP6_ok follows Try.func14 (by kernel_rfl) rfl (by kernel_rfl) rfl ?_
  rintro ⟨C, w, b⟩ h
  try simp only at h
  refine ⟨by simp, ?_⟩
  intro r hr
  have hZ := h.Z
  have hN := h.N
  have hV := h.V
  have hP := h.P
  have hO := h.O
  have hT := h.T
  have hz0 : ¬ C.Zones = [] := by
    intro e
    rw [e] at hZ
    simp at hZ
  have n1 : (0 : Int) < (C.Cells.length : Int) := by omega
  have n1' : 0 < C.Cells.length := by omega
  have n2 : (C.Cells.length : Int) ≤ 4611686018427387904 := by omega
  have hw1 := Int.emod_nonneg w (show (14 : Int) ≠ 0 by decide)
  have hw2 := Int.emod_lt_of_pos w (show (0 : Int) < 14 by decide)
  obtain ⟨n, hn⟩ := Int.eq_ofNat_of_zero_le hw1
  have hn14 : n < 14 := by omega
  clear hw1 hw2
  match n, hn14 with
  | 0, _ =>
    have hw : w % 14 = 0 := hn
    simp [GConfig.cells, n2, n1', hz0, hw]
    rw [hr]
    refine retData [143] ?_ rfl (vConfig_closed _) ?_
    · simp
    · simp [bentOf_eq 0 hn, bentK, vConfig, GConfig.cells, -vConfig_fold]
  | 1, _ =>
    have hw : w % 14 = 1 := hn
    have q1 : (C.Zones.length : Int) * 8 ≤ 140737488355328 := by omega
    have q2 : (C.Zones.length : Int) ≤ 140737488355328 := by omega
    have q3 : ((C.Zones.length : Int) + 1) * 8 ≤ 140737488355328 := by omega
    have q4 : (C.Zones.length : Int) + 1 ≤ 140737488355328 := by omega
    simp [GConfig.cells, n2, n1', hz0, hw, q1, q2, q3, q4]
    rw [hr]
    refine retData [143] ?_ rfl (vConfig_closed _) ?_
    · simp
    · simp [bentOf_eq 1 hn, bentK, vConfig, GConfig.cells, -vConfig_fold, take_map_push, GZone.row, GZone.cells]
  | 2, _ =>
    have hw : w % 14 = 2 := hn
    have q1 : (C.Cells.length : Int) * 16 ≤ 140737488355328 := by omega
    have q2 : (C.Cells.length : Int) ≤ 140737488355328 := by omega
    have q3 : ((C.Cells.length : Int) + 1) * 16 ≤ 140737488355328 := by omega
    have q4 : (C.Cells.length : Int) + 1 ≤ 140737488355328 := by omega
    simp [GConfig.cells, n2, n1', hz0, hw, q1, q2, q3, q4]
    rw [hr]
    refine retData [143] ?_ rfl (vConfig_closed _) ?_
    · simp
    · simp [bentOf_eq 2 hn, bentK, vConfig, GConfig.cells, -vConfig_fold, take_map_push, GCell.row, GCell.cells]
  | 3, _ =>
    have hw : w % 14 = 3 := hn
    have q1 : (C.Cells.length : Int) * 16 ≤ 140737488355328 := by omega
    have q2 : (C.Cells.length : Int) ≤ 140737488355328 := by omega
    have hb1 := Int.emod_nonneg b (show (C.Cells.length : Int) ≠ 0 by omega)
    have hb2 := Int.emod_lt_of_pos b n1
    obtain ⟨k, hk⟩ := Int.eq_ofNat_of_zero_le hb1
    have hkl : k < C.Cells.length := by omega
    have hck : cellOf C b = k := by unfold cellOf; rw [hk]; rfl
    obtain ⟨x, hx, hx', _⟩ := get_of_lt hkl
    clear hb1 hb2
    simp [GConfig.cells, n2, n1', hz0, hw, q1, q2, hk, hkl, hx', GCell.cells]
    rw [hr]
    refine retData [143] ?_ rfl (vConfig_closed _) ?_
    · simp
    · simp [bentOf_eq 3 hn, bentK, vConfig, GConfig.cells, -vConfig_fold, hck, List.getD, hx, GCell.row, GCell.cells, List.map_set]
      exact List.take_of_length_le (by simp)
  | 4, _ =>
    have hw : w % 14 = 4 := hn
    have q1 : (C.Replicas.length : Int) * 8 ≤ 140737488355328 := by omega
    have q2 : (C.Replicas.length : Int) ≤ 140737488355328 := by omega
    have q3 : ((C.Replicas.length : Int) + 1) * 8 ≤ 140737488355328 := by omega
    have q4 : (C.Replicas.length : Int) + 1 ≤ 140737488355328 := by omega
    simp [GConfig.cells, n2, n1', hz0, hw, q1, q2, q3, q4]
    rw [hr]
    refine retData [143] ?_ rfl (vConfig_closed _) ?_
    · simp
    · simp [bentOf_eq 4 hn, bentK, vConfig, GConfig.cells, -vConfig_fold, take_map_push, intRow]
  | 5, _ =>
    have hw : w % 14 = 5 := hn
    have q1 : (C.Replicas.length : Int) * 8 ≤ 140737488355328 := by omega
    have q2 : (C.Replicas.length : Int) ≤ 140737488355328 := by omega
    have q3 : ((C.Replicas.length : Int) + 2) * 8 ≤ 140737488355328 := by omega
    have q4 : (C.Replicas.length : Int) + 2 ≤ 140737488355328 := by omega
    simp [GConfig.cells, n2, n1', hz0, hw, q1, q2, q3, q4]
    rw [hr]
    refine retData [143] ?_ rfl (vConfig_closed _) ?_
    · simp
    · simp [bentOf_eq 5 hn, bentK, vConfig, GConfig.cells, -vConfig_fold, take_map_push2, intRow]
  | 6, _ =>
    have hw : w % 14 = 6 := hn
    have q1 : (C.Observers.length : Int) * 8 ≤ 140737488355328 := by omega
    have q2 : (C.Observers.length : Int) ≤ 140737488355328 := by omega
    have q3 : ((C.Observers.length : Int) + 1) * 8 ≤ 140737488355328 := by omega
    have q4 : (C.Observers.length : Int) + 1 ≤ 140737488355328 := by omega
    simp [GConfig.cells, n2, n1', hz0, hw, q1, q2, q3, q4]
    rw [hr]
    refine retData [143] ?_ rfl (vConfig_closed _) ?_
    · simp
    · simp [bentOf_eq 6 hn, bentK, vConfig, GConfig.cells, -vConfig_fold, take_map_push, intRow]
  | 7, _ =>
    have hw : w % 14 = 7 := hn
    have q1 : (C.Versions.length : Int) * 16 ≤ 140737488355328 := by omega
    have q2 : (C.Versions.length : Int) ≤ 140737488355328 := by omega
    have q3 : ((C.Versions.length : Int) + 1) * 16 ≤ 140737488355328 := by omega
    have q4 : (C.Versions.length : Int) + 1 ≤ 140737488355328 := by omega
    simp [GConfig.cells, n2, n1', hz0, hw, q1, q2, q3, q4]
    rw [hr]
    refine retData [143] ?_ rfl (vConfig_closed _) ?_
    · simp
    · simp [bentOf_eq 7 hn, bentK, vConfig, GConfig.cells, -vConfig_fold, take_map_push, GVersion.row, GVersion.cells]
  | 8, _ =>
    have hw : w % 14 = 8 := hn
    simp [GConfig.cells, n2, n1', hz0, hw]
    rw [hr]
    refine retData [143] ?_ rfl (vConfig_closed _) ?_
    · simp
    · simp [bentOf_eq 8 hn, bentK, vConfig, GConfig.cells, -vConfig_fold]
  | 9, _ =>
    have hw : w % 14 = 9 := hn
    simp [GConfig.cells, n2, n1', hz0, hw]
    rw [hr]
    refine retData [143] ?_ rfl (vConfig_closed _) ?_
    · simp
    · simp [bentOf_eq 9 hn, bentK, vConfig, GConfig.cells, -vConfig_fold]
  | 10, _ =>
    have hw : w % 14 = 10 := hn
    simp [GConfig.cells, n2, n1', hz0, hw]
    rw [hr]
    refine retData [143] ?_ rfl (vConfig_closed _) ?_
    · simp
    · simp [bentOf_eq 10 hn, bentK, vConfig, GConfig.cells, -vConfig_fold]
  | 11, _ =>
    have hw : w % 14 = 11 := hn
    have q1 : (C.Tenants.length : Int) * 56 ≤ 140737488355328 := by omega
    have q2 : (C.Tenants.length : Int) ≤ 140737488355328 := by omega
    have q3 : ((C.Tenants.length : Int) + 1) * 56 ≤ 140737488355328 := by omega
    have q4 : (C.Tenants.length : Int) + 1 ≤ 140737488355328 := by omega
    simp [GConfig.cells, n2, n1', hz0, hw, q1, q2, q3, q4]
    rw [hr]
    refine retData [143] ?_ rfl (vConfig_closed _) ?_
    · simp
    · simp [bentOf_eq 11 hn, bentK, vConfig, GConfig.cells, -vConfig_fold, take_map_push, GTenant.row, GTenant.cells]
  | 12, _ =>
    have hw : w % 14 = 12 := hn
    have q1 : (C.Tenants.length : Int) * 56 ≤ 140737488355328 := by omega
    have q2 : (C.Tenants.length : Int) ≤ 140737488355328 := by omega
    have q3 : ((C.Tenants.length : Int) + 1) * 56 ≤ 140737488355328 := by omega
    have q4 : (C.Tenants.length : Int) + 1 ≤ 140737488355328 := by omega
    simp [GConfig.cells, n2, n1', hz0, hw, q1, q2, q3, q4]
    rw [hr]
    refine retData [143] ?_ rfl (vConfig_closed _) ?_
    · simp
    · simp [bentOf_eq 12 hn, bentK, vConfig, GConfig.cells, -vConfig_fold, take_map_push, GTenant.row, GTenant.cells]
  | 13, _ =>
    have hw : w % 14 = 13 := hn
    have q1 : (C.Tenants.length : Int) * 56 ≤ 140737488355328 := by omega
    have q2 : (C.Tenants.length : Int) ≤ 140737488355328 := by omega
    have q3 : ((C.Tenants.length : Int) + 1) * 56 ≤ 140737488355328 := by omega
    have q4 : (C.Tenants.length : Int) + 1 ≤ 140737488355328 := by omega
    have hb1 := Int.emod_nonneg b (show (4 : Int) ≠ 0 by decide)
    have hb2 := Int.emod_lt_of_pos b (show (0 : Int) < 4 by decide)
    have w1 : IntKind.i64.wrap (b % 4 - 2) = b % 4 - 2 := wrap_i64_in (by omega) (by omega)
    simp [GConfig.cells, n2, n1', hz0, hw, q1, q2, q3, q4, w1]
    rw [hr]
    refine retData [143] ?_ rfl (vConfig_closed _) ?_
    · simp
    · simp [bentOf_eq 13 hn, bentK, vConfig, GConfig.cells, -vConfig_fold, take_map_push, GTenant.row, GTenant.cells]
  | n + 14, hk => exact absurd hk (by omega)
end Go.Proofs.Ytccmghkfofmedaa
