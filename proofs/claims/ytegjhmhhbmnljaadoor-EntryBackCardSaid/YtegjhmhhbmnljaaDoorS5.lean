/-
  state: grants, and entries about versions.
-/
import Derived.Test.YtegjhmhhbmnljaaDoorS4
namespace Go.Proofs.YtegjhmhhbmnljaaDoor
open Go.Lift

def grantedE (C : GConfig) (s : GState) (e : GEntry) : Int :=
  let t := tenSt s e.Tenant
  let x := cellSt s e.Cell
  if x.Mode = 3 ∨ (x.Mode = 2 ∧ ¬ e.Cell = t.Home) then 6
  else if (e.Cell = t.Home ∧ ¬ e.Epoch = t.Epoch ∧ ¬ e.Epoch = t.Epoch + 1) ∨ (¬ e.Cell = t.Home ∧ ¬ e.Epoch = t.Epoch + 1) then 7
  else if ¬ e.N = x.Running ∨ ¬ x.Running = x.Wanted then 8
  else if e.From < e.Tick ∨ e.Tick + C.Lease < e.From ∨ e.Until ≤ e.From ∨ C.Lease < e.Until - e.From ∨ e.From < t.Window.Until then 9
  else if ¬ e.Cell = t.Home ∧ e.Tick < t.Window.Until then 9
  else 0
/-- What a valid entry's numbers are like. -/
def NumOk (e : GEntry) : Prop := (0 ≤ e.Tick ∧ e.Tick ≤ 1073741824) ∧ (0 ≤ e.Epoch ∧ e.Epoch ≤ 1048576) ∧ (0 ≤ e.From ∧ e.From ≤ 1073741824) ∧ (0 ≤ e.Until ∧ e.Until ≤ 1073741824) ∧ (0 ≤ e.N ∧ e.N ≤ 1073741824)
def EpOk (s : GState) : Prop := ∀ t ∈ s.Tenants, 0 ≤ t.Epoch ∧ t.Epoch ≤ 1048576
noncomputable def grantedSp := fam (fun i : GConfig × GState × GEntry => [vConfig i.1, vState i.2.1, vEntry i.2.2]) (fun _ : GConfig × GState × GEntry => []) (fun i : GConfig × GState × GEntry => (0 ≤ i.1.Lease ∧ i.1.Lease ≤ 1000) ∧ (EpOk i.2.1) ∧ (0 ≤ i.2.2.Tenant ∧ i.2.2.Tenant < i.2.1.Tenants.length) ∧ (0 ≤ i.2.2.Cell ∧ i.2.2.Cell < i.2.1.Cells.length) ∧ (NumOk i.2.2)) (fun i : GConfig × GState × GEntry => ⟨.int .i64 (grantedE i.1 i.2.1 i.2.2), []⟩)
@[simp] theorem grantedSp_eq {C : GConfig} {s : GState} {e : GEntry} (h1 : 0 ≤ C.Lease ∧ C.Lease ≤ 1000) (h2 : EpOk s) (h3 : 0 ≤ e.Tenant ∧ e.Tenant < s.Tenants.length) (h4 : 0 ≤ e.Cell ∧ e.Cell < s.Cells.length) (h5 : NumOk e) : grantedSp ([vConfig C, vState s, vEntry e]) ([]) = some (⟨.int .i64 (grantedE C s e), []⟩) :=
  fam_eq (A := fun i : GConfig × GState × GEntry => [vConfig i.1, vState i.2.1, vEntry i.2.2]) (O := fun _ : GConfig × GState × GEntry => []) (res := fun i : GConfig × GState × GEntry => ⟨.int .i64 (grantedE i.1 i.2.1 i.2.2), []⟩) (by rintro ⟨a0, a1, a2⟩ ⟨b0, b1, b2⟩ h h' <;> simp at h h' <;> simp_all) (C, s, e) ⟨h1, h2, h3, h4, h5⟩

set_option maxHeartbeats 40000000 in
theorem granted_spec : Lift.Spec Tryd.prog 93 grantedSp := by
  refine spec_fam (C := C0) types_ok C0_ok follows Tryd.func93 (by kernel_rfl) rfl (by kernel_rfl) rfl ?_
  rintro ⟨C, s, e⟩ ⟨h1, h2, e1, e2, h5⟩
  try simp only at h1 h2 e1 e2 h5
  refine ⟨by simp, ?_⟩
  intro r hr
  obtain ⟨kd, tk, tn, ce, ot, ep, fr, un, n⟩ := e
  simp only at *
  obtain ⟨k, rfl⟩ := Int.eq_ofNat_of_zero_le e1.1
  have hk : k < s.Tenants.length := by omega
  obtain ⟨t, ht, ht', htm⟩ := get_of_lt hk
  have htk : tenSt s k = t := by simp [tenSt, ht]
  obtain ⟨j, rfl⟩ := Int.eq_ofNat_of_zero_le e2.1
  have hj : j < s.Cells.length := by omega
  obtain ⟨x, hx, hx', hxm⟩ := get_of_lt hj
  have hxj : cellSt s j = x := by simp [cellSt, hx]
  obtain ⟨n1, n2, n3, n4, n5⟩ := h5
  simp only at n1 n2 n3 n4 n5
  have te := h2 t htm
  have w1 : IntKind.i64.wrap (t.Epoch + 1) = t.Epoch + 1 := wrap_i64_in (by omega) (by omega)
  have w2 : IntKind.i64.wrap (tk + C.Lease) = tk + C.Lease := wrap_i64_in (by omega) (by omega)
  have w3 : IntKind.i64.wrap (un - fr) = un - fr := wrap_i64_in (by omega) (by omega)
  by_cases hh : (j : Int) = t.Home
  · by_cases hep : ep = t.Epoch
    ·
      simp [GState.cells, GConfig.cells, GEntry.cells, GTenantState.cells, GCellState.cells, hk, ht', hj, hx', hh.symm, hep.symm]
      by_cases gg0 : (x.Mode = 3)
      · simp [gg0]
        ((repeat refine ⟨⟨by kernel_rfl, by kernel_rfl⟩, ?_⟩); rw [hr]; refine ret_closed rfl ?_ rfl; simp [grantedE, htk, hxj, hh.symm, gg0])
      simp [gg0]
      by_cases gg1 : (x.Mode = 2)
      · simp [gg1]
        by_cases gg2 : (n = x.Running)
        rotate_left
        · simp [gg1, gg2]
          ((repeat refine ⟨⟨by kernel_rfl, by kernel_rfl⟩, ?_⟩); rw [hr]; refine ret_closed rfl ?_ rfl; simp [grantedE, htk, hxj, hh.symm, hep.symm, gg1, gg2])
        simp [gg1, gg2.symm]
        by_cases gg3 : (n = x.Wanted)
        rotate_left
        · simp [gg1, gg2.symm, gg3]
          ((repeat refine ⟨⟨by kernel_rfl, by kernel_rfl⟩, ?_⟩); rw [hr]; refine ret_closed rfl ?_ rfl; simp [grantedE, htk, hxj, hh.symm, hep.symm, gg1, gg2.symm, gg3])
        simp [gg1, gg2.symm, gg3.symm]
        by_cases gg4 : (fr < tk)
        · simp [gg1, gg2.symm, gg3.symm, gg4]
          ((repeat refine ⟨⟨by kernel_rfl, by kernel_rfl⟩, ?_⟩); rw [hr]; refine ret_closed rfl ?_ rfl; simp [grantedE, htk, hxj, hh.symm, hep.symm, gg1, gg2.symm, gg3.symm, gg4])
        simp [w2, gg1, gg2.symm, gg3.symm, gg4]
        by_cases gg5 : (tk + C.Lease < fr)
        · simp [gg1, gg2.symm, gg3.symm, gg4, gg5]
          ((repeat refine ⟨⟨by kernel_rfl, by kernel_rfl⟩, ?_⟩); rw [hr]; refine ret_closed rfl ?_ rfl; simp [grantedE, htk, hxj, hh.symm, hep.symm, gg1, gg2.symm, gg3.symm, gg4, gg5])
        simp [gg1, gg2.symm, gg3.symm, gg4, gg5]
        by_cases gg6 : (un ≤ fr)
        · simp [gg1, gg2.symm, gg3.symm, gg4, gg5, gg6]
          ((repeat refine ⟨⟨by kernel_rfl, by kernel_rfl⟩, ?_⟩); rw [hr]; refine ret_closed rfl ?_ rfl; simp [grantedE, htk, hxj, hh.symm, hep.symm, gg1, gg2.symm, gg3.symm, gg4, gg5, gg6])
        simp [w3, gg1, gg2.symm, gg3.symm, gg4, gg5, gg6]
        by_cases gg7 : (C.Lease < un - fr)
        · simp [gg1, gg2.symm, gg3.symm, gg4, gg5, gg6, gg7]
          ((repeat refine ⟨⟨by kernel_rfl, by kernel_rfl⟩, ?_⟩); rw [hr]; refine ret_closed rfl ?_ rfl; simp [grantedE, htk, hxj, hh.symm, hep.symm, gg1, gg2.symm, gg3.symm, gg4, gg5, gg6, gg7])
        simp [gg1, gg2.symm, gg3.symm, gg4, gg5, gg6, gg7]
        by_cases gg8 : (fr < t.Window.Until)
        · simp [gg1, gg2.symm, gg3.symm, gg4, gg5, gg6, gg7, gg8]
          ((repeat refine ⟨⟨by kernel_rfl, by kernel_rfl⟩, ?_⟩); rw [hr]; refine ret_closed rfl ?_ rfl; simp [grantedE, htk, hxj, hh.symm, hep.symm, gg1, gg2.symm, gg3.symm, gg4, gg5, gg6, gg7, gg8])
        simp [gg1, gg2.symm, gg3.symm, gg4, gg5, gg6, gg7, gg8]
        ((repeat refine ⟨⟨by kernel_rfl, by kernel_rfl⟩, ?_⟩); rw [hr]; refine ret_closed rfl ?_ rfl; simp [grantedE, htk, hxj, hh.symm, hep.symm, gg1, gg2.symm, gg3.symm, gg4, gg5, gg6, gg7, gg8])
      · simp [gg0, gg1]
        by_cases gg2 : (n = x.Running)
        rotate_left
        · simp [gg0, gg1, gg2]
          ((repeat refine ⟨⟨by kernel_rfl, by kernel_rfl⟩, ?_⟩); rw [hr]; refine ret_closed rfl ?_ rfl; simp [grantedE, htk, hxj, hh.symm, hep.symm, gg0, gg1, gg2])
        simp [gg0, gg1, gg2.symm]
        by_cases gg3 : (n = x.Wanted)
        rotate_left
        · simp [gg0, gg1, gg2.symm, gg3]
          ((repeat refine ⟨⟨by kernel_rfl, by kernel_rfl⟩, ?_⟩); rw [hr]; refine ret_closed rfl ?_ rfl; simp [grantedE, htk, hxj, hh.symm, hep.symm, gg0, gg1, gg2.symm, gg3])
        simp [gg0, gg1, gg2.symm, gg3.symm]
        by_cases gg4 : (fr < tk)
        · simp [gg0, gg1, gg2.symm, gg3.symm, gg4]
          ((repeat refine ⟨⟨by kernel_rfl, by kernel_rfl⟩, ?_⟩); rw [hr]; refine ret_closed rfl ?_ rfl; simp [grantedE, htk, hxj, hh.symm, hep.symm, gg0, gg1, gg2.symm, gg3.symm, gg4])
        simp [w2, gg0, gg1, gg2.symm, gg3.symm, gg4]
        by_cases gg5 : (tk + C.Lease < fr)
        · simp [gg0, gg1, gg2.symm, gg3.symm, gg4, gg5]
          ((repeat refine ⟨⟨by kernel_rfl, by kernel_rfl⟩, ?_⟩); rw [hr]; refine ret_closed rfl ?_ rfl; simp [grantedE, htk, hxj, hh.symm, hep.symm, gg0, gg1, gg2.symm, gg3.symm, gg4, gg5])
        simp [gg0, gg1, gg2.symm, gg3.symm, gg4, gg5]
        by_cases gg6 : (un ≤ fr)
        · simp [gg0, gg1, gg2.symm, gg3.symm, gg4, gg5, gg6]
          ((repeat refine ⟨⟨by kernel_rfl, by kernel_rfl⟩, ?_⟩); rw [hr]; refine ret_closed rfl ?_ rfl; simp [grantedE, htk, hxj, hh.symm, hep.symm, gg0, gg1, gg2.symm, gg3.symm, gg4, gg5, gg6])
        simp [w3, gg0, gg1, gg2.symm, gg3.symm, gg4, gg5, gg6]
        by_cases gg7 : (C.Lease < un - fr)
        · simp [gg0, gg1, gg2.symm, gg3.symm, gg4, gg5, gg6, gg7]
          ((repeat refine ⟨⟨by kernel_rfl, by kernel_rfl⟩, ?_⟩); rw [hr]; refine ret_closed rfl ?_ rfl; simp [grantedE, htk, hxj, hh.symm, hep.symm, gg0, gg1, gg2.symm, gg3.symm, gg4, gg5, gg6, gg7])
        simp [gg0, gg1, gg2.symm, gg3.symm, gg4, gg5, gg6, gg7]
        by_cases gg8 : (fr < t.Window.Until)
        · simp [gg0, gg1, gg2.symm, gg3.symm, gg4, gg5, gg6, gg7, gg8]
          ((repeat refine ⟨⟨by kernel_rfl, by kernel_rfl⟩, ?_⟩); rw [hr]; refine ret_closed rfl ?_ rfl; simp [grantedE, htk, hxj, hh.symm, hep.symm, gg0, gg1, gg2.symm, gg3.symm, gg4, gg5, gg6, gg7, gg8])
        simp [gg0, gg1, gg2.symm, gg3.symm, gg4, gg5, gg6, gg7, gg8]
        ((repeat refine ⟨⟨by kernel_rfl, by kernel_rfl⟩, ?_⟩); rw [hr]; refine ret_closed rfl ?_ rfl; simp [grantedE, htk, hxj, hh.symm, hep.symm, gg0, gg1, gg2.symm, gg3.symm, gg4, gg5, gg6, gg7, gg8])
    ·
      simp [GState.cells, GConfig.cells, GEntry.cells, GTenantState.cells, GCellState.cells, hk, ht', hj, hx', hh.symm]
      by_cases gg0 : (x.Mode = 3)
      · simp [gg0]
        ((repeat refine ⟨⟨by kernel_rfl, by kernel_rfl⟩, ?_⟩); rw [hr]; refine ret_closed rfl ?_ rfl; simp [grantedE, htk, hxj, hh.symm, gg0])
      simp [gg0]
      by_cases gg1 : (x.Mode = 2)
      · simp [w1, hep, gg1]
        by_cases gg2 : (ep = t.Epoch + 1)
        rotate_left
        · simp [gg1, gg2]
          ((repeat refine ⟨⟨by kernel_rfl, by kernel_rfl⟩, ?_⟩); rw [hr]; refine ret_closed rfl ?_ rfl; simp [grantedE, htk, hxj, hh.symm, hep, gg1, gg2])
        simp [gg1, gg2.symm]
        by_cases gg3 : (n = x.Running)
        rotate_left
        · simp [gg1, gg2.symm, gg3]
          ((repeat refine ⟨⟨by kernel_rfl, by kernel_rfl⟩, ?_⟩); rw [hr]; refine ret_closed rfl ?_ rfl; simp [grantedE, htk, hxj, hh.symm, hep, gg1, gg2.symm, gg3])
        simp [gg1, gg2.symm, gg3.symm]
        by_cases gg4 : (n = x.Wanted)
        rotate_left
        · simp [gg1, gg2.symm, gg3.symm, gg4]
          ((repeat refine ⟨⟨by kernel_rfl, by kernel_rfl⟩, ?_⟩); rw [hr]; refine ret_closed rfl ?_ rfl; simp [grantedE, htk, hxj, hh.symm, hep, gg1, gg2.symm, gg3.symm, gg4])
        simp [gg1, gg2.symm, gg3.symm, gg4.symm]
        by_cases gg5 : (fr < tk)
        · simp [gg1, gg2.symm, gg3.symm, gg4.symm, gg5]
          ((repeat refine ⟨⟨by kernel_rfl, by kernel_rfl⟩, ?_⟩); rw [hr]; refine ret_closed rfl ?_ rfl; simp [grantedE, htk, hxj, hh.symm, hep, gg1, gg2.symm, gg3.symm, gg4.symm, gg5])
        simp [w2, gg1, gg2.symm, gg3.symm, gg4.symm, gg5]
        by_cases gg6 : (tk + C.Lease < fr)
        · simp [gg1, gg2.symm, gg3.symm, gg4.symm, gg5, gg6]
          ((repeat refine ⟨⟨by kernel_rfl, by kernel_rfl⟩, ?_⟩); rw [hr]; refine ret_closed rfl ?_ rfl; simp [grantedE, htk, hxj, hh.symm, hep, gg1, gg2.symm, gg3.symm, gg4.symm, gg5, gg6])
        simp [gg1, gg2.symm, gg3.symm, gg4.symm, gg5, gg6]
        by_cases gg7 : (un ≤ fr)
        · simp [gg1, gg2.symm, gg3.symm, gg4.symm, gg5, gg6, gg7]
          ((repeat refine ⟨⟨by kernel_rfl, by kernel_rfl⟩, ?_⟩); rw [hr]; refine ret_closed rfl ?_ rfl; simp [grantedE, htk, hxj, hh.symm, hep, gg1, gg2.symm, gg3.symm, gg4.symm, gg5, gg6, gg7])
        simp [w3, gg1, gg2.symm, gg3.symm, gg4.symm, gg5, gg6, gg7]
        by_cases gg8 : (C.Lease < un - fr)
        · simp [gg1, gg2.symm, gg3.symm, gg4.symm, gg5, gg6, gg7, gg8]
          ((repeat refine ⟨⟨by kernel_rfl, by kernel_rfl⟩, ?_⟩); rw [hr]; refine ret_closed rfl ?_ rfl; simp [grantedE, htk, hxj, hh.symm, hep, gg1, gg2.symm, gg3.symm, gg4.symm, gg5, gg6, gg7, gg8])
        simp [gg1, gg2.symm, gg3.symm, gg4.symm, gg5, gg6, gg7, gg8]
        by_cases gg9 : (fr < t.Window.Until)
        · simp [gg1, gg2.symm, gg3.symm, gg4.symm, gg5, gg6, gg7, gg8, gg9]
          ((repeat refine ⟨⟨by kernel_rfl, by kernel_rfl⟩, ?_⟩); rw [hr]; refine ret_closed rfl ?_ rfl; simp [grantedE, htk, hxj, hh.symm, hep, gg1, gg2.symm, gg3.symm, gg4.symm, gg5, gg6, gg7, gg8, gg9])
        simp [gg1, gg2.symm, gg3.symm, gg4.symm, gg5, gg6, gg7, gg8, gg9]
        ((repeat refine ⟨⟨by kernel_rfl, by kernel_rfl⟩, ?_⟩); rw [hr]; refine ret_closed rfl ?_ rfl; simp [grantedE, htk, hxj, hh.symm, hep, gg1, gg2.symm, gg3.symm, gg4.symm, gg5, gg6, gg7, gg8, gg9])
      · simp [w1, hep, gg0, gg1]
        by_cases gg2 : (ep = t.Epoch + 1)
        rotate_left
        · simp [gg0, gg1, gg2]
          ((repeat refine ⟨⟨by kernel_rfl, by kernel_rfl⟩, ?_⟩); rw [hr]; refine ret_closed rfl ?_ rfl; simp [grantedE, htk, hxj, hh.symm, hep, gg0, gg1, gg2])
        simp [gg0, gg1, gg2.symm]
        by_cases gg3 : (n = x.Running)
        rotate_left
        · simp [gg0, gg1, gg2.symm, gg3]
          ((repeat refine ⟨⟨by kernel_rfl, by kernel_rfl⟩, ?_⟩); rw [hr]; refine ret_closed rfl ?_ rfl; simp [grantedE, htk, hxj, hh.symm, hep, gg0, gg1, gg2.symm, gg3])
        simp [gg0, gg1, gg2.symm, gg3.symm]
        by_cases gg4 : (n = x.Wanted)
        rotate_left
        · simp [gg0, gg1, gg2.symm, gg3.symm, gg4]
          ((repeat refine ⟨⟨by kernel_rfl, by kernel_rfl⟩, ?_⟩); rw [hr]; refine ret_closed rfl ?_ rfl; simp [grantedE, htk, hxj, hh.symm, hep, gg0, gg1, gg2.symm, gg3.symm, gg4])
        simp [gg0, gg1, gg2.symm, gg3.symm, gg4.symm]
        by_cases gg5 : (fr < tk)
        · simp [gg0, gg1, gg2.symm, gg3.symm, gg4.symm, gg5]
          ((repeat refine ⟨⟨by kernel_rfl, by kernel_rfl⟩, ?_⟩); rw [hr]; refine ret_closed rfl ?_ rfl; simp [grantedE, htk, hxj, hh.symm, hep, gg0, gg1, gg2.symm, gg3.symm, gg4.symm, gg5])
        simp [w2, gg0, gg1, gg2.symm, gg3.symm, gg4.symm, gg5]
        by_cases gg6 : (tk + C.Lease < fr)
        · simp [gg0, gg1, gg2.symm, gg3.symm, gg4.symm, gg5, gg6]
          ((repeat refine ⟨⟨by kernel_rfl, by kernel_rfl⟩, ?_⟩); rw [hr]; refine ret_closed rfl ?_ rfl; simp [grantedE, htk, hxj, hh.symm, hep, gg0, gg1, gg2.symm, gg3.symm, gg4.symm, gg5, gg6])
        simp [gg0, gg1, gg2.symm, gg3.symm, gg4.symm, gg5, gg6]
        by_cases gg7 : (un ≤ fr)
        · simp [gg0, gg1, gg2.symm, gg3.symm, gg4.symm, gg5, gg6, gg7]
          ((repeat refine ⟨⟨by kernel_rfl, by kernel_rfl⟩, ?_⟩); rw [hr]; refine ret_closed rfl ?_ rfl; simp [grantedE, htk, hxj, hh.symm, hep, gg0, gg1, gg2.symm, gg3.symm, gg4.symm, gg5, gg6, gg7])
        simp [w3, gg0, gg1, gg2.symm, gg3.symm, gg4.symm, gg5, gg6, gg7]
        by_cases gg8 : (C.Lease < un - fr)
        · simp [gg0, gg1, gg2.symm, gg3.symm, gg4.symm, gg5, gg6, gg7, gg8]
          ((repeat refine ⟨⟨by kernel_rfl, by kernel_rfl⟩, ?_⟩); rw [hr]; refine ret_closed rfl ?_ rfl; simp [grantedE, htk, hxj, hh.symm, hep, gg0, gg1, gg2.symm, gg3.symm, gg4.symm, gg5, gg6, gg7, gg8])
        simp [gg0, gg1, gg2.symm, gg3.symm, gg4.symm, gg5, gg6, gg7, gg8]
        by_cases gg9 : (fr < t.Window.Until)
        · simp [gg0, gg1, gg2.symm, gg3.symm, gg4.symm, gg5, gg6, gg7, gg8, gg9]
          ((repeat refine ⟨⟨by kernel_rfl, by kernel_rfl⟩, ?_⟩); rw [hr]; refine ret_closed rfl ?_ rfl; simp [grantedE, htk, hxj, hh.symm, hep, gg0, gg1, gg2.symm, gg3.symm, gg4.symm, gg5, gg6, gg7, gg8, gg9])
        simp [gg0, gg1, gg2.symm, gg3.symm, gg4.symm, gg5, gg6, gg7, gg8, gg9]
        ((repeat refine ⟨⟨by kernel_rfl, by kernel_rfl⟩, ?_⟩); rw [hr]; refine ret_closed rfl ?_ rfl; simp [grantedE, htk, hxj, hh.symm, hep, gg0, gg1, gg2.symm, gg3.symm, gg4.symm, gg5, gg6, gg7, gg8, gg9])
  ·
    simp [GState.cells, GConfig.cells, GEntry.cells, GTenantState.cells, GCellState.cells, hk, ht', hj, hx', hh]
    by_cases gg0 : (x.Mode = 3)
    · simp [gg0]
      ((repeat refine ⟨⟨by kernel_rfl, by kernel_rfl⟩, ?_⟩); rw [hr]; refine ret_closed rfl ?_ rfl; simp [grantedE, htk, hxj, hh, gg0])
    simp [gg0]
    by_cases gg1 : (x.Mode = 2)
    · simp [gg1]
      ((repeat refine ⟨⟨by kernel_rfl, by kernel_rfl⟩, ?_⟩); rw [hr]; refine ret_closed rfl ?_ rfl; simp [grantedE, htk, hxj, hh, gg1])
    simp [w1, gg0, gg1]
    by_cases gg2 : (ep = t.Epoch + 1)
    rotate_left
    · simp [gg0, gg1, gg2]
      ((repeat refine ⟨⟨by kernel_rfl, by kernel_rfl⟩, ?_⟩); rw [hr]; refine ret_closed rfl ?_ rfl; simp [grantedE, htk, hxj, hh, gg0, gg1, gg2])
    simp [gg0, gg1, gg2.symm]
    by_cases gg3 : (n = x.Running)
    rotate_left
    · simp [gg0, gg1, gg2.symm, gg3]
      ((repeat refine ⟨⟨by kernel_rfl, by kernel_rfl⟩, ?_⟩); rw [hr]; refine ret_closed rfl ?_ rfl; simp [grantedE, htk, hxj, hh, gg0, gg1, gg2.symm, gg3])
    simp [gg0, gg1, gg2.symm, gg3.symm]
    by_cases gg4 : (n = x.Wanted)
    rotate_left
    · simp [gg0, gg1, gg2.symm, gg3.symm, gg4]
      ((repeat refine ⟨⟨by kernel_rfl, by kernel_rfl⟩, ?_⟩); rw [hr]; refine ret_closed rfl ?_ rfl; simp [grantedE, htk, hxj, hh, gg0, gg1, gg2.symm, gg3.symm, gg4])
    simp [gg0, gg1, gg2.symm, gg3.symm, gg4.symm]
    by_cases gg5 : (fr < tk)
    · simp [gg0, gg1, gg2.symm, gg3.symm, gg4.symm, gg5]
      ((repeat refine ⟨⟨by kernel_rfl, by kernel_rfl⟩, ?_⟩); rw [hr]; refine ret_closed rfl ?_ rfl; simp [grantedE, htk, hxj, hh, gg0, gg1, gg2.symm, gg3.symm, gg4.symm, gg5])
    simp [w2, gg0, gg1, gg2.symm, gg3.symm, gg4.symm, gg5]
    by_cases gg6 : (tk + C.Lease < fr)
    · simp [gg0, gg1, gg2.symm, gg3.symm, gg4.symm, gg5, gg6]
      ((repeat refine ⟨⟨by kernel_rfl, by kernel_rfl⟩, ?_⟩); rw [hr]; refine ret_closed rfl ?_ rfl; simp [grantedE, htk, hxj, hh, gg0, gg1, gg2.symm, gg3.symm, gg4.symm, gg5, gg6])
    simp [gg0, gg1, gg2.symm, gg3.symm, gg4.symm, gg5, gg6]
    by_cases gg7 : (un ≤ fr)
    · simp [gg0, gg1, gg2.symm, gg3.symm, gg4.symm, gg5, gg6, gg7]
      ((repeat refine ⟨⟨by kernel_rfl, by kernel_rfl⟩, ?_⟩); rw [hr]; refine ret_closed rfl ?_ rfl; simp [grantedE, htk, hxj, hh, gg0, gg1, gg2.symm, gg3.symm, gg4.symm, gg5, gg6, gg7])
    simp [w3, gg0, gg1, gg2.symm, gg3.symm, gg4.symm, gg5, gg6, gg7]
    by_cases gg8 : (C.Lease < un - fr)
    · simp [gg0, gg1, gg2.symm, gg3.symm, gg4.symm, gg5, gg6, gg7, gg8]
      ((repeat refine ⟨⟨by kernel_rfl, by kernel_rfl⟩, ?_⟩); rw [hr]; refine ret_closed rfl ?_ rfl; simp [grantedE, htk, hxj, hh, gg0, gg1, gg2.symm, gg3.symm, gg4.symm, gg5, gg6, gg7, gg8])
    simp [gg0, gg1, gg2.symm, gg3.symm, gg4.symm, gg5, gg6, gg7, gg8]
    by_cases gg9 : (fr < t.Window.Until)
    · simp [gg0, gg1, gg2.symm, gg3.symm, gg4.symm, gg5, gg6, gg7, gg8, gg9]
      ((repeat refine ⟨⟨by kernel_rfl, by kernel_rfl⟩, ?_⟩); rw [hr]; refine ret_closed rfl ?_ rfl; simp [grantedE, htk, hxj, hh, gg0, gg1, gg2.symm, gg3.symm, gg4.symm, gg5, gg6, gg7, gg8, gg9])
    simp [gg0, gg1, gg2.symm, gg3.symm, gg4.symm, gg5, gg6, gg7, gg8, gg9]
    by_cases gg10 : (tk < t.Window.Until)
    · simp [gg0, gg1, gg2.symm, gg3.symm, gg4.symm, gg5, gg6, gg7, gg8, gg9, gg10]
      ((repeat refine ⟨⟨by kernel_rfl, by kernel_rfl⟩, ?_⟩); rw [hr]; refine ret_closed rfl ?_ rfl; simp [grantedE, htk, hxj, hh, gg0, gg1, gg2.symm, gg3.symm, gg4.symm, gg5, gg6, gg7, gg8, gg9, gg10])
    simp [gg0, gg1, gg2.symm, gg3.symm, gg4.symm, gg5, gg6, gg7, gg8, gg9, gg10]
    ((repeat refine ⟨⟨by kernel_rfl, by kernel_rfl⟩, ?_⟩); rw [hr]; refine ret_closed rfl ?_ rfl; simp [grantedE, htk, hxj, hh, gg0, gg1, gg2.symm, gg3.symm, gg4.symm, gg5, gg6, gg7, gg8, gg9, gg10])
end Go.Proofs.YtegjhmhhbmnljaaDoor
