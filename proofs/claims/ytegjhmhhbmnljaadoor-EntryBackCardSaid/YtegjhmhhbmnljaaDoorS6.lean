/-
  state: grants.
-/
import Derived.Test.YtegjhmhhbmnljaaDoorS5
namespace Go.Proofs.YtegjhmhhbmnljaaDoor
open Go.Lift

noncomputable def grantT (t : GTenantState) (e : GEntry) : GTenantState :=
  if e.Cell = t.Home then { t with Window := ⟨e.Cell, e.Epoch, e.N, e.From, e.Until⟩, Epoch := e.Epoch }
  else if e.Cell = t.Standby then { t with Window := ⟨e.Cell, e.Epoch, e.N, e.From, e.Until⟩, Epoch := e.Epoch, Home := e.Cell, Standby := -1, Next := -1, Target := -1, Shed := false }
  else { t with Window := ⟨e.Cell, e.Epoch, e.N, e.From, e.Until⟩, Epoch := e.Epoch, Home := e.Cell, Target := -1 }
noncomputable def grantF (C : GConfig) (s : GState) (e : GEntry) : GState × Int :=
  if (tenSt s e.Tenant).Placed = false ∨ ((tenSt s e.Tenant).Shed = true ∧ ¬ e.Cell = (tenSt s e.Tenant).Standby) then (zeroS, 4)
  else if ¬ e.Cell = (tenSt s e.Tenant).Home ∧ ¬ e.Cell = (tenSt s e.Tenant).Standby ∧ ¬ e.Cell = (tenSt s e.Tenant).Target then (zeroS, 5)
  else if ¬ grantedE C s e = 0 then (zeroS, grantedE C s e)
  else fitF C (setT s e.Tenant (grantT (tenSt s e.Tenant) e))
noncomputable def CZ8 := mkC [(74, noSp), (92, fitSp), (93, grantedSp)]
theorem CZ8_ok : SpecsOk Tryd.prog CZ8 := mkC_ok (all_cons no_spec (all_cons fit_spec (all_cons granted_spec all_nil)))
@[simp] theorem CZ8_1 : CZ8 74 = noSp := rfl
@[simp] theorem CZ8_2 : CZ8 92 = fitSp := rfl
@[simp] theorem CZ8_3 : CZ8 93 = grantedSp := rfl

noncomputable def grantSp := fam (fun i : GConfig × GState × GEntry => [vConfig i.1, wState i.2.1 0 1, vEntry i.2.2]) (fun i : GConfig × GState × GEntry => [tsO i.2.1.Tenants, csO i.2.1.Cells]) (fun i : GConfig × GState × GEntry => (TopoOk i.1) ∧ (SmallT i.1) ∧ (StOk i.1 i.2.1) ∧ (0 ≤ i.1.Lease ∧ i.1.Lease ≤ 1000) ∧ (0 ≤ i.2.2.Tenant ∧ i.2.2.Tenant < i.2.1.Tenants.length) ∧ (0 ≤ i.2.2.Cell ∧ i.2.2.Cell < i.2.1.Cells.length) ∧ (NumOk i.2.2)) (fun i : GConfig × GState × GEntry => resW (grantF i.1 i.2.1 i.2.2))
@[simp] theorem grantSp_eq {C : GConfig} {s : GState} {e : GEntry} (h1 : TopoOk C) (h2 : SmallT C) (h3 : StOk C s) (h4 : 0 ≤ C.Lease ∧ C.Lease ≤ 1000) (h5 : 0 ≤ e.Tenant ∧ e.Tenant < s.Tenants.length) (h6 : 0 ≤ e.Cell ∧ e.Cell < s.Cells.length) (h7 : NumOk e) : grantSp ([vConfig C, wState s 0 1, vEntry e]) ([tsO s.Tenants, csO s.Cells]) = some (resW (grantF C s e)) :=
  fam_eq (A := fun i : GConfig × GState × GEntry => [vConfig i.1, wState i.2.1 0 1, vEntry i.2.2]) (O := fun i : GConfig × GState × GEntry => [tsO i.2.1.Tenants, csO i.2.1.Cells]) (res := fun i : GConfig × GState × GEntry => resW (grantF i.1 i.2.1 i.2.2)) (by rintro ⟨C, s, e⟩ ⟨C', s', e'⟩ h h'; cases s; cases s'; simp at h h'; simp_all) (C, s, e) ⟨h1, h2, h3, h4, h5, h6, h7⟩
@[simp] theorem grantSp_none {c e : V} {s : GState} {os : List AObj} : grantSp [c, vState s, e] os = none := fam_none (fun i h _ => by simp only [vState, GState.cells, List.cons.injEq, V.agg.injEq, reduceCtorEq, false_and, and_false] at h)

set_option maxHeartbeats 40000000 in
theorem grant_spec : Lift.Spec Tryd.prog 77 grantSp := by
  refine spec_fam (C := CZ8) types_ok CZ8_ok follows Tryd.func77 (by kernel_rfl) rfl (by kernel_rfl) rfl ?_
  rintro ⟨C, s, e⟩ ⟨h, hS, hs, hL, e1, e2, h5⟩
  try simp only at h hS hs hL e1 e2 h5
  refine ⟨by simp, ?_⟩
  intro r hr
  have hEp : EpOk s := fun t ht => (hs.ten t ht).epoch
  have hT := hs.T
  have hN := hs.N
  have hM := hS.M
  have hc1 : 1 ≤ C.Cells.length := h.N.1
  have hcn : ¬ s.Cells = [] := fun e => by rw [e] at hN; simp at hN; omega
  obtain ⟨kd, tk, tn, ce, ot, ep, fr, un, n⟩ := e
  simp only at *
  obtain ⟨k, rfl⟩ := Int.eq_ofNat_of_zero_le e1.1
  have hk : k < s.Tenants.length := by omega
  obtain ⟨t, ht, ht', htm⟩ := get_of_lt hk
  have htk : tenSt s k = t := by simp [tenSt, ht]
  obtain ⟨j, rfl⟩ := Int.eq_ofNat_of_zero_le e2.1
  have hj : j < s.Cells.length := by omega
  obtain ⟨x, hx, hx', hxm⟩ := get_of_lt hj
  have hxj : cellSt s j = x := by simp [cellSt, hx]
  by_cases hp : t.Placed = false
  · simp [GConfig.cells, GEntry.cells, GTenantState.cells, hk, ht', hp]
    ((repeat refine ⟨⟨by kernel_rfl, by kernel_rfl⟩, ?_⟩); rw [hr]; refine retDead' rfl ?_ ?_ ⟨rfl, by decide⟩ ⟨rfl, by decide⟩ (by simp [stV_closed]) ?_ <;> simp [aliveG, grantF, htk, hp])
  replace hp : t.Placed = true := by simpa using hp
  by_cases hsd : t.Shed = true
  · by_cases hst : (j : Int) = t.Standby
    · by_cases hh : (j : Int) = t.Home
      ·
        simp [GConfig.cells, GEntry.cells, GTenantState.cells, hk, ht', hj, hEp, hL, h5, hp, hsd, hst.symm, hh.symm]
        by_cases gg0 : (grantedE C s ⟨kd, tk, k, j, ot, ep, fr, un, n⟩ = 0)
        rotate_left
        · simp [gg0]
          ((repeat refine ⟨⟨by kernel_rfl, by kernel_rfl⟩, ?_⟩); rw [hr]; refine retDead' rfl ?_ ?_ ⟨rfl, by decide⟩ ⟨rfl, by decide⟩ (by simp [stV_closed]) ?_ <;> simp [aliveG, grantF, htk, hp, hsd, hst.symm, hh.symm, gg0])
        simp [GTenantState.cells, hS, eq_true hT, hc1, GWindow.cells, hk, ht', hp, hsd, hst.symm, hh.symm, gg0]
        generalize hF : fitF C _ = F
        have hP : grantF C s ⟨kd, tk, k, j, ot, ep, fr, un, n⟩ = F := by rw [← hF]; simp [grantF, grantT, setT, htk, hp, hsd, hst.symm, hh.symm, gg0]; try rfl
        rcases fitF_cases hF with rfl | rfl
        · simp [GState.cells, hcn, gg0]
          ((repeat refine ⟨⟨by kernel_rfl, by kernel_rfl⟩, ?_⟩); rw [hr]; refine retDead' rfl ?_ ?_ ⟨rfl, by decide⟩ ⟨rfl, by decide⟩ (by simp [stV_closed]) ?_ <;> simp [aliveG, hP])
        · simp [gg0]
          ((repeat refine ⟨⟨by kernel_rfl, by kernel_rfl⟩, ?_⟩); rw [hr]; refine retDead' rfl ?_ ?_ ⟨rfl, by decide⟩ ⟨rfl, by decide⟩ (by simp [stV_closed]) ?_ <;> simp [aliveG, hP])
      ·
        simp [GConfig.cells, GEntry.cells, GTenantState.cells, hk, ht', hj, hEp, hL, h5, hp, hsd, hst.symm, hh]
        by_cases gg0 : (grantedE C s ⟨kd, tk, k, j, ot, ep, fr, un, n⟩ = 0)
        rotate_left
        · simp [gg0]
          ((repeat refine ⟨⟨by kernel_rfl, by kernel_rfl⟩, ?_⟩); rw [hr]; refine retDead' rfl ?_ ?_ ⟨rfl, by decide⟩ ⟨rfl, by decide⟩ (by simp [stV_closed]) ?_ <;> simp [aliveG, grantF, htk, hp, hsd, hst.symm, hh, gg0])
        simp [GTenantState.cells, hS, eq_true hT, hc1, GWindow.cells, hk, ht', hp, hsd, hst.symm, hh, gg0]
        generalize hF : fitF C _ = F
        have hP : grantF C s ⟨kd, tk, k, j, ot, ep, fr, un, n⟩ = F := by rw [← hF]; simp [grantF, grantT, setT, htk, hp, hsd, hst.symm, hh, gg0]; try rfl
        rcases fitF_cases hF with rfl | rfl
        · simp [GState.cells, hcn, gg0]
          ((repeat refine ⟨⟨by kernel_rfl, by kernel_rfl⟩, ?_⟩); rw [hr]; refine retDead' rfl ?_ ?_ ⟨rfl, by decide⟩ ⟨rfl, by decide⟩ (by simp [stV_closed]) ?_ <;> simp [aliveG, hP])
        · simp [gg0]
          ((repeat refine ⟨⟨by kernel_rfl, by kernel_rfl⟩, ?_⟩); rw [hr]; refine retDead' rfl ?_ ?_ ⟨rfl, by decide⟩ ⟨rfl, by decide⟩ (by simp [stV_closed]) ?_ <;> simp [aliveG, hP])
    · simp [GConfig.cells, GEntry.cells, GTenantState.cells, hk, ht', hp, hsd, hst]
      ((repeat refine ⟨⟨by kernel_rfl, by kernel_rfl⟩, ?_⟩); rw [hr]; refine retDead' rfl ?_ ?_ ⟨rfl, by decide⟩ ⟨rfl, by decide⟩ (by simp [stV_closed]) ?_ <;> simp [aliveG, grantF, htk, hp, hsd, hst])
  replace hsd : t.Shed = false := by simpa using hsd
  by_cases hh : (j : Int) = t.Home
  ·
    simp [GConfig.cells, GEntry.cells, GTenantState.cells, hk, ht', hj, hEp, hL, h5, hp, hsd, hh.symm]
    by_cases gg0 : (grantedE C s ⟨kd, tk, k, j, ot, ep, fr, un, n⟩ = 0)
    rotate_left
    · simp [gg0]
      ((repeat refine ⟨⟨by kernel_rfl, by kernel_rfl⟩, ?_⟩); rw [hr]; refine retDead' rfl ?_ ?_ ⟨rfl, by decide⟩ ⟨rfl, by decide⟩ (by simp [stV_closed]) ?_ <;> simp [aliveG, grantF, htk, hp, hsd, hh.symm, gg0])
    simp [GTenantState.cells, hS, eq_true hT, hc1, GWindow.cells, hk, ht', hp, hsd, hh.symm, gg0]
    generalize hF : fitF C _ = F
    have hP : grantF C s ⟨kd, tk, k, j, ot, ep, fr, un, n⟩ = F := by rw [← hF]; simp [grantF, grantT, setT, htk, hp, hsd, hh.symm, gg0]; try rfl
    rcases fitF_cases hF with rfl | rfl
    · simp [GState.cells, hcn, gg0]
      ((repeat refine ⟨⟨by kernel_rfl, by kernel_rfl⟩, ?_⟩); rw [hr]; refine retDead' rfl ?_ ?_ ⟨rfl, by decide⟩ ⟨rfl, by decide⟩ (by simp [stV_closed]) ?_ <;> simp [aliveG, hP])
    · simp [gg0]
      ((repeat refine ⟨⟨by kernel_rfl, by kernel_rfl⟩, ?_⟩); rw [hr]; refine retDead' rfl ?_ ?_ ⟨rfl, by decide⟩ ⟨rfl, by decide⟩ (by simp [stV_closed]) ?_ <;> simp [aliveG, hP])
  by_cases hst : (j : Int) = t.Standby
  ·
    simp [GConfig.cells, GEntry.cells, GTenantState.cells, hk, ht', hj, hEp, hL, h5, hp, hsd, hst.symm, hh]
    by_cases gg0 : (grantedE C s ⟨kd, tk, k, j, ot, ep, fr, un, n⟩ = 0)
    rotate_left
    · simp [gg0]
      ((repeat refine ⟨⟨by kernel_rfl, by kernel_rfl⟩, ?_⟩); rw [hr]; refine retDead' rfl ?_ ?_ ⟨rfl, by decide⟩ ⟨rfl, by decide⟩ (by simp [stV_closed]) ?_ <;> simp [aliveG, grantF, htk, hp, hsd, hst.symm, hh, gg0])
    simp [GTenantState.cells, hS, eq_true hT, hc1, GWindow.cells, hk, ht', hp, hsd, hst.symm, hh, gg0]
    generalize hF : fitF C _ = F
    have hP : grantF C s ⟨kd, tk, k, j, ot, ep, fr, un, n⟩ = F := by rw [← hF]; simp [grantF, grantT, setT, htk, hp, hsd, hst.symm, hh, gg0]; try rfl
    rcases fitF_cases hF with rfl | rfl
    · simp [GState.cells, hcn, gg0]
      ((repeat refine ⟨⟨by kernel_rfl, by kernel_rfl⟩, ?_⟩); rw [hr]; refine retDead' rfl ?_ ?_ ⟨rfl, by decide⟩ ⟨rfl, by decide⟩ (by simp [stV_closed]) ?_ <;> simp [aliveG, hP])
    · simp [gg0]
      ((repeat refine ⟨⟨by kernel_rfl, by kernel_rfl⟩, ?_⟩); rw [hr]; refine retDead' rfl ?_ ?_ ⟨rfl, by decide⟩ ⟨rfl, by decide⟩ (by simp [stV_closed]) ?_ <;> simp [aliveG, hP])
  by_cases htg : (j : Int) = t.Target
  ·
    simp [GConfig.cells, GEntry.cells, GTenantState.cells, hk, ht', hj, hEp, hL, h5, hp, hsd, hst, hh, htg.symm]
    by_cases gg0 : (grantedE C s ⟨kd, tk, k, j, ot, ep, fr, un, n⟩ = 0)
    rotate_left
    · simp [gg0]
      ((repeat refine ⟨⟨by kernel_rfl, by kernel_rfl⟩, ?_⟩); rw [hr]; refine retDead' rfl ?_ ?_ ⟨rfl, by decide⟩ ⟨rfl, by decide⟩ (by simp [stV_closed]) ?_ <;> simp [aliveG, grantF, htk, hp, hsd, hst, hh, htg.symm, gg0])
    simp [GTenantState.cells, hS, eq_true hT, hc1, GWindow.cells, hk, ht', hp, hsd, hst, hh, htg.symm, gg0]
    generalize hF : fitF C _ = F
    have hP : grantF C s ⟨kd, tk, k, j, ot, ep, fr, un, n⟩ = F := by rw [← hF]; simp [grantF, grantT, setT, htk, hp, hsd, hst, hh, htg.symm, gg0]; try rfl
    rcases fitF_cases hF with rfl | rfl
    · simp [GState.cells, hcn, gg0]
      ((repeat refine ⟨⟨by kernel_rfl, by kernel_rfl⟩, ?_⟩); rw [hr]; refine retDead' rfl ?_ ?_ ⟨rfl, by decide⟩ ⟨rfl, by decide⟩ (by simp [stV_closed]) ?_ <;> simp [aliveG, hP])
    · simp [gg0]
      ((repeat refine ⟨⟨by kernel_rfl, by kernel_rfl⟩, ?_⟩); rw [hr]; refine retDead' rfl ?_ ?_ ⟨rfl, by decide⟩ ⟨rfl, by decide⟩ (by simp [stV_closed]) ?_ <;> simp [aliveG, hP])
  · simp [GConfig.cells, GEntry.cells, GTenantState.cells, hk, ht', hp, hsd, hst, hh, htg]
    ((repeat refine ⟨⟨by kernel_rfl, by kernel_rfl⟩, ?_⟩); rw [hr]; refine retDead' rfl ?_ ?_ ⟨rfl, by decide⟩ ⟨rfl, by decide⟩ (by simp [stV_closed]) ?_ <;> simp [aliveG, grantF, htk, hp, hsd, hst, hh, htg])
end Go.Proofs.YtegjhmhhbmnljaaDoor
