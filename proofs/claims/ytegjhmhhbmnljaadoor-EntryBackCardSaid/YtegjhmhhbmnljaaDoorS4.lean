/-
  state: entries, one by one, on.
-/
import Derived.Test.YtegjhmhhbmnljaaDoorS3
namespace Go.Proofs.YtegjhmhhbmnljaaDoor
open Go.Lift

def cutW (w : GWindow) (tick : Int) : GWindow := { w with Until := (if tick + 1 < w.Until then tick + 1 else w.Until), From := (if (if tick + 1 < w.Until then tick + 1 else w.Until) < w.From then (if tick + 1 < w.Until then tick + 1 else w.Until) else w.From) }
theorem vWindow_mk (a b c d e : Int) : V.agg [.int .i64 a, .int .i64 b, .int .i64 c, .int .i64 d, .int .i64 e] = vWindow ⟨a, b, c, d, e⟩ := rfl
attribute [simp low] vWindow_mk
noncomputable def cutWSp := fam (fun i : GWindow × Int => [vWindow i.1, .int .i64 i.2]) (fun _ : GWindow × Int => []) (fun i : GWindow × Int => (0 ≤ i.2 ∧ i.2 ≤ 1073741824)) (fun i : GWindow × Int => ⟨vWindow (cutW i.1 i.2), []⟩)
@[simp] theorem cutWSp_eq {w : GWindow} {t : Int} (h1 : 0 ≤ t ∧ t ≤ 1073741824) : cutWSp ([vWindow w, .int .i64 t]) ([]) = some (⟨vWindow (cutW w t), []⟩) :=
  fam_eq (A := fun i : GWindow × Int => [vWindow i.1, .int .i64 i.2]) (O := fun _ : GWindow × Int => []) (res := fun i : GWindow × Int => ⟨vWindow (cutW i.1 i.2), []⟩) (by rintro ⟨a0, a1⟩ ⟨b0, b1⟩ h h' <;> simp at h h' <;> simp_all) (w, t) h1

theorem cutW_spec : Lift.Spec Tryd.prog 94 cutWSp := by
  refine spec_fam (C := C0) types_ok C0_ok follows Tryd.func94 (by kernel_rfl) rfl (by kernel_rfl) rfl ?_
  rintro ⟨w, t⟩ h
  try simp only at h
  refine ⟨by simp, ?_⟩
  intro r hr
  have w1 : IntKind.i64.wrap (t + 1) = t + 1 := wrap_i64_in (by omega) (by omega)
  simp [GWindow.cells, w1]
  rw [hr]; refine ret_closed rfl ?_ rfl
  simp
  rfl

noncomputable def CZ7 := mkC [(74, noSp), (94, cutWSp), (92, fitSp), (90, frozenSp), (91, togetherSp), (63, maySp), (96, provenSp), (95, openSp)]
theorem CZ7_ok : SpecsOk Tryd.prog CZ7 := mkC_ok (all_cons no_spec (all_cons cutW_spec (all_cons fit_spec (all_cons frozen_spec (all_cons together_spec (all_cons refmay_spec (all_cons proven_spec (all_cons open_spec all_nil))))))))
@[simp] theorem CZ7_1 : CZ7 74 = noSp := rfl
@[simp] theorem CZ7_2 : CZ7 94 = cutWSp := rfl
@[simp] theorem CZ7_3 : CZ7 92 = fitSp := rfl
@[simp] theorem CZ7_4 : CZ7 90 = frozenSp := rfl
@[simp] theorem CZ7_5 : CZ7 91 = togetherSp := rfl
@[simp] theorem CZ7_6 : CZ7 63 = maySp := rfl
@[simp] theorem CZ7_7 : CZ7 96 = provenSp := rfl
@[simp] theorem CZ7_8 : CZ7 95 = openSp := rfl

/-! ### Cut -/
def cutF (s : GState) (e : GEntry) : GState × Int :=
  if (tenSt s e.Tenant).Placed = false then (zeroS, 4)
  else if ¬ e.Epoch = (tenSt s e.Tenant).Epoch then (zeroS, 7)
  else (setT s e.Tenant { tenSt s e.Tenant with Window := cutW (tenSt s e.Tenant).Window e.Tick }, 0)
noncomputable def cutSp := fam (fun i : GState × GEntry => [wState i.1 0 1, vEntry i.2]) (fun i : GState × GEntry => [tsO i.1.Tenants, csO i.1.Cells]) (fun i : GState × GEntry => (¬ i.1.Cells = []) ∧ (0 ≤ i.2.Tenant ∧ i.2.Tenant < i.1.Tenants.length) ∧ (0 ≤ i.2.Tick ∧ i.2.Tick ≤ 1073741824)) (fun i : GState × GEntry => resW (cutF i.1 i.2))
@[simp] theorem cutSp_eq {s : GState} {e : GEntry} (h1 : ¬ s.Cells = []) (h2 : 0 ≤ e.Tenant ∧ e.Tenant < s.Tenants.length) (h3 : 0 ≤ e.Tick ∧ e.Tick ≤ 1073741824) : cutSp ([wState s 0 1, vEntry e]) ([tsO s.Tenants, csO s.Cells]) = some (resW (cutF s e)) :=
  fam_eq (A := fun i : GState × GEntry => [wState i.1 0 1, vEntry i.2]) (O := fun i : GState × GEntry => [tsO i.1.Tenants, csO i.1.Cells]) (res := fun i : GState × GEntry => resW (cutF i.1 i.2)) (by rintro ⟨s, e⟩ ⟨s', e'⟩ h h'; cases s; cases s'; simp at h h'; simp_all) (s, e) ⟨h1, h2, h3⟩
@[simp] theorem cutSp_none {e : V} {s : GState} {os : List AObj} : cutSp [vState s, e] os = none := fam_none (fun i h _ => by simp only [vState, GState.cells, List.cons.injEq, V.agg.injEq, reduceCtorEq, false_and, and_false] at h)

set_option maxHeartbeats 40000000 in
theorem cut_spec : Lift.Spec Tryd.prog 78 cutSp := by
  refine spec_fam (C := CZ7) types_ok CZ7_ok follows Tryd.func78 (by kernel_rfl) rfl (by kernel_rfl) rfl ?_
  rintro ⟨s, e⟩ ⟨hcn, e1, e4⟩
  try simp only at hcn e1 e4
  refine ⟨by simp, ?_⟩
  intro r hr
  obtain ⟨kd, tk, tn, ce, ot, ep, fr, un, n⟩ := e
  simp only at *
  obtain ⟨k, rfl⟩ := Int.eq_ofNat_of_zero_le e1.1
  have hk : k < s.Tenants.length := by omega
  obtain ⟨t, ht, ht', htm⟩ := get_of_lt hk
  have htk : tenSt s k = t := by simp [tenSt, ht]
  simp [GEntry.cells, GTenantState.cells, hk, ht']
  rcases Bool.eq_false_or_eq_true (t.Placed) with gg0 | gg0
  rotate_left
  · simp [gg0]
    ((repeat refine ⟨⟨by kernel_rfl, by kernel_rfl⟩, ?_⟩); rw [hr]; refine retDead' rfl ?_ ?_ ⟨rfl, by decide⟩ ⟨rfl, by decide⟩ (by simp [stV_closed]) ?_ <;> simp [aliveG, cutF, htk, gg0])
  simp [GTenantState.cells, hk, ht', gg0]
  by_cases gg1 : (ep = t.Epoch)
  rotate_left
  · simp [gg0, gg1]
    ((repeat refine ⟨⟨by kernel_rfl, by kernel_rfl⟩, ?_⟩); rw [hr]; refine retDead' rfl ?_ ?_ ⟨rfl, by decide⟩ ⟨rfl, by decide⟩ (by simp [stV_closed]) ?_ <;> simp [aliveG, cutF, htk, gg0, gg1])
  simp [GTenantState.cells, hk, ht', e4, GWindow.cells, gg0, gg1.symm]
  ((repeat refine ⟨⟨by kernel_rfl, by kernel_rfl⟩, ?_⟩); rw [hr]; refine retDead' rfl ?_ ?_ ⟨rfl, by decide⟩ ⟨rfl, by decide⟩ (by simp [stV_closed]) ?_ <;> simp [aliveG, cutF, setT, htk, gg0, gg1.symm])

/-! ### Standby -/
noncomputable def standbyF (C : GConfig) (s : GState) (e : GEntry) : GState × Int :=
  if (tenSt s e.Tenant).Placed = false then (zeroS, 4)
  else if e.Cell < 0 then fitF C (setT s e.Tenant { tenSt s e.Tenant with Next := e.Cell })
  else if e.Cell = (tenSt s e.Tenant).Home ∨ e.Cell = (tenSt s e.Tenant).Standby ∨ e.Cell = (tenSt s e.Tenant).Target then (zeroS, 5)
  else if ¬ (cellSt s e.Cell).Mode = 1 then (zeroS, 6)
  else if frozenB C s e.Cell = true then (zeroS, 12)
  else if mayB C e.Tenant e.Cell = false ∨ togetherB C e.Cell (tenSt s e.Tenant).Home = true ∨ togetherB C e.Cell (tenSt s e.Tenant).Target = true then (zeroS, 11)
  else fitF C (setT s e.Tenant { tenSt s e.Tenant with Next := e.Cell })
noncomputable def standbySp := fam (fun i : GConfig × GState × GEntry => [vConfig i.1, wState i.2.1 0 1, vEntry i.2.2]) (fun i : GConfig × GState × GEntry => [tsO i.2.1.Tenants, csO i.2.1.Cells]) (fun i : GConfig × GState × GEntry => (TopoOk i.1) ∧ (SmallT i.1) ∧ (StOk i.1 i.2.1) ∧ (0 ≤ i.2.2.Tenant ∧ i.2.2.Tenant < i.2.1.Tenants.length) ∧ (-1 ≤ i.2.2.Cell ∧ i.2.2.Cell < i.2.1.Cells.length)) (fun i : GConfig × GState × GEntry => resW (standbyF i.1 i.2.1 i.2.2))
@[simp] theorem standbySp_eq {C : GConfig} {s : GState} {e : GEntry} (h1 : TopoOk C) (h2 : SmallT C) (h3 : StOk C s) (h4 : 0 ≤ e.Tenant ∧ e.Tenant < s.Tenants.length) (h5 : -1 ≤ e.Cell ∧ e.Cell < s.Cells.length) : standbySp ([vConfig C, wState s 0 1, vEntry e]) ([tsO s.Tenants, csO s.Cells]) = some (resW (standbyF C s e)) :=
  fam_eq (A := fun i : GConfig × GState × GEntry => [vConfig i.1, wState i.2.1 0 1, vEntry i.2.2]) (O := fun i : GConfig × GState × GEntry => [tsO i.2.1.Tenants, csO i.2.1.Cells]) (res := fun i : GConfig × GState × GEntry => resW (standbyF i.1 i.2.1 i.2.2)) (by rintro ⟨C, s, e⟩ ⟨C', s', e'⟩ h h'; cases s; cases s'; simp at h h'; simp_all) (C, s, e) ⟨h1, h2, h3, h4, h5⟩
@[simp] theorem standbySp_none {c e : V} {s : GState} {os : List AObj} : standbySp [c, vState s, e] os = none := fam_none (fun i h _ => by simp only [vState, GState.cells, List.cons.injEq, V.agg.injEq, reduceCtorEq, false_and, and_false] at h)

set_option maxHeartbeats 40000000 in
theorem standby_spec : Lift.Spec Tryd.prog 79 standbySp := by
  refine spec_fam (C := CZ7) types_ok CZ7_ok follows Tryd.func79 (by kernel_rfl) rfl (by kernel_rfl) rfl ?_
  rintro ⟨C, s, e⟩ ⟨h, hS, hs, e1, e2⟩
  try simp only at h hS hs e1 e2
  refine ⟨by simp, ?_⟩
  intro r hr
  have hT := hs.T
  have hN := hs.N
  have hM := hS.M
  have hc1 : 1 ≤ C.Cells.length := h.N.1
  have hcn : ¬ s.Cells = [] := fun e => by rw [e] at hN; simp at hN; omega
  obtain ⟨kd, tk, tn, ce, ot, ep, fr, un, n⟩ := e
  simp only at *
  obtain ⟨k, rfl⟩ := Int.eq_ofNat_of_zero_le e1.1
  have hk : k < s.Tenants.length := by omega
  obtain ⟨t, ht, ht', htm⟩ := get_of_lt hk
  have htk : tenSt s k = t := by simp [tenSt, ht]
  by_cases hce : ce < 0
  ·
    simp [GConfig.cells, GEntry.cells, GTenantState.cells, hk, ht']
    rcases Bool.eq_false_or_eq_true (t.Placed) with gg0 | gg0
    rotate_left
    · simp [gg0]
      ((repeat refine ⟨⟨by kernel_rfl, by kernel_rfl⟩, ?_⟩); rw [hr]; refine retDead' rfl ?_ ?_ ⟨rfl, by decide⟩ ⟨rfl, by decide⟩ (by simp [stV_closed]) ?_ <;> simp [aliveG, standbyF, htk, gg0])
    simp [GTenantState.cells, hS, eq_true hT, hc1, hk, ht', hce, gg0]
    generalize hF : fitF C _ = F
    have hP : standbyF C s ⟨kd, tk, k, ce, ot, ep, fr, un, n⟩ = F := by rw [← hF]; simp [standbyF, setT, htk, hce, gg0]; try rfl
    rcases fitF_cases hF with rfl | rfl
    · simp [GState.cells, hcn, gg0]
      ((repeat refine ⟨⟨by kernel_rfl, by kernel_rfl⟩, ?_⟩); rw [hr]; refine retDead' rfl ?_ ?_ ⟨rfl, by decide⟩ ⟨rfl, by decide⟩ (by simp [stV_closed]) ?_ <;> simp [aliveG, hP])
    · simp [gg0]
      ((repeat refine ⟨⟨by kernel_rfl, by kernel_rfl⟩, ?_⟩); rw [hr]; refine retDead' rfl ?_ ?_ ⟨rfl, by decide⟩ ⟨rfl, by decide⟩ (by simp [stV_closed]) ?_ <;> simp [aliveG, hP])
  · obtain ⟨j, rfl⟩ := Int.eq_ofNat_of_zero_le (show 0 ≤ ce by omega)
    have hj : j < s.Cells.length := by omega
    obtain ⟨x, hx, hx', _⟩ := get_of_lt hj
    have hxj : cellSt s j = x := by simp [cellSt, hx]
    simp [GConfig.cells, GEntry.cells, GTenantState.cells, hk, ht']
    rcases Bool.eq_false_or_eq_true (t.Placed) with gg0 | gg0
    rotate_left
    · simp [gg0]
      ((repeat refine ⟨⟨by kernel_rfl, by kernel_rfl⟩, ?_⟩); rw [hr]; refine retDead' rfl ?_ ?_ ⟨rfl, by decide⟩ ⟨rfl, by decide⟩ (by simp [stV_closed]) ?_ <;> simp [aliveG, standbyF, htk, gg0])
    simp [GTenantState.cells, hk, ht', gg0]
    by_cases gg1 : ((j : Int) = t.Home)
    · simp [gg0, gg1.symm]
      ((repeat refine ⟨⟨by kernel_rfl, by kernel_rfl⟩, ?_⟩); rw [hr]; refine retDead' rfl ?_ ?_ ⟨rfl, by decide⟩ ⟨rfl, by decide⟩ (by simp [stV_closed]) ?_ <;> simp [aliveG, standbyF, htk, gg0, gg1.symm])
    simp [GTenantState.cells, hk, ht', gg0, gg1]
    by_cases gg2 : ((j : Int) = t.Standby)
    · simp [gg0, gg1, gg2.symm]
      ((repeat refine ⟨⟨by kernel_rfl, by kernel_rfl⟩, ?_⟩); rw [hr]; refine retDead' rfl ?_ ?_ ⟨rfl, by decide⟩ ⟨rfl, by decide⟩ (by simp [stV_closed]) ?_ <;> simp [aliveG, standbyF, htk, gg0, gg1, gg2.symm])
    simp [GTenantState.cells, hk, ht', gg0, gg1, gg2]
    by_cases gg3 : ((j : Int) = t.Target)
    · simp [gg0, gg1, gg2, gg3.symm]
      ((repeat refine ⟨⟨by kernel_rfl, by kernel_rfl⟩, ?_⟩); rw [hr]; refine retDead' rfl ?_ ?_ ⟨rfl, by decide⟩ ⟨rfl, by decide⟩ (by simp [stV_closed]) ?_ <;> simp [aliveG, standbyF, htk, gg0, gg1, gg2, gg3.symm])
    simp [GCellState.cells, hj, hx', gg0, gg1, gg2, gg3]
    by_cases gg4 : (x.Mode = 1)
    rotate_left
    · simp [gg0, gg1, gg2, gg3, gg4]
      ((repeat refine ⟨⟨by kernel_rfl, by kernel_rfl⟩, ?_⟩); rw [hr]; refine retDead' rfl ?_ ?_ ⟨rfl, by decide⟩ ⟨rfl, by decide⟩ (by simp [stV_closed]) ?_ <;> simp [aliveG, standbyF, htk, hxj, gg0, gg1, gg2, gg3, gg4])
    simp [h, gg0, gg1, gg2, gg3, gg4]
    rcases Bool.eq_false_or_eq_true (frozenB C s j) with gg5 | gg5
    · simp [gg0, gg1, gg2, gg3, gg4, gg5]
      ((repeat refine ⟨⟨by kernel_rfl, by kernel_rfl⟩, ?_⟩); rw [hr]; refine retDead' rfl ?_ ?_ ⟨rfl, by decide⟩ ⟨rfl, by decide⟩ (by simp [stV_closed]) ?_ <;> simp [aliveG, standbyF, htk, hxj, gg0, gg1, gg2, gg3, gg4, gg5])
    simp [h, gg0, gg1, gg2, gg3, gg4, gg5]
    rcases Bool.eq_false_or_eq_true (mayB C k j) with gg6 | gg6
    rotate_left
    · simp [gg0, gg1, gg2, gg3, gg4, gg5, gg6]
      ((repeat refine ⟨⟨by kernel_rfl, by kernel_rfl⟩, ?_⟩); rw [hr]; refine retDead' rfl ?_ ?_ ⟨rfl, by decide⟩ ⟨rfl, by decide⟩ (by simp [stV_closed]) ?_ <;> simp [aliveG, standbyF, htk, hxj, gg0, gg1, gg2, gg3, gg4, gg5, gg6])
    simp [GTenantState.cells, h, hk, ht', gg0, gg1, gg2, gg3, gg4, gg5, gg6]
    rcases Bool.eq_false_or_eq_true (togetherB C j t.Home) with gg7 | gg7
    · simp [gg0, gg1, gg2, gg3, gg4, gg5, gg6, gg7]
      ((repeat refine ⟨⟨by kernel_rfl, by kernel_rfl⟩, ?_⟩); rw [hr]; refine retDead' rfl ?_ ?_ ⟨rfl, by decide⟩ ⟨rfl, by decide⟩ (by simp [stV_closed]) ?_ <;> simp [aliveG, standbyF, htk, hxj, gg0, gg1, gg2, gg3, gg4, gg5, gg6, gg7])
    simp [GTenantState.cells, h, hk, ht', gg0, gg1, gg2, gg3, gg4, gg5, gg6, gg7]
    rcases Bool.eq_false_or_eq_true (togetherB C j t.Target) with gg8 | gg8
    · simp [gg0, gg1, gg2, gg3, gg4, gg5, gg6, gg7, gg8]
      ((repeat refine ⟨⟨by kernel_rfl, by kernel_rfl⟩, ?_⟩); rw [hr]; refine retDead' rfl ?_ ?_ ⟨rfl, by decide⟩ ⟨rfl, by decide⟩ (by simp [stV_closed]) ?_ <;> simp [aliveG, standbyF, htk, hxj, gg0, gg1, gg2, gg3, gg4, gg5, gg6, gg7, gg8])
    simp [GTenantState.cells, hS, eq_true hT, hc1, hk, ht', gg0, gg1, gg2, gg3, gg4, gg5, gg6, gg7, gg8]
    generalize hF : fitF C _ = F
    have hP : standbyF C s ⟨kd, tk, k, j, ot, ep, fr, un, n⟩ = F := by rw [← hF]; simp [standbyF, setT, htk, hxj, gg0, gg1, gg2, gg3, gg4, gg5, gg6, gg7, gg8]; try rfl
    rcases fitF_cases hF with rfl | rfl
    · simp [GState.cells, hcn, gg0, gg1, gg2, gg3, gg4, gg5, gg6, gg7, gg8]
      ((repeat refine ⟨⟨by kernel_rfl, by kernel_rfl⟩, ?_⟩); rw [hr]; refine retDead' rfl ?_ ?_ ⟨rfl, by decide⟩ ⟨rfl, by decide⟩ (by simp [stV_closed]) ?_ <;> simp [aliveG, hP])
    · simp [gg0, gg1, gg2, gg3, gg4, gg5, gg6, gg7, gg8]
      ((repeat refine ⟨⟨by kernel_rfl, by kernel_rfl⟩, ?_⟩); rw [hr]; refine retDead' rfl ?_ ?_ ⟨rfl, by decide⟩ ⟨rfl, by decide⟩ (by simp [stV_closed]) ?_ <;> simp [aliveG, hP])

/-! ### Ready -/
def readyF (s : GState) (e : GEntry) : GState × Int :=
  if (tenSt s e.Tenant).Placed = false then (zeroS, 4)
  else if ¬ e.Cell = (tenSt s e.Tenant).Next then (zeroS, 5)
  else if (cellSt s e.Cell).Mode = 3 then (zeroS, 6)
  else (setT s e.Tenant { tenSt s e.Tenant with Standby := e.Cell, Next := -1 }, 0)
noncomputable def readySp := fam (fun i : GState × GEntry => [wState i.1 0 1, vEntry i.2]) (fun i : GState × GEntry => [tsO i.1.Tenants, csO i.1.Cells]) (fun i : GState × GEntry => (¬ i.1.Cells = []) ∧ (0 ≤ i.2.Tenant ∧ i.2.Tenant < i.1.Tenants.length) ∧ (0 ≤ i.2.Cell ∧ i.2.Cell < i.1.Cells.length)) (fun i : GState × GEntry => resW (readyF i.1 i.2))
@[simp] theorem readySp_eq {s : GState} {e : GEntry} (h1 : ¬ s.Cells = []) (h2 : 0 ≤ e.Tenant ∧ e.Tenant < s.Tenants.length) (h3 : 0 ≤ e.Cell ∧ e.Cell < s.Cells.length) : readySp ([wState s 0 1, vEntry e]) ([tsO s.Tenants, csO s.Cells]) = some (resW (readyF s e)) :=
  fam_eq (A := fun i : GState × GEntry => [wState i.1 0 1, vEntry i.2]) (O := fun i : GState × GEntry => [tsO i.1.Tenants, csO i.1.Cells]) (res := fun i : GState × GEntry => resW (readyF i.1 i.2)) (by rintro ⟨s, e⟩ ⟨s', e'⟩ h h'; cases s; cases s'; simp at h h'; simp_all) (s, e) ⟨h1, h2, h3⟩
@[simp] theorem readySp_none {e : V} {s : GState} {os : List AObj} : readySp [vState s, e] os = none := fam_none (fun i h _ => by simp only [vState, GState.cells, List.cons.injEq, V.agg.injEq, reduceCtorEq, false_and, and_false] at h)

set_option maxHeartbeats 40000000 in
theorem ready_spec : Lift.Spec Tryd.prog 80 readySp := by
  refine spec_fam (C := CZ7) types_ok CZ7_ok follows Tryd.func80 (by kernel_rfl) rfl (by kernel_rfl) rfl ?_
  rintro ⟨s, e⟩ ⟨hcn, e1, e2⟩
  try simp only at hcn e1 e2
  refine ⟨by simp, ?_⟩
  intro r hr
  obtain ⟨kd, tk, tn, ce, ot, ep, fr, un, n⟩ := e
  simp only at *
  obtain ⟨k, rfl⟩ := Int.eq_ofNat_of_zero_le e1.1
  have hk : k < s.Tenants.length := by omega
  obtain ⟨t, ht, ht', htm⟩ := get_of_lt hk
  have htk : tenSt s k = t := by simp [tenSt, ht]
  obtain ⟨j, rfl⟩ := Int.eq_ofNat_of_zero_le e2.1
  have hj : j < s.Cells.length := by omega
  obtain ⟨x, hx, hx', hxm⟩ := get_of_lt hj
  have hxj : cellSt s j = x := by simp [cellSt, hx]
  simp [GEntry.cells, GTenantState.cells, hk, ht']
  rcases Bool.eq_false_or_eq_true (t.Placed) with gg0 | gg0
  rotate_left
  · simp [gg0]
    ((repeat refine ⟨⟨by kernel_rfl, by kernel_rfl⟩, ?_⟩); rw [hr]; refine retDead' rfl ?_ ?_ ⟨rfl, by decide⟩ ⟨rfl, by decide⟩ (by simp [stV_closed]) ?_ <;> simp [aliveG, readyF, htk, gg0])
  simp [GTenantState.cells, hk, ht', gg0]
  by_cases gg1 : ((j : Int) = t.Next)
  rotate_left
  · simp [gg0, gg1]
    ((repeat refine ⟨⟨by kernel_rfl, by kernel_rfl⟩, ?_⟩); rw [hr]; refine retDead' rfl ?_ ?_ ⟨rfl, by decide⟩ ⟨rfl, by decide⟩ (by simp [stV_closed]) ?_ <;> simp [aliveG, readyF, htk, gg0, gg1])
  simp [GCellState.cells, hj, hx', gg0, gg1.symm]
  by_cases gg2 : (x.Mode = 3)
  · simp [gg0, gg1.symm, gg2]
    ((repeat refine ⟨⟨by kernel_rfl, by kernel_rfl⟩, ?_⟩); rw [hr]; refine retDead' rfl ?_ ?_ ⟨rfl, by decide⟩ ⟨rfl, by decide⟩ (by simp [stV_closed]) ?_ <;> simp [aliveG, readyF, htk, hxj, gg0, gg1.symm, gg2])
  simp [GTenantState.cells, hk, ht', gg0, gg1.symm, gg2]
  ((repeat refine ⟨⟨by kernel_rfl, by kernel_rfl⟩, ?_⟩); rw [hr]; refine retDead' rfl ?_ ?_ ⟨rfl, by decide⟩ ⟨rfl, by decide⟩ (by simp [stV_closed]) ?_ <;> simp [aliveG, readyF, setT, htk, hxj, gg0, gg1.symm, gg2])

/-! ### Migrate -/
noncomputable def migrateF (C : GConfig) (s : GState) (e : GEntry) : GState × Int :=
  if (tenSt s e.Tenant).Placed = false ∨ (tenSt s e.Tenant).Shed = true ∨ 0 ≤ (tenSt s e.Tenant).Target then (zeroS, 4)
  else if e.Cell = (tenSt s e.Tenant).Home ∨ e.Cell = (tenSt s e.Tenant).Standby ∨ e.Cell = (tenSt s e.Tenant).Next then (zeroS, 5)
  else if ¬ (cellSt s e.Cell).Mode = 1 then (zeroS, 6)
  else if frozenB C s e.Cell = true then (zeroS, 12)
  else if mayB C e.Tenant e.Cell = false ∨ togetherB C e.Cell (tenSt s e.Tenant).Standby = true ∨ togetherB C e.Cell (tenSt s e.Tenant).Next = true then (zeroS, 11)
  else fitF C (setT s e.Tenant { tenSt s e.Tenant with Target := e.Cell })
noncomputable def migrateSp := fam (fun i : GConfig × GState × GEntry => [vConfig i.1, wState i.2.1 0 1, vEntry i.2.2]) (fun i : GConfig × GState × GEntry => [tsO i.2.1.Tenants, csO i.2.1.Cells]) (fun i : GConfig × GState × GEntry => (TopoOk i.1) ∧ (SmallT i.1) ∧ (StOk i.1 i.2.1) ∧ (0 ≤ i.2.2.Tenant ∧ i.2.2.Tenant < i.2.1.Tenants.length) ∧ (0 ≤ i.2.2.Cell ∧ i.2.2.Cell < i.2.1.Cells.length)) (fun i : GConfig × GState × GEntry => resW (migrateF i.1 i.2.1 i.2.2))
@[simp] theorem migrateSp_eq {C : GConfig} {s : GState} {e : GEntry} (h1 : TopoOk C) (h2 : SmallT C) (h3 : StOk C s) (h4 : 0 ≤ e.Tenant ∧ e.Tenant < s.Tenants.length) (h5 : 0 ≤ e.Cell ∧ e.Cell < s.Cells.length) : migrateSp ([vConfig C, wState s 0 1, vEntry e]) ([tsO s.Tenants, csO s.Cells]) = some (resW (migrateF C s e)) :=
  fam_eq (A := fun i : GConfig × GState × GEntry => [vConfig i.1, wState i.2.1 0 1, vEntry i.2.2]) (O := fun i : GConfig × GState × GEntry => [tsO i.2.1.Tenants, csO i.2.1.Cells]) (res := fun i : GConfig × GState × GEntry => resW (migrateF i.1 i.2.1 i.2.2)) (by rintro ⟨C, s, e⟩ ⟨C', s', e'⟩ h h'; cases s; cases s'; simp at h h'; simp_all) (C, s, e) ⟨h1, h2, h3, h4, h5⟩
@[simp] theorem migrateSp_none {c e : V} {s : GState} {os : List AObj} : migrateSp [c, vState s, e] os = none := fam_none (fun i h _ => by simp only [vState, GState.cells, List.cons.injEq, V.agg.injEq, reduceCtorEq, false_and, and_false] at h)

set_option maxHeartbeats 40000000 in
theorem migrate_spec : Lift.Spec Tryd.prog 81 migrateSp := by
  refine spec_fam (C := CZ7) types_ok CZ7_ok follows Tryd.func81 (by kernel_rfl) rfl (by kernel_rfl) rfl ?_
  rintro ⟨C, s, e⟩ ⟨h, hS, hs, e1, e2⟩
  try simp only at h hS hs e1 e2
  refine ⟨by simp, ?_⟩
  intro r hr
  have hT := hs.T
  have hN := hs.N
  have hM := hS.M
  have hc1 : 1 ≤ C.Cells.length := h.N.1
  have hcn : ¬ s.Cells = [] := fun e => by rw [e] at hN; simp at hN; omega
  obtain ⟨kd, tk, tn, ce, ot, ep, fr, un, n⟩ := e
  simp only at *
  obtain ⟨k, rfl⟩ := Int.eq_ofNat_of_zero_le e1.1
  have hk : k < s.Tenants.length := by omega
  obtain ⟨t, ht, ht', htm⟩ := get_of_lt hk
  have htk : tenSt s k = t := by simp [tenSt, ht]
  obtain ⟨j, rfl⟩ := Int.eq_ofNat_of_zero_le e2.1
  have hj : j < s.Cells.length := by omega
  obtain ⟨x, hx, hx', hxm⟩ := get_of_lt hj
  have hxj : cellSt s j = x := by simp [cellSt, hx]
  simp [GConfig.cells, GEntry.cells, GTenantState.cells, hk, ht']
  rcases Bool.eq_false_or_eq_true (t.Placed) with gg0 | gg0
  rotate_left
  · simp [gg0]
    ((repeat refine ⟨⟨by kernel_rfl, by kernel_rfl⟩, ?_⟩); rw [hr]; refine retDead' rfl ?_ ?_ ⟨rfl, by decide⟩ ⟨rfl, by decide⟩ (by simp [stV_closed]) ?_ <;> simp [aliveG, migrateF, htk, gg0])
  simp [GTenantState.cells, hk, ht', gg0]
  rcases Bool.eq_false_or_eq_true (t.Shed) with gg1 | gg1
  · simp [gg0, gg1]
    ((repeat refine ⟨⟨by kernel_rfl, by kernel_rfl⟩, ?_⟩); rw [hr]; refine retDead' rfl ?_ ?_ ⟨rfl, by decide⟩ ⟨rfl, by decide⟩ (by simp [stV_closed]) ?_ <;> simp [aliveG, migrateF, htk, gg0, gg1])
  simp [GTenantState.cells, hk, ht', gg0, gg1]
  by_cases gg2 : (0 ≤ t.Target)
  · simp [gg0, gg1, gg2]
    ((repeat refine ⟨⟨by kernel_rfl, by kernel_rfl⟩, ?_⟩); rw [hr]; refine retDead' rfl ?_ ?_ ⟨rfl, by decide⟩ ⟨rfl, by decide⟩ (by simp [stV_closed]) ?_ <;> simp [aliveG, migrateF, htk, gg0, gg1, gg2])
  simp [GTenantState.cells, hk, ht', gg0, gg1, gg2]
  by_cases gg3 : ((j : Int) = t.Home)
  · simp [gg0, gg1, gg2, gg3.symm]
    ((repeat refine ⟨⟨by kernel_rfl, by kernel_rfl⟩, ?_⟩); rw [hr]; refine retDead' rfl ?_ ?_ ⟨rfl, by decide⟩ ⟨rfl, by decide⟩ (by simp [stV_closed]) ?_ <;> simp [aliveG, migrateF, htk, gg0, gg1, gg2, gg3.symm])
  simp [GTenantState.cells, hk, ht', gg0, gg1, gg2, gg3]
  by_cases gg4 : ((j : Int) = t.Standby)
  · simp [gg0, gg1, gg2, gg3, gg4.symm]
    ((repeat refine ⟨⟨by kernel_rfl, by kernel_rfl⟩, ?_⟩); rw [hr]; refine retDead' rfl ?_ ?_ ⟨rfl, by decide⟩ ⟨rfl, by decide⟩ (by simp [stV_closed]) ?_ <;> simp [aliveG, migrateF, htk, gg0, gg1, gg2, gg3, gg4.symm])
  simp [GTenantState.cells, hk, ht', gg0, gg1, gg2, gg3, gg4]
  by_cases gg5 : ((j : Int) = t.Next)
  · simp [gg0, gg1, gg2, gg3, gg4, gg5.symm]
    ((repeat refine ⟨⟨by kernel_rfl, by kernel_rfl⟩, ?_⟩); rw [hr]; refine retDead' rfl ?_ ?_ ⟨rfl, by decide⟩ ⟨rfl, by decide⟩ (by simp [stV_closed]) ?_ <;> simp [aliveG, migrateF, htk, gg0, gg1, gg2, gg3, gg4, gg5.symm])
  simp [GCellState.cells, hj, hx', gg0, gg1, gg2, gg3, gg4, gg5]
  by_cases gg6 : (x.Mode = 1)
  rotate_left
  · simp [gg0, gg1, gg2, gg3, gg4, gg5, gg6]
    ((repeat refine ⟨⟨by kernel_rfl, by kernel_rfl⟩, ?_⟩); rw [hr]; refine retDead' rfl ?_ ?_ ⟨rfl, by decide⟩ ⟨rfl, by decide⟩ (by simp [stV_closed]) ?_ <;> simp [aliveG, migrateF, htk, hxj, gg0, gg1, gg2, gg3, gg4, gg5, gg6])
  simp [h, gg0, gg1, gg2, gg3, gg4, gg5, gg6]
  rcases Bool.eq_false_or_eq_true (frozenB C s j) with gg7 | gg7
  · simp [gg0, gg1, gg2, gg3, gg4, gg5, gg6, gg7]
    ((repeat refine ⟨⟨by kernel_rfl, by kernel_rfl⟩, ?_⟩); rw [hr]; refine retDead' rfl ?_ ?_ ⟨rfl, by decide⟩ ⟨rfl, by decide⟩ (by simp [stV_closed]) ?_ <;> simp [aliveG, migrateF, htk, hxj, gg0, gg1, gg2, gg3, gg4, gg5, gg6, gg7])
  simp [h, gg0, gg1, gg2, gg3, gg4, gg5, gg6, gg7]
  rcases Bool.eq_false_or_eq_true (mayB C k j) with gg8 | gg8
  rotate_left
  · simp [gg0, gg1, gg2, gg3, gg4, gg5, gg6, gg7, gg8]
    ((repeat refine ⟨⟨by kernel_rfl, by kernel_rfl⟩, ?_⟩); rw [hr]; refine retDead' rfl ?_ ?_ ⟨rfl, by decide⟩ ⟨rfl, by decide⟩ (by simp [stV_closed]) ?_ <;> simp [aliveG, migrateF, htk, hxj, gg0, gg1, gg2, gg3, gg4, gg5, gg6, gg7, gg8])
  simp [GTenantState.cells, h, hk, ht', gg0, gg1, gg2, gg3, gg4, gg5, gg6, gg7, gg8]
  rcases Bool.eq_false_or_eq_true (togetherB C j t.Standby) with gg9 | gg9
  · simp [gg0, gg1, gg2, gg3, gg4, gg5, gg6, gg7, gg8, gg9]
    ((repeat refine ⟨⟨by kernel_rfl, by kernel_rfl⟩, ?_⟩); rw [hr]; refine retDead' rfl ?_ ?_ ⟨rfl, by decide⟩ ⟨rfl, by decide⟩ (by simp [stV_closed]) ?_ <;> simp [aliveG, migrateF, htk, hxj, gg0, gg1, gg2, gg3, gg4, gg5, gg6, gg7, gg8, gg9])
  simp [GTenantState.cells, h, hk, ht', gg0, gg1, gg2, gg3, gg4, gg5, gg6, gg7, gg8, gg9]
  rcases Bool.eq_false_or_eq_true (togetherB C j t.Next) with gg10 | gg10
  · simp [gg0, gg1, gg2, gg3, gg4, gg5, gg6, gg7, gg8, gg9, gg10]
    ((repeat refine ⟨⟨by kernel_rfl, by kernel_rfl⟩, ?_⟩); rw [hr]; refine retDead' rfl ?_ ?_ ⟨rfl, by decide⟩ ⟨rfl, by decide⟩ (by simp [stV_closed]) ?_ <;> simp [aliveG, migrateF, htk, hxj, gg0, gg1, gg2, gg3, gg4, gg5, gg6, gg7, gg8, gg9, gg10])
  simp [GTenantState.cells, hS, eq_true hT, hc1, hk, ht', gg0, gg1, gg2, gg3, gg4, gg5, gg6, gg7, gg8, gg9, gg10]
  generalize hF : fitF C _ = F
  have hP : migrateF C s ⟨kd, tk, k, j, ot, ep, fr, un, n⟩ = F := by rw [← hF]; simp [migrateF, setT, htk, hxj, gg0, gg1, gg2, gg3, gg4, gg5, gg6, gg7, gg8, gg9, gg10]; try rfl
  rcases fitF_cases hF with rfl | rfl
  · simp [GState.cells, hcn, gg0, gg1, gg2, gg3, gg4, gg5, gg6, gg7, gg8, gg9, gg10]
    ((repeat refine ⟨⟨by kernel_rfl, by kernel_rfl⟩, ?_⟩); rw [hr]; refine retDead' rfl ?_ ?_ ⟨rfl, by decide⟩ ⟨rfl, by decide⟩ (by simp [stV_closed]) ?_ <;> simp [aliveG, hP])
  · simp [gg0, gg1, gg2, gg3, gg4, gg5, gg6, gg7, gg8, gg9, gg10]
    ((repeat refine ⟨⟨by kernel_rfl, by kernel_rfl⟩, ?_⟩); rw [hr]; refine retDead' rfl ?_ ?_ ⟨rfl, by decide⟩ ⟨rfl, by decide⟩ (by simp [stV_closed]) ?_ <;> simp [aliveG, hP])

/-! ### Abandon -/
def abandonF (s : GState) (e : GEntry) : GState × Int :=
  if (tenSt s e.Tenant).Placed = false ∨ (tenSt s e.Tenant).Target < 0 then (zeroS, 4)
  else (setT s e.Tenant { tenSt s e.Tenant with Target := -1 }, 0)
noncomputable def abandonSp := fam (fun i : GState × GEntry => [wState i.1 0 1, vEntry i.2]) (fun i : GState × GEntry => [tsO i.1.Tenants, csO i.1.Cells]) (fun i : GState × GEntry => (¬ i.1.Cells = []) ∧ (0 ≤ i.2.Tenant ∧ i.2.Tenant < i.1.Tenants.length)) (fun i : GState × GEntry => resW (abandonF i.1 i.2))
@[simp] theorem abandonSp_eq {s : GState} {e : GEntry} (h1 : ¬ s.Cells = []) (h2 : 0 ≤ e.Tenant ∧ e.Tenant < s.Tenants.length) : abandonSp ([wState s 0 1, vEntry e]) ([tsO s.Tenants, csO s.Cells]) = some (resW (abandonF s e)) :=
  fam_eq (A := fun i : GState × GEntry => [wState i.1 0 1, vEntry i.2]) (O := fun i : GState × GEntry => [tsO i.1.Tenants, csO i.1.Cells]) (res := fun i : GState × GEntry => resW (abandonF i.1 i.2)) (by rintro ⟨s, e⟩ ⟨s', e'⟩ h h'; cases s; cases s'; simp at h h'; simp_all) (s, e) ⟨h1, h2⟩
@[simp] theorem abandonSp_none {e : V} {s : GState} {os : List AObj} : abandonSp [vState s, e] os = none := fam_none (fun i h _ => by simp only [vState, GState.cells, List.cons.injEq, V.agg.injEq, reduceCtorEq, false_and, and_false] at h)

set_option maxHeartbeats 40000000 in
theorem abandon_spec : Lift.Spec Tryd.prog 82 abandonSp := by
  refine spec_fam (C := CZ7) types_ok CZ7_ok follows Tryd.func82 (by kernel_rfl) rfl (by kernel_rfl) rfl ?_
  rintro ⟨s, e⟩ ⟨hcn, e1⟩
  try simp only at hcn e1
  refine ⟨by simp, ?_⟩
  intro r hr
  obtain ⟨kd, tk, tn, ce, ot, ep, fr, un, n⟩ := e
  simp only at *
  obtain ⟨k, rfl⟩ := Int.eq_ofNat_of_zero_le e1.1
  have hk : k < s.Tenants.length := by omega
  obtain ⟨t, ht, ht', htm⟩ := get_of_lt hk
  have htk : tenSt s k = t := by simp [tenSt, ht]
  simp [GEntry.cells, GTenantState.cells, hk, ht']
  rcases Bool.eq_false_or_eq_true (t.Placed) with gg0 | gg0
  rotate_left
  · simp [gg0]
    ((repeat refine ⟨⟨by kernel_rfl, by kernel_rfl⟩, ?_⟩); rw [hr]; refine retDead' rfl ?_ ?_ ⟨rfl, by decide⟩ ⟨rfl, by decide⟩ (by simp [stV_closed]) ?_ <;> simp [aliveG, abandonF, htk, gg0])
  simp [GTenantState.cells, hk, ht', gg0]
  by_cases gg1 : (t.Target < 0)
  · simp [gg0, gg1]
    ((repeat refine ⟨⟨by kernel_rfl, by kernel_rfl⟩, ?_⟩); rw [hr]; refine retDead' rfl ?_ ?_ ⟨rfl, by decide⟩ ⟨rfl, by decide⟩ (by simp [stV_closed]) ?_ <;> simp [aliveG, abandonF, htk, gg0, gg1])
  simp [GTenantState.cells, hk, ht', gg0, gg1]
  ((repeat refine ⟨⟨by kernel_rfl, by kernel_rfl⟩, ?_⟩); rw [hr]; refine retDead' rfl ?_ ?_ ⟨rfl, by decide⟩ ⟨rfl, by decide⟩ (by simp [stV_closed]) ?_ <;> simp [aliveG, abandonF, setT, htk, gg0, gg1])

/-! ### Shed -/
noncomputable def shedF (C : GConfig) (s : GState) (e : GEntry) : GState × Int :=
  if e.N = 1 then
    if (tenSt s e.Tenant).Placed = false ∨ (tenSt s e.Tenant).Shed = true then (zeroS, 4)
    else if e.Tick < (tenSt s e.Tenant).Window.Until then (zeroS, 9)
    else (setT s e.Tenant { tenSt s e.Tenant with Shed := true, Target := -1 }, 0)
  else if (tenSt s e.Tenant).Shed = false then (zeroS, 4)
  else if (cellSt s (tenSt s e.Tenant).Home).Mode = 3 then (zeroS, 6)
  else fitF C (setT s e.Tenant { tenSt s e.Tenant with Shed := false })
noncomputable def shedSp := fam (fun i : GConfig × GState × GEntry => [vConfig i.1, wState i.2.1 0 1, vEntry i.2.2]) (fun i : GConfig × GState × GEntry => [tsO i.2.1.Tenants, csO i.2.1.Cells]) (fun i : GConfig × GState × GEntry => (TopoOk i.1) ∧ (SmallT i.1) ∧ (StOk i.1 i.2.1) ∧ (0 ≤ i.2.2.Tenant ∧ i.2.2.Tenant < i.2.1.Tenants.length)) (fun i : GConfig × GState × GEntry => resW (shedF i.1 i.2.1 i.2.2))
@[simp] theorem shedSp_eq {C : GConfig} {s : GState} {e : GEntry} (h1 : TopoOk C) (h2 : SmallT C) (h3 : StOk C s) (h4 : 0 ≤ e.Tenant ∧ e.Tenant < s.Tenants.length) : shedSp ([vConfig C, wState s 0 1, vEntry e]) ([tsO s.Tenants, csO s.Cells]) = some (resW (shedF C s e)) :=
  fam_eq (A := fun i : GConfig × GState × GEntry => [vConfig i.1, wState i.2.1 0 1, vEntry i.2.2]) (O := fun i : GConfig × GState × GEntry => [tsO i.2.1.Tenants, csO i.2.1.Cells]) (res := fun i : GConfig × GState × GEntry => resW (shedF i.1 i.2.1 i.2.2)) (by rintro ⟨C, s, e⟩ ⟨C', s', e'⟩ h h'; cases s; cases s'; simp at h h'; simp_all) (C, s, e) ⟨h1, h2, h3, h4⟩
@[simp] theorem shedSp_none {c e : V} {s : GState} {os : List AObj} : shedSp [c, vState s, e] os = none := fam_none (fun i h _ => by simp only [vState, GState.cells, List.cons.injEq, V.agg.injEq, reduceCtorEq, false_and, and_false] at h)

set_option maxHeartbeats 40000000 in
theorem shed_spec : Lift.Spec Tryd.prog 83 shedSp := by
  refine spec_fam (C := CZ7) types_ok CZ7_ok follows Tryd.func83 (by kernel_rfl) rfl (by kernel_rfl) rfl ?_
  rintro ⟨C, s, e⟩ ⟨h, hS, hs, e1⟩
  try simp only at h hS hs e1
  refine ⟨by simp, ?_⟩
  intro r hr
  have hT := hs.T
  have hN := hs.N
  have hM := hS.M
  have hc1 : 1 ≤ C.Cells.length := h.N.1
  have hcn : ¬ s.Cells = [] := fun e => by rw [e] at hN; simp at hN; omega
  obtain ⟨kd, tk, tn, ce, ot, ep, fr, un, n⟩ := e
  simp only at *
  obtain ⟨k, rfl⟩ := Int.eq_ofNat_of_zero_le e1.1
  have hk : k < s.Tenants.length := by omega
  obtain ⟨t, ht, ht', htm⟩ := get_of_lt hk
  have htk : tenSt s k = t := by simp [tenSt, ht]
  by_cases hn1 : n = 1
  · subst hn1
    simp [GConfig.cells, GEntry.cells, GTenantState.cells, hk, ht']
    rcases Bool.eq_false_or_eq_true (t.Placed) with gg0 | gg0
    rotate_left
    · simp [gg0]
      ((repeat refine ⟨⟨by kernel_rfl, by kernel_rfl⟩, ?_⟩); rw [hr]; refine retDead' rfl ?_ ?_ ⟨rfl, by decide⟩ ⟨rfl, by decide⟩ (by simp [stV_closed]) ?_ <;> simp [aliveG, shedF, htk, gg0])
    simp [GTenantState.cells, hk, ht', gg0]
    rcases Bool.eq_false_or_eq_true (t.Shed) with gg1 | gg1
    · simp [gg0, gg1]
      ((repeat refine ⟨⟨by kernel_rfl, by kernel_rfl⟩, ?_⟩); rw [hr]; refine retDead' rfl ?_ ?_ ⟨rfl, by decide⟩ ⟨rfl, by decide⟩ (by simp [stV_closed]) ?_ <;> simp [aliveG, shedF, htk, gg0, gg1])
    simp [GTenantState.cells, hk, ht', gg0, gg1]
    by_cases gg2 : (tk < t.Window.Until)
    · simp [gg0, gg1, gg2]
      ((repeat refine ⟨⟨by kernel_rfl, by kernel_rfl⟩, ?_⟩); rw [hr]; refine retDead' rfl ?_ ?_ ⟨rfl, by decide⟩ ⟨rfl, by decide⟩ (by simp [stV_closed]) ?_ <;> simp [aliveG, shedF, htk, gg0, gg1, gg2])
    simp [GTenantState.cells, hk, ht', gg0, gg1, gg2]
    ((repeat refine ⟨⟨by kernel_rfl, by kernel_rfl⟩, ?_⟩); rw [hr]; refine retDead' rfl ?_ ?_ ⟨rfl, by decide⟩ ⟨rfl, by decide⟩ (by simp [stV_closed]) ?_ <;> simp [aliveG, shedF, setT, htk, gg0, gg1, gg2])
  · by_cases hsd : t.Shed = true
    · have htO := hs.ten t htm
      obtain ⟨j, hjh⟩ := Int.eq_ofNat_of_zero_le (htO.placed (htO.shed hsd))
      have hj : j < s.Cells.length := by have := htO.home; omega
      obtain ⟨x, hx, hx', _⟩ := get_of_lt hj
      have hxj : cellSt s j = x := by simp [cellSt, hx]
      simp [GConfig.cells, GEntry.cells, GTenantState.cells, GCellState.cells, hk, ht', hn1, hsd, hjh, hj, hx']
      by_cases gg0 : (x.Mode = 3)
      · simp [gg0]
        ((repeat refine ⟨⟨by kernel_rfl, by kernel_rfl⟩, ?_⟩); rw [hr]; refine retDead' rfl ?_ ?_ ⟨rfl, by decide⟩ ⟨rfl, by decide⟩ (by simp [stV_closed]) ?_ <;> simp [aliveG, shedF, htk, hn1, hsd, hjh, hxj, gg0])
      simp [GTenantState.cells, hS, eq_true hT, hc1, hk, ht', hsd, hjh, gg0]
      generalize hF : fitF C _ = F
      have hP : shedF C s ⟨kd, tk, k, ce, ot, ep, fr, un, n⟩ = F := by rw [← hF]; simp [shedF, setT, htk, hn1, hsd, hjh, hxj, gg0]; try rfl
      rcases fitF_cases hF with rfl | rfl
      · simp [GState.cells, hcn, gg0]
        ((repeat refine ⟨⟨by kernel_rfl, by kernel_rfl⟩, ?_⟩); rw [hr]; refine retDead' rfl ?_ ?_ ⟨rfl, by decide⟩ ⟨rfl, by decide⟩ (by simp [stV_closed]) ?_ <;> simp [aliveG, hP])
      · simp [gg0]
        ((repeat refine ⟨⟨by kernel_rfl, by kernel_rfl⟩, ?_⟩); rw [hr]; refine retDead' rfl ?_ ?_ ⟨rfl, by decide⟩ ⟨rfl, by decide⟩ (by simp [stV_closed]) ?_ <;> simp [aliveG, hP])
    · simp [GConfig.cells, GEntry.cells, GTenantState.cells, hk, ht', hn1, hsd]
      ((repeat refine ⟨⟨by kernel_rfl, by kernel_rfl⟩, ?_⟩); rw [hr]; refine retDead' rfl ?_ ?_ ⟨rfl, by decide⟩ ⟨rfl, by decide⟩ (by simp [stV_closed]) ?_ <;> simp [aliveG, shedF, htk, hn1, hsd])
end Go.Proofs.YtegjhmhhbmnljaaDoor
