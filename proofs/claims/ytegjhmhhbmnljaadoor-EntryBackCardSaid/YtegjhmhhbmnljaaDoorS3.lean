/-
  state: entries, one by one.
-/
import Derived.Test.YtegjhmhhbmnljaaDoorS2
namespace Go.Proofs.YtegjhmhhbmnljaaDoor
open Go.Lift

/-- What a tenant's state is like. -/
structure TenOk (C : GConfig) (t : GTenantState) : Prop where
  home : -1 ≤ t.Home ∧ t.Home < C.Cells.length
  stand : -1 ≤ t.Standby ∧ t.Standby < C.Cells.length
  next : -1 ≤ t.Next ∧ t.Next < C.Cells.length
  target : -1 ≤ t.Target ∧ t.Target < C.Cells.length
  placed : t.Placed = true → 0 ≤ t.Home
  shed : t.Shed = true → t.Placed = true
  epoch : 0 ≤ t.Epoch ∧ t.Epoch ≤ 1048576
  from_ : 0 ≤ t.Window.From ∧ t.Window.From ≤ 1073741824
  until_ : 0 ≤ t.Window.Until ∧ t.Window.Until ≤ 1073741824
structure CelOk (C : GConfig) (x : GCellState) : Prop where
  mode : 1 ≤ x.Mode ∧ x.Mode ≤ 3
  runs : 0 ≤ x.Running ∧ x.Running < C.Versions.length
  want : 0 ≤ x.Wanted ∧ x.Wanted < C.Versions.length
  since : 0 ≤ x.Since ∧ x.Since ≤ 1073741824
/-- What a state is like. -/
structure StOk (C : GConfig) (s : GState) : Prop where
  T : s.Tenants.length = C.Tenants.length
  N : s.Cells.length = C.Cells.length
  tick : 0 ≤ s.Tick ∧ s.Tick ≤ 1073741824
  cnt : 0 ≤ s.Count ∧ s.Count ≤ 4096
  ten : ∀ t ∈ s.Tenants, TenOk C t
  cel : ∀ x ∈ s.Cells, CelOk C x
  sch : 0 ≤ s.Low ∧ s.Low ≤ s.High ∧ s.High ≤ 30

abbrev deadT : AObj := ⟨90, 12, [], false, 2, .dead⟩
abbrev deadC : AObj := ⟨116, 4, [], false, 2, .dead⟩
abbrev resW (x : GState × Int) : CRes := ⟨.tup [stV x, .int .i64 x.2], [deadT, deadC]⟩
def setT (s : GState) (i : Int) (t : GTenantState) : GState := { s with Tenants := s.Tenants.set i.toNat t }
def setC (s : GState) (i : Int) (x : GCellState) : GState := { s with Cells := s.Cells.set i.toNat x }

@[simp] theorem take_set {α : Type} (l : List α) (k : Nat) (x : α) : (l.set k x).take l.length = l.set k x := List.take_of_length_le (by simp)
theorem tenRow_set (l : List GTenantState) (k : Nat) (a b : Bool) (c d e f g h i j m n : Int) : (GTenantState.row l).set k [.bool a, .bool b, .int .i64 c, .int .i64 d, .int .i64 e, .int .i64 f, .int .i64 g, .int .i64 h, .int .i64 i, .int .i64 j, .int .i64 m, .int .i64 n] = GTenantState.row (l.set k ⟨a, b, c, d, e, f, g, ⟨h, i, j, m, n⟩⟩) := GTenantState.row_set l k ⟨a, b, c, d, e, f, g, ⟨h, i, j, m, n⟩⟩
theorem celRow_set (l : List GCellState) (k : Nat) (a b c d : Int) : (GCellState.row l).set k [.int .i64 a, .int .i64 b, .int .i64 c, .int .i64 d] = GCellState.row (l.set k ⟨a, b, c, d⟩) := GCellState.row_set l k ⟨a, b, c, d⟩
theorem vState_mk (a b c d e f : Int) (ts : List GTenantState) (cs : List GCellState) : V.agg [.int .i64 a, .int .i64 b, .sl 2 12 (GTenantState.row ts), .sl 2 4 (GCellState.row cs), .int .i64 c, .int .i64 d, .int .i64 e, .int .i64 f] = vState ⟨a, b, ts, cs, c, d, e, f⟩ := rfl
attribute [simp] tenRow_set celRow_set stV_err stV_ok
attribute [simp low] vState_mk
theorem fitF_cases {C : GConfig} {s : GState} {F : GState × Int} (h : fitF C s = F) : F = (s, 0) ∨ F = (zeroS, 10) := by
  unfold fitF at h
  split at h
  · exact .inl h.symm
  · exact .inr h.symm
@[simp] theorem vState_scalar {s : GState} (h : ¬ s.Cells = []) : (vState s).scalar = false := by
  cases hc : s.Cells with
  | nil => exact absurd hc h
  | cons x r => simp [vState, GState.cells, hc, GCellState.row]


noncomputable def CZ6 := mkC [(74, noSp), (92, fitSp), (90, frozenSp), (91, togetherSp), (63, maySp)]
theorem CZ6_ok : SpecsOk Tryd.prog CZ6 := mkC_ok (all_cons no_spec (all_cons fit_spec (all_cons frozen_spec (all_cons together_spec (all_cons refmay_spec all_nil)))))
@[simp] theorem CZ6_1 : CZ6 74 = noSp := rfl
@[simp] theorem CZ6_2 : CZ6 92 = fitSp := rfl
@[simp] theorem CZ6_3 : CZ6 90 = frozenSp := rfl
@[simp] theorem CZ6_4 : CZ6 91 = togetherSp := rfl
@[simp] theorem CZ6_5 : CZ6 63 = maySp := rfl

def modeUp (s : GState) (i : Int) : Bool := decide ((cellSt s i).Mode = 1)
noncomputable def placeF (C : GConfig) (s : GState) (e : GEntry) : GState × Int :=
  if (tenSt s e.Tenant).Placed = true then (zeroS, 4)
  else if ¬ (cellSt s e.Cell).Mode = 1 ∨ (0 ≤ e.Other ∧ ¬ (cellSt s e.Other).Mode = 1) then (zeroS, 6)
  else if frozenB C s e.Cell = true ∨ (0 ≤ e.Other ∧ frozenB C s e.Other = true) then (zeroS, 12)
  else if mayB C e.Tenant e.Cell = false ∨ (0 ≤ e.Other ∧ (mayB C e.Tenant e.Other = false ∨ togetherB C e.Cell e.Other = true)) then (zeroS, 11)
  else fitF C (setT s e.Tenant { tenSt s e.Tenant with Placed := true, Home := e.Cell, Standby := e.Other })
noncomputable def placeSp := fam (fun i : GConfig × GState × GEntry => [vConfig i.1, wState i.2.1 0 1, vEntry i.2.2]) (fun i : GConfig × GState × GEntry => [tsO i.2.1.Tenants, csO i.2.1.Cells]) (fun i : GConfig × GState × GEntry => (TopoOk i.1) ∧ (SmallT i.1) ∧ (StOk i.1 i.2.1) ∧ (0 ≤ i.2.2.Tenant ∧ i.2.2.Tenant < i.1.Tenants.length) ∧ (0 ≤ i.2.2.Cell ∧ i.2.2.Cell < i.1.Cells.length) ∧ (-1 ≤ i.2.2.Other ∧ i.2.2.Other < i.1.Cells.length)) (fun i : GConfig × GState × GEntry => resW (placeF i.1 i.2.1 i.2.2))
@[simp] theorem placeSp_eq {C : GConfig} {s : GState} {e : GEntry} (h1 : TopoOk C) (h2 : SmallT C) (h3 : StOk C s) (h4 : 0 ≤ e.Tenant ∧ e.Tenant < C.Tenants.length) (h5 : 0 ≤ e.Cell ∧ e.Cell < C.Cells.length) (h6 : -1 ≤ e.Other ∧ e.Other < C.Cells.length) : placeSp ([vConfig C, wState s 0 1, vEntry e]) ([tsO s.Tenants, csO s.Cells]) = some (resW (placeF C s e)) :=
  fam_eq (A := fun i : GConfig × GState × GEntry => [vConfig i.1, wState i.2.1 0 1, vEntry i.2.2]) (O := fun i : GConfig × GState × GEntry => [tsO i.2.1.Tenants, csO i.2.1.Cells]) (res := fun i : GConfig × GState × GEntry => resW (placeF i.1 i.2.1 i.2.2)) (by rintro ⟨C, s, e⟩ ⟨C', s', e'⟩ h h'; cases s; cases s'; simp at h h'; simp_all) (C, s, e) ⟨h1, h2, h3, h4, h5, h6⟩
@[simp] theorem placeSp_none {c e : V} {s : GState} {os : List AObj} : placeSp [c, vState s, e] os = none := fam_none (fun i h _ => by simp only [vState, GState.cells, List.cons.injEq, V.agg.injEq, reduceCtorEq, false_and, and_false] at h)

set_option maxHeartbeats 40000000 in
theorem place_spec : Lift.Spec Tryd.prog 76 placeSp := by
  refine spec_fam (C := CZ6) types_ok CZ6_ok follows Tryd.func76 (by kernel_rfl) rfl (by kernel_rfl) rfl ?_
  rintro ⟨C, s, e⟩ ⟨h, hS, hs, e1, e2, e3⟩
  try simp only at h hS hs e1 e2 e3
  refine ⟨by simp, ?_⟩
  intro r hr
  have hT := hs.T
  have hN := hs.N
  have hM := hS.M
  have hc1 : 1 ≤ C.Cells.length := h.N.1
  have hcn : ¬ s.Cells = [] := fun e => by rw [e] at hN; simp at hN; omega
  obtain ⟨kd, tk, tn, ce, ot, ep, fr, un, n⟩ := e
  simp only at e1 e2 e3
  obtain ⟨k, rfl⟩ := Int.eq_ofNat_of_zero_le e1.1
  obtain ⟨j, rfl⟩ := Int.eq_ofNat_of_zero_le e2.1
  have hk : k < s.Tenants.length := by omega
  have hj : j < s.Cells.length := by omega
  obtain ⟨t, ht, ht', _⟩ := get_of_lt hk
  obtain ⟨x, hx, hx', _⟩ := get_of_lt hj
  have htk : tenSt s k = t := by simp [tenSt, ht]
  have hxj : cellSt s j = x := by simp [cellSt, hx]
  by_cases ho : 0 ≤ ot
  · obtain ⟨m, rfl⟩ := Int.eq_ofNat_of_zero_le ho
    have hm : m < s.Cells.length := by omega
    obtain ⟨y, hy, hy', _⟩ := get_of_lt hm
    have hym : cellSt s m = y := by simp [cellSt, hy]
    simp [GConfig.cells, GEntry.cells, GTenantState.cells, hk, ht']
    rcases Bool.eq_false_or_eq_true (t.Placed) with gg0 | gg0
    · simp [gg0]
      ((repeat refine ⟨⟨by kernel_rfl, by kernel_rfl⟩, ?_⟩); rw [hr]; refine retDead' rfl ?_ ?_ ⟨rfl, by decide⟩ ⟨rfl, by decide⟩ (by simp [stV_closed]) ?_ <;> simp [aliveG, placeF, htk, gg0])
    simp [GCellState.cells, hj, hx', gg0]
    by_cases gg1 : (x.Mode = 1)
    rotate_left
    · simp [gg0, gg1]
      ((repeat refine ⟨⟨by kernel_rfl, by kernel_rfl⟩, ?_⟩); rw [hr]; refine retDead' rfl ?_ ?_ ⟨rfl, by decide⟩ ⟨rfl, by decide⟩ (by simp [stV_closed]) ?_ <;> simp [aliveG, placeF, htk, hxj, hym, ho, gg0, gg1])
    simp [GCellState.cells, hm, hy', gg0, gg1]
    by_cases gg2 : (y.Mode = 1)
    rotate_left
    · simp [gg0, gg1, gg2]
      ((repeat refine ⟨⟨by kernel_rfl, by kernel_rfl⟩, ?_⟩); rw [hr]; refine retDead' rfl ?_ ?_ ⟨rfl, by decide⟩ ⟨rfl, by decide⟩ (by simp [stV_closed]) ?_ <;> simp [aliveG, placeF, htk, hxj, hym, ho, gg0, gg1, gg2])
    simp [h, gg0, gg1, gg2]
    rcases Bool.eq_false_or_eq_true (frozenB C s j) with gg3 | gg3
    · simp [gg0, gg1, gg2, gg3]
      ((repeat refine ⟨⟨by kernel_rfl, by kernel_rfl⟩, ?_⟩); rw [hr]; refine retDead' rfl ?_ ?_ ⟨rfl, by decide⟩ ⟨rfl, by decide⟩ (by simp [stV_closed]) ?_ <;> simp [aliveG, placeF, htk, hxj, hym, ho, gg0, gg1, gg2, gg3])
    simp [h, gg0, gg1, gg2, gg3]
    rcases Bool.eq_false_or_eq_true (frozenB C s m) with gg4 | gg4
    · simp [gg0, gg1, gg2, gg3, gg4]
      ((repeat refine ⟨⟨by kernel_rfl, by kernel_rfl⟩, ?_⟩); rw [hr]; refine retDead' rfl ?_ ?_ ⟨rfl, by decide⟩ ⟨rfl, by decide⟩ (by simp [stV_closed]) ?_ <;> simp [aliveG, placeF, htk, hxj, hym, ho, gg0, gg1, gg2, gg3, gg4])
    simp [h, gg0, gg1, gg2, gg3, gg4]
    rcases Bool.eq_false_or_eq_true (mayB C k j) with gg5 | gg5
    rotate_left
    · simp [gg0, gg1, gg2, gg3, gg4, gg5]
      ((repeat refine ⟨⟨by kernel_rfl, by kernel_rfl⟩, ?_⟩); rw [hr]; refine retDead' rfl ?_ ?_ ⟨rfl, by decide⟩ ⟨rfl, by decide⟩ (by simp [stV_closed]) ?_ <;> simp [aliveG, placeF, htk, hxj, hym, ho, gg0, gg1, gg2, gg3, gg4, gg5])
    simp [h, gg0, gg1, gg2, gg3, gg4, gg5]
    rcases Bool.eq_false_or_eq_true (mayB C k m) with gg6 | gg6
    rotate_left
    · simp [gg0, gg1, gg2, gg3, gg4, gg5, gg6]
      ((repeat refine ⟨⟨by kernel_rfl, by kernel_rfl⟩, ?_⟩); rw [hr]; refine retDead' rfl ?_ ?_ ⟨rfl, by decide⟩ ⟨rfl, by decide⟩ (by simp [stV_closed]) ?_ <;> simp [aliveG, placeF, htk, hxj, hym, ho, gg0, gg1, gg2, gg3, gg4, gg5, gg6])
    simp [h, gg0, gg1, gg2, gg3, gg4, gg5, gg6]
    rcases Bool.eq_false_or_eq_true (togetherB C j m) with gg7 | gg7
    · simp [gg0, gg1, gg2, gg3, gg4, gg5, gg6, gg7]
      ((repeat refine ⟨⟨by kernel_rfl, by kernel_rfl⟩, ?_⟩); rw [hr]; refine retDead' rfl ?_ ?_ ⟨rfl, by decide⟩ ⟨rfl, by decide⟩ (by simp [stV_closed]) ?_ <;> simp [aliveG, placeF, htk, hxj, hym, ho, gg0, gg1, gg2, gg3, gg4, gg5, gg6, gg7])
    simp [GTenantState.cells, hk, ht', hS, eq_true hT, hc1, gg0, gg1, gg2, gg3, gg4, gg5, gg6, gg7]
    generalize hF : fitF C _ = F
    have hP : placeF C s ⟨kd, tk, k, j, m, ep, fr, un, n⟩ = F := by rw [← hF]; simp [placeF, setT, htk, hxj, hym, ho, gg0, gg1, gg2, gg3, gg4, gg5, gg6, gg7]; try rfl
    rcases fitF_cases hF with rfl | rfl
    · simp [GState.cells, hcn, gg0, gg1, gg2, gg3, gg4, gg5, gg6, gg7]
      ((repeat refine ⟨⟨by kernel_rfl, by kernel_rfl⟩, ?_⟩); rw [hr]; refine retDead' rfl ?_ ?_ ⟨rfl, by decide⟩ ⟨rfl, by decide⟩ (by simp [stV_closed]) ?_ <;> simp [aliveG, hP])
    · simp [gg0, gg1, gg2, gg3, gg4, gg5, gg6, gg7]
      ((repeat refine ⟨⟨by kernel_rfl, by kernel_rfl⟩, ?_⟩); rw [hr]; refine retDead' rfl ?_ ?_ ⟨rfl, by decide⟩ ⟨rfl, by decide⟩ (by simp [stV_closed]) ?_ <;> simp [aliveG, hP])
  ·
    simp [GConfig.cells, GEntry.cells, GTenantState.cells, hk, ht', ho]
    rcases Bool.eq_false_or_eq_true (t.Placed) with gg0 | gg0
    · simp [gg0]
      ((repeat refine ⟨⟨by kernel_rfl, by kernel_rfl⟩, ?_⟩); rw [hr]; refine retDead' rfl ?_ ?_ ⟨rfl, by decide⟩ ⟨rfl, by decide⟩ (by simp [stV_closed]) ?_ <;> simp [aliveG, placeF, htk, gg0])
    simp [GCellState.cells, hj, hx', gg0]
    by_cases gg1 : (x.Mode = 1)
    rotate_left
    · simp [gg0, gg1]
      ((repeat refine ⟨⟨by kernel_rfl, by kernel_rfl⟩, ?_⟩); rw [hr]; refine retDead' rfl ?_ ?_ ⟨rfl, by decide⟩ ⟨rfl, by decide⟩ (by simp [stV_closed]) ?_ <;> simp [aliveG, placeF, htk, hxj, ho, gg0, gg1])
    simp [h, gg0, gg1]
    rcases Bool.eq_false_or_eq_true (frozenB C s j) with gg2 | gg2
    · simp [gg0, gg1, gg2]
      ((repeat refine ⟨⟨by kernel_rfl, by kernel_rfl⟩, ?_⟩); rw [hr]; refine retDead' rfl ?_ ?_ ⟨rfl, by decide⟩ ⟨rfl, by decide⟩ (by simp [stV_closed]) ?_ <;> simp [aliveG, placeF, htk, hxj, ho, gg0, gg1, gg2])
    simp [h, gg0, gg1, gg2]
    rcases Bool.eq_false_or_eq_true (mayB C k j) with gg3 | gg3
    rotate_left
    · simp [gg0, gg1, gg2, gg3]
      ((repeat refine ⟨⟨by kernel_rfl, by kernel_rfl⟩, ?_⟩); rw [hr]; refine retDead' rfl ?_ ?_ ⟨rfl, by decide⟩ ⟨rfl, by decide⟩ (by simp [stV_closed]) ?_ <;> simp [aliveG, placeF, htk, hxj, ho, gg0, gg1, gg2, gg3])
    simp [GTenantState.cells, hk, ht', hS, eq_true hT, hc1, gg0, gg1, gg2, gg3]
    generalize hF : fitF C _ = F
    have hP : placeF C s ⟨kd, tk, k, j, ot, ep, fr, un, n⟩ = F := by rw [← hF]; simp [placeF, setT, htk, hxj, ho, gg0, gg1, gg2, gg3]; try rfl
    rcases fitF_cases hF with rfl | rfl
    · simp [GState.cells, hcn, gg0, gg1, gg2, gg3]
      ((repeat refine ⟨⟨by kernel_rfl, by kernel_rfl⟩, ?_⟩); rw [hr]; refine retDead' rfl ?_ ?_ ⟨rfl, by decide⟩ ⟨rfl, by decide⟩ (by simp [stV_closed]) ?_ <;> simp [aliveG, hP])
    · simp [gg0, gg1, gg2, gg3]
      ((repeat refine ⟨⟨by kernel_rfl, by kernel_rfl⟩, ?_⟩); rw [hr]; refine retDead' rfl ?_ ?_ ⟨rfl, by decide⟩ ⟨rfl, by decide⟩ (by simp [stV_closed]) ?_ <;> simp [aliveG, hP])
end Go.Proofs.YtegjhmhhbmnljaaDoor
