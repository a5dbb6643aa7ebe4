/-
  state: entries about versions.
-/
import Derived.Test.YtegjhmhhbmnljaaDoorS6
namespace Go.Proofs.YtegjhmhhbmnljaaDoor
open Go.Lift

attribute [simp] vVersion_fold
attribute [simp high] vVersion_cells
/-- A box that holds a state whose slices are the objects 0 and 1. -/
abbrev boxW (s : GState) : AObj := ⟨59, 8, [[.int .i64 s.Tick, .int .i64 s.Count, .own 0 0 s.Tenants.length, .own 1 0 s.Cells.length, .int .i64 s.Proven, .int .i64 s.Evacuating, .int .i64 s.Low, .int .i64 s.High]], true, 0, .rw⟩
abbrev verO (v : GVersion) : AObj := ⟨85, 2, [GVersion.cells v], true, 2, .rw⟩
def verAt (C : GConfig) (i : Int) : GVersion := C.Versions.getD i.toNat ⟨0, 0⟩

/-! ### Want -/
def othersTo (s : GState) (j : Nat) : Nat → Nat
  | 0 => 0
  | i + 1 => othersTo s j i + (if ¬ i = j ∧ openB s i = true then 1 else 0)
theorem othersTo_le (s : GState) (j : Nat) : ∀ i, othersTo s j i ≤ i
  | 0 => Nat.le_refl _
  | i + 1 => by
    have := othersTo_le s j i
    rw [othersTo]
    split <;> omega
noncomputable def others (s : GState) (j : Nat) : Nat := hush (othersTo s j s.Cells.length)
theorem others_eq (s : GState) (j : Nat) : others s j = othersTo s j s.Cells.length := hush_eq _
noncomputable def wantF (C : GConfig) (s : GState) (e : GEntry) : GState × Int :=
  if (cellSt s e.Cell).Wanted = e.N then (zeroS, 4)
  else if s.Low < (verAt C e.N).Low ∨ (verAt C e.N).High < s.High then (zeroS, 13)
  else if ¬ e.N = (cellSt s e.Cell).Running ∧ provenB s e.N = false ∧ ¬ s.Evacuating = 0 then (zeroS, 12)
  else if ¬ e.N = (cellSt s e.Cell).Running ∧ provenB s e.N = false ∧ C.Blast ≤ others s e.Cell.toNat then (zeroS, 14)
  else (setC s e.Cell { cellSt s e.Cell with Wanted := e.N }, 0)
noncomputable def wantSp := fam (fun i : GConfig × GState × GEntry => [vConfig i.1, wState i.2.1 0 1, vEntry i.2.2]) (fun i : GConfig × GState × GEntry => [tsO i.2.1.Tenants, csO i.2.1.Cells]) (fun i : GConfig × GState × GEntry => (TopoOk i.1) ∧ (i.2.1.Cells.length = i.1.Cells.length) ∧ (0 ≤ i.2.2.Cell ∧ i.2.2.Cell < i.2.1.Cells.length) ∧ (0 ≤ i.2.2.N ∧ i.2.2.N < i.1.Versions.length)) (fun i : GConfig × GState × GEntry => resW (wantF i.1 i.2.1 i.2.2))
@[simp] theorem wantSp_eq {C : GConfig} {s : GState} {e : GEntry} (h1 : TopoOk C) (h2 : s.Cells.length = C.Cells.length) (h3 : 0 ≤ e.Cell ∧ e.Cell < s.Cells.length) (h4 : 0 ≤ e.N ∧ e.N < C.Versions.length) : wantSp ([vConfig C, wState s 0 1, vEntry e]) ([tsO s.Tenants, csO s.Cells]) = some (resW (wantF C s e)) :=
  fam_eq (A := fun i : GConfig × GState × GEntry => [vConfig i.1, wState i.2.1 0 1, vEntry i.2.2]) (O := fun i : GConfig × GState × GEntry => [tsO i.2.1.Tenants, csO i.2.1.Cells]) (res := fun i : GConfig × GState × GEntry => resW (wantF i.1 i.2.1 i.2.2)) (by rintro ⟨C, s, e⟩ ⟨C', s', e'⟩ h h'; cases s; cases s'; simp at h h'; simp_all) (C, s, e) ⟨h1, h2, h3, h4⟩
@[simp] theorem wantSp_none {c e : V} {s : GState} {os : List AObj} : wantSp [c, vState s, e] os = none := fam_none (fun i h _ => by simp only [vState, GState.cells, List.cons.injEq, V.agg.injEq, reduceCtorEq, false_and, and_false] at h)

def wantSt (C : GConfig) (s : GState) (e : GEntry) (v : GVersion) (j : Nat) (i : Nat) : St := mkSt [(3, .ptr 2 0 0), (4, .ptr 3 0 0), (5, .ptr 4 0 0), (6, .ptr 5 0 0), (7, .int .i64 0), (8, .ptr 1 j 0), (9, .ptr 6 0 0), (10, .int .i64 (othersTo s j i : Nat)), (11, .int .i64 i)] [(0, tsO s.Tenants), (1, csO s.Cells), (2, cfgO C), (3, boxW s), (4, entO e), (5, zsO), (6, verO v)] 7
set_option maxHeartbeats 40000000 in
theorem want_spec : Lift.Spec Tryd.prog 84 wantSp := by
  refine spec_fam (C := CZ7) types_ok CZ7_ok follows Tryd.func84 (by kernel_rfl) rfl (by kernel_rfl) rfl ?_
  rintro ⟨C, s, e⟩ ⟨h, hN, e2, e6⟩
  try simp only at h hN e2 e6
  refine ⟨by simp, ?_⟩
  intro r hr
  have hcn : ¬ s.Cells = [] := fun e => by rw [e] at hN; have := h.N.1; simp at hN; omega
  have hM := h.N.2
  obtain ⟨kd, tk, tn, ce, ot, ep, fr, un, n⟩ := e
  simp only at *
  obtain ⟨j, rfl⟩ := Int.eq_ofNat_of_zero_le e2.1
  have hj : j < s.Cells.length := by omega
  obtain ⟨x, hx, hx', hxm⟩ := get_of_lt hj
  have hxj : cellSt s j = x := by simp [cellSt, hx]
  obtain ⟨v, rfl⟩ := Int.eq_ofNat_of_zero_le e6.1
  have hv : v < C.Versions.length := by omega
  obtain ⟨y, hy, hv', _⟩ := get_of_lt hv
  have hyv : verAt C v = y := by simp [verAt, hy]
  have hO := others_eq s j
  simp [GConfig.cells, GEntry.cells, GVersion.cells, hj, hv, hv']
  refine axwp_loop (wantSt C s ⟨kd, tk, tn, j, ot, ep, fr, un, v⟩ y j) (fun i => i ≤ s.Cells.length) (fun i => s.Cells.length - i) 0 ?_ (Nat.zero_le _) ?_
  · refine weak_at2 [.inl 0, .inl 1, .inr 3, .inr 4, .inr 5, .inr 6, .inr 9] ?_ ?_ ?_ ?_ ?_ <;> simp [cfgO, entO, zsO, GConfig.cells, GEntry.cells, GVersion.cells, othersTo]
  · intro i hi
    have hle := othersTo_le s j i
    by_cases hik : i < s.Cells.length
    · have w4 : IntKind.i64.wrap ((i : Int) + 1) = (i : Int) + 1 := wrap_i64_in (by omega) (by omega)
      have w5 : IntKind.i64.wrap ((othersTo s j i : Nat) + 1 : Int) = ((othersTo s j i + 1 : Nat) : Int) := by rw [wrap_i64_in (by omega) (by omega)]; omega
      by_cases hij : i = j
      · have hst : othersTo s j (i + 1) = othersTo s j i := by simp [othersTo, hij]
        subst hij
        simp [wantSt, cfgO, entO, zsO, GConfig.cells, GEntry.cells, hik]
        refine Again.mk (i + 1) hik (by omega) ?_
        refine weak_at2 [.inl 0, .inl 1, .inr 3, .inr 4, .inr 5, .inr 6, .inr 9] ?_ ?_ ?_ ?_ ?_ <;> simp [cfgO, entO, zsO, GConfig.cells, GEntry.cells, GVersion.cells, hst, w4]
      · have hij' : ¬ (i : Int) = (j : Int) := by omega
        cases hop : openB s i
        · have hst : othersTo s j (i + 1) = othersTo s j i := by simp [othersTo, hop]
          simp [wantSt, cfgO, entO, zsO, GConfig.cells, GEntry.cells, hik, hij', hop]
          refine Again.mk (i + 1) hik (by omega) ?_
          refine weak_at2 [.inl 0, .inl 1, .inr 3, .inr 4, .inr 5, .inr 6, .inr 9] ?_ ?_ ?_ ?_ ?_ <;> simp [cfgO, entO, zsO, GConfig.cells, GEntry.cells, GVersion.cells, hst, w4]
        · have hst : othersTo s j (i + 1) = othersTo s j i + 1 := by simp [othersTo, hop, hij]
          simp [wantSt, cfgO, entO, zsO, GConfig.cells, GEntry.cells, hik, hij', hop]
          refine Again.mk (i + 1) hik (by omega) ?_
          refine weak_at2 [.inl 0, .inl 1, .inr 3, .inr 4, .inr 5, .inr 6, .inr 9] ?_ ?_ ?_ ?_ ?_ <;> simp [cfgO, entO, zsO, GConfig.cells, GEntry.cells, GVersion.cells, hst, w4, w5]
    · have e : i = s.Cells.length := by omega
      subst e
      rw [← hO] at hle
      by_cases hrn : (v : Int) = x.Running
      ·
        simp [wantSt, ← hO, cfgO, entO, zsO, GConfig.cells, GEntry.cells, GCellState.cells, hj, hx', hrn.symm]
        by_cases gg0 : (x.Wanted = v)
        · simp [← hO, gg0]
          ((repeat refine ⟨⟨by kernel_rfl, by kernel_rfl⟩, ?_⟩); rw [hr]; refine retDead' rfl ?_ ?_ ⟨rfl, by decide⟩ ⟨rfl, by decide⟩ (by simp [stV_closed]) ?_ <;> simp [aliveG, wantF, hxj, gg0])
        simp [← hO, GVersion.cells, gg0]
        by_cases gg1 : (s.Low < y.Low)
        · simp [← hO, gg0, gg1]
          ((repeat refine ⟨⟨by kernel_rfl, by kernel_rfl⟩, ?_⟩); rw [hr]; refine retDead' rfl ?_ ?_ ⟨rfl, by decide⟩ ⟨rfl, by decide⟩ (by simp [stV_closed]) ?_ <;> simp [aliveG, wantF, hxj, hyv, gg0, gg1])
        simp [← hO, GVersion.cells, gg0, gg1]
        by_cases gg2 : (y.High < s.High)
        · simp [← hO, gg0, gg1, gg2]
          ((repeat refine ⟨⟨by kernel_rfl, by kernel_rfl⟩, ?_⟩); rw [hr]; refine retDead' rfl ?_ ?_ ⟨rfl, by decide⟩ ⟨rfl, by decide⟩ (by simp [stV_closed]) ?_ <;> simp [aliveG, wantF, hxj, hyv, gg0, gg1, gg2])
        simp [← hO, GCellState.cells, hj, hx', hrn.symm, gg0, gg1, gg2]
        ((repeat refine ⟨⟨by kernel_rfl, by kernel_rfl⟩, ?_⟩); rw [hr]; refine retDead' rfl ?_ ?_ ⟨rfl, by decide⟩ ⟨rfl, by decide⟩ (by simp [stV_closed]) ?_ <;> simp [aliveG, wantF, setC, hxj, hyv, hrn.symm, gg0, gg1, gg2])
      · cases hpr : provenB s v
        · by_cases hev : s.Evacuating = 0
          ·
            simp [wantSt, ← hO, cfgO, entO, zsO, GConfig.cells, GEntry.cells, GCellState.cells, hj, hx']
            by_cases gg0 : (x.Wanted = v)
            · simp [← hO, gg0]
              ((repeat refine ⟨⟨by kernel_rfl, by kernel_rfl⟩, ?_⟩); rw [hr]; refine retDead' rfl ?_ ?_ ⟨rfl, by decide⟩ ⟨rfl, by decide⟩ (by simp [stV_closed]) ?_ <;> simp [aliveG, wantF, hxj, gg0])
            simp [← hO, GVersion.cells, gg0]
            by_cases gg1 : (s.Low < y.Low)
            · simp [← hO, gg0, gg1]
              ((repeat refine ⟨⟨by kernel_rfl, by kernel_rfl⟩, ?_⟩); rw [hr]; refine retDead' rfl ?_ ?_ ⟨rfl, by decide⟩ ⟨rfl, by decide⟩ (by simp [stV_closed]) ?_ <;> simp [aliveG, wantF, hxj, hyv, gg0, gg1])
            simp [← hO, GVersion.cells, gg0, gg1]
            by_cases gg2 : (y.High < s.High)
            · simp [← hO, gg0, gg1, gg2]
              ((repeat refine ⟨⟨by kernel_rfl, by kernel_rfl⟩, ?_⟩); rw [hr]; refine retDead' rfl ?_ ?_ ⟨rfl, by decide⟩ ⟨rfl, by decide⟩ (by simp [stV_closed]) ?_ <;> simp [aliveG, wantF, hxj, hyv, gg0, gg1, gg2])
            simp [← hO, GCellState.cells, hj, hx', hrn, hpr, eq_true hev, gg0, gg1, gg2]
            by_cases gg3 : (C.Blast ≤ (others s j : Nat))
            · simp [← hO, gg0, gg1, gg2, gg3]
              ((repeat refine ⟨⟨by kernel_rfl, by kernel_rfl⟩, ?_⟩); rw [hr]; refine retDead' rfl ?_ ?_ ⟨rfl, by decide⟩ ⟨rfl, by decide⟩ (by simp [stV_closed]) ?_ <;> simp [aliveG, wantF, hxj, hyv, hrn, hpr, eq_true hev, gg0, gg1, gg2, gg3])
            simp [← hO, GCellState.cells, hj, hx', gg0, gg1, gg2, gg3]
            ((repeat refine ⟨⟨by kernel_rfl, by kernel_rfl⟩, ?_⟩); rw [hr]; refine retDead' rfl ?_ ?_ ⟨rfl, by decide⟩ ⟨rfl, by decide⟩ (by simp [stV_closed]) ?_ <;> simp [aliveG, wantF, setC, hxj, hyv, hrn, hpr, eq_true hev, gg0, gg1, gg2, gg3])
          ·
            simp [wantSt, ← hO, cfgO, entO, zsO, GConfig.cells, GEntry.cells, GCellState.cells, hj, hx']
            by_cases gg0 : (x.Wanted = v)
            · simp [← hO, gg0]
              ((repeat refine ⟨⟨by kernel_rfl, by kernel_rfl⟩, ?_⟩); rw [hr]; refine retDead' rfl ?_ ?_ ⟨rfl, by decide⟩ ⟨rfl, by decide⟩ (by simp [stV_closed]) ?_ <;> simp [aliveG, wantF, hxj, gg0])
            simp [← hO, GVersion.cells, gg0]
            by_cases gg1 : (s.Low < y.Low)
            · simp [← hO, gg0, gg1]
              ((repeat refine ⟨⟨by kernel_rfl, by kernel_rfl⟩, ?_⟩); rw [hr]; refine retDead' rfl ?_ ?_ ⟨rfl, by decide⟩ ⟨rfl, by decide⟩ (by simp [stV_closed]) ?_ <;> simp [aliveG, wantF, hxj, hyv, gg0, gg1])
            simp [← hO, GVersion.cells, gg0, gg1]
            by_cases gg2 : (y.High < s.High)
            · simp [← hO, gg0, gg1, gg2]
              ((repeat refine ⟨⟨by kernel_rfl, by kernel_rfl⟩, ?_⟩); rw [hr]; refine retDead' rfl ?_ ?_ ⟨rfl, by decide⟩ ⟨rfl, by decide⟩ (by simp [stV_closed]) ?_ <;> simp [aliveG, wantF, hxj, hyv, gg0, gg1, gg2])
            simp [← hO, GCellState.cells, hj, hx', hrn, hpr, hev, gg0, gg1, gg2]
            ((repeat refine ⟨⟨by kernel_rfl, by kernel_rfl⟩, ?_⟩); rw [hr]; refine retDead' rfl ?_ ?_ ⟨rfl, by decide⟩ ⟨rfl, by decide⟩ (by simp [stV_closed]) ?_ <;> simp [aliveG, wantF, hxj, hyv, hrn, hpr, hev, gg0, gg1, gg2])
        ·
          simp [wantSt, ← hO, cfgO, entO, zsO, GConfig.cells, GEntry.cells, GCellState.cells, hj, hx']
          by_cases gg0 : (x.Wanted = v)
          · simp [← hO, gg0]
            ((repeat refine ⟨⟨by kernel_rfl, by kernel_rfl⟩, ?_⟩); rw [hr]; refine retDead' rfl ?_ ?_ ⟨rfl, by decide⟩ ⟨rfl, by decide⟩ (by simp [stV_closed]) ?_ <;> simp [aliveG, wantF, hxj, gg0])
          simp [← hO, GVersion.cells, gg0]
          by_cases gg1 : (s.Low < y.Low)
          · simp [← hO, gg0, gg1]
            ((repeat refine ⟨⟨by kernel_rfl, by kernel_rfl⟩, ?_⟩); rw [hr]; refine retDead' rfl ?_ ?_ ⟨rfl, by decide⟩ ⟨rfl, by decide⟩ (by simp [stV_closed]) ?_ <;> simp [aliveG, wantF, hxj, hyv, gg0, gg1])
          simp [← hO, GVersion.cells, gg0, gg1]
          by_cases gg2 : (y.High < s.High)
          · simp [← hO, gg0, gg1, gg2]
            ((repeat refine ⟨⟨by kernel_rfl, by kernel_rfl⟩, ?_⟩); rw [hr]; refine retDead' rfl ?_ ?_ ⟨rfl, by decide⟩ ⟨rfl, by decide⟩ (by simp [stV_closed]) ?_ <;> simp [aliveG, wantF, hxj, hyv, gg0, gg1, gg2])
          simp [← hO, GCellState.cells, hj, hx', hrn, hpr, gg0, gg1, gg2]
          ((repeat refine ⟨⟨by kernel_rfl, by kernel_rfl⟩, ?_⟩); rw [hr]; refine retDead' rfl ?_ ?_ ⟨rfl, by decide⟩ ⟨rfl, by decide⟩ (by simp [stV_closed]) ?_ <;> simp [aliveG, wantF, setC, hxj, hyv, hrn, hpr, gg0, gg1, gg2])

/-! ### Runs -/
def heldP (cell tick : Int) (t : GTenantState) : Bool := decide (t.Window.Cell = cell ∧ tick < t.Window.Until)
def runsF (s : GState) (e : GEntry) : GState × Int :=
  if ¬ e.N = (cellSt s e.Cell).Wanted ∨ (cellSt s e.Cell).Running = (cellSt s e.Cell).Wanted then (zeroS, 4)
  else if provenB s e.N = false ∧ ¬ s.Evacuating = 0 then (zeroS, 12)
  else if s.Tenants.any (heldP e.Cell e.Tick) = true then (zeroS, 9)
  else (setC s e.Cell { cellSt s e.Cell with Running := e.N, Since := e.Tick }, 0)
noncomputable def runsSp := fam (fun i : GState × GEntry => [wState i.1 0 1, vEntry i.2]) (fun i : GState × GEntry => [tsO i.1.Tenants, csO i.1.Cells]) (fun i : GState × GEntry => (¬ i.1.Cells = []) ∧ (0 ≤ i.2.Cell ∧ i.2.Cell < i.1.Cells.length) ∧ (i.1.Tenants.length ≤ 32)) (fun i : GState × GEntry => resW (runsF i.1 i.2))
@[simp] theorem runsSp_eq {s : GState} {e : GEntry} (h1 : ¬ s.Cells = []) (h2 : 0 ≤ e.Cell ∧ e.Cell < s.Cells.length) (h3 : s.Tenants.length ≤ 32) : runsSp ([wState s 0 1, vEntry e]) ([tsO s.Tenants, csO s.Cells]) = some (resW (runsF s e)) :=
  fam_eq (A := fun i : GState × GEntry => [wState i.1 0 1, vEntry i.2]) (O := fun i : GState × GEntry => [tsO i.1.Tenants, csO i.1.Cells]) (res := fun i : GState × GEntry => resW (runsF i.1 i.2)) (by rintro ⟨s, e⟩ ⟨s', e'⟩ h h'; cases s; cases s'; simp at h h'; simp_all) (s, e) ⟨h1, h2, h3⟩
@[simp] theorem runsSp_none {e : V} {s : GState} {os : List AObj} : runsSp [vState s, e] os = none := fam_none (fun i h _ => by simp only [vState, GState.cells, List.cons.injEq, V.agg.injEq, reduceCtorEq, false_and, and_false] at h)

def NoneTo {α : Type} (p : α → Bool) (l : List α) (i : Nat) : Prop := (l.take i).any p = false
theorem NoneTo.zero {α : Type} (p : α → Bool) (l : List α) : NoneTo p l 0 := by simp [NoneTo]
theorem NoneTo.succ {α : Type} {p : α → Bool} {l : List α} {i : Nat} {x : α} (h : NoneTo p l i) (hx : l[i]? = some x) (hp : p x = false) : NoneTo p l (i + 1) := by
  unfold NoneTo at *
  rw [List.take_add_one, hx, List.any_append, h]; simp [hp]
theorem NoneTo.whole {α : Type} {p : α → Bool} {l : List α} (h : NoneTo p l l.length) : l.any p = false := by unfold NoneTo at h; rwa [List.take_length] at h
theorem any_at {α : Type} {p : α → Bool} {l : List α} {i : Nat} {x : α} (hx : l[i]? = some x) (hp : p x = true) : l.any p = true := List.any_eq_true.2 ⟨x, List.mem_of_getElem? hx, hp⟩
def runsSt (s : GState) (e : GEntry) (j : Nat) (i : Nat) : St := mkSt [(2, .ptr 2 0 0), (3, .ptr 3 0 0), (4, .ptr 4 0 0), (5, .int .i64 0), (6, .ptr 1 j 0), (7, .int .i64 i)] [(0, tsO s.Tenants), (1, csO s.Cells), (2, boxW s), (3, entO e), (4, zsO)] 5
set_option maxHeartbeats 40000000 in
theorem runs_spec : Lift.Spec Tryd.prog 85 runsSp := by
  refine spec_fam (C := CZ7) types_ok CZ7_ok follows Tryd.func85 (by kernel_rfl) rfl (by kernel_rfl) rfl ?_
  rintro ⟨s, e⟩ ⟨hcn, e2, hTl⟩
  try simp only at hcn e2 hTl
  refine ⟨by simp, ?_⟩
  intro r hr
  obtain ⟨kd, tk, tn, ce, ot, ep, fr, un, n⟩ := e
  simp only at *
  obtain ⟨j, rfl⟩ := Int.eq_ofNat_of_zero_le e2.1
  have hj : j < s.Cells.length := by omega
  obtain ⟨x, hx, hx', hxm⟩ := get_of_lt hj
  have hxj : cellSt s j = x := by simp [cellSt, hx]
  by_cases hnw : n = x.Wanted
  rotate_left
  · simp [GEntry.cells, GCellState.cells, hj, hx', hnw]
    ((repeat refine ⟨⟨by kernel_rfl, by kernel_rfl⟩, ?_⟩); rw [hr]; refine retDead' rfl ?_ ?_ ⟨rfl, by decide⟩ ⟨rfl, by decide⟩ (by simp [stV_closed]) ?_ <;> simp [aliveG, runsF, hxj, hnw])
  by_cases hrw : x.Running = n
  · simp [GEntry.cells, GCellState.cells, hj, hx', hnw.symm, hrw]
    ((repeat refine ⟨⟨by kernel_rfl, by kernel_rfl⟩, ?_⟩); rw [hr]; refine retDead' rfl ?_ ?_ ⟨rfl, by decide⟩ ⟨rfl, by decide⟩ (by simp [stV_closed]) ?_ <;> simp [aliveG, runsF, hxj, hnw.symm, hrw])
  have key : (provenB s n = true ∨ s.Evacuating = 0) → runsF s ⟨kd, tk, tn, j, ot, ep, fr, un, n⟩ = if s.Tenants.any (heldP j tk) = true then (zeroS, 9) else (setC s j { x with Running := n, Since := tk }, 0) := by
    intro hpe
    have : ¬ (provenB s n = false ∧ ¬ s.Evacuating = 0) := by rintro ⟨a, b⟩; rcases hpe with h | h <;> simp_all
    simp only [runsF, hxj]
    rw [if_neg (by simp [hnw.symm, hrw]), if_neg this]
  by_cases hex : provenB s n = false ∧ ¬ s.Evacuating = 0
  · obtain ⟨h1, h2⟩ := hex
    simp [GEntry.cells, GCellState.cells, hj, hx', hnw.symm, hrw, h1, h2]
    ((repeat refine ⟨⟨by kernel_rfl, by kernel_rfl⟩, ?_⟩); rw [hr]; refine retDead' rfl ?_ ?_ ⟨rfl, by decide⟩ ⟨rfl, by decide⟩ (by simp [stV_closed]) ?_ <;> simp [aliveG, runsF, hxj, hnw.symm, hrw, h1, h2])
  have hpe : provenB s n = true ∨ s.Evacuating = 0 := by
    cases hp : provenB s n
    · right; exact Classical.byContradiction fun h => hex ⟨hp, h⟩
    · left; rfl
  have hF := key hpe
  apply viaK
  · intro key
    cases hp : provenB s n
    · have hev : s.Evacuating = 0 := by rcases hpe with h | h; rw [hp] at h; cases h; exact h
      simp [GEntry.cells, GCellState.cells, hj, hx', hnw.symm, hrw, hp, eq_true hev]
      (repeat refine ⟨⟨by kernel_rfl, by kernel_rfl⟩, ?_⟩)
      refine wpL_weak (st0 := runsSt s ⟨kd, tk, tn, j, ot, ep, fr, un, n⟩ j 0) ?_ key
      refine weak_at2 [.inl 0, .inl 1, .inr 2, .inr 3, .inr 4] ?_ ?_ ?_ ?_ ?_ <;> simp [entO, zsO, GEntry.cells]
    · simp [GEntry.cells, GCellState.cells, hj, hx', hnw.symm, hrw, hp]
      (repeat refine ⟨⟨by kernel_rfl, by kernel_rfl⟩, ?_⟩)
      refine wpL_weak (st0 := runsSt s ⟨kd, tk, tn, j, ot, ep, fr, un, n⟩ j 0) ?_ key
      refine weak_at2 [.inl 0, .inl 1, .inr 2, .inr 3, .inr 4] ?_ ?_ ?_ ?_ ?_ <;> simp [entO, zsO, GEntry.cells]
  refine axwp_loop (runsSt s ⟨kd, tk, tn, j, ot, ep, fr, un, n⟩ j) (fun i => i ≤ s.Tenants.length ∧ NoneTo (heldP j tk) s.Tenants i) (fun i => s.Tenants.length - i) 0 (Weak.refl _ _) ⟨Nat.zero_le _, NoneTo.zero _ _⟩ ?_
  rintro i ⟨hi, hnone⟩
  by_cases hik : i < s.Tenants.length
  · have w4 : IntKind.i64.wrap ((i : Int) + 1) = (i : Int) + 1 := wrap_i64_in (by omega) (by omega)
    obtain ⟨t, ht, ht', _⟩ := get_of_lt hik
    by_cases h1 : t.Window.Cell = (j : Int)
    · by_cases h2 : tk < t.Window.Until
      · have ha : s.Tenants.any (heldP j tk) = true := any_at ht (by simp [heldP, h1, h2])
        simp [runsSt, entO, zsO, GEntry.cells, GTenantState.cells, GWindow.cells, hik, ht', h1, h2]
        ((repeat refine ⟨⟨by kernel_rfl, by kernel_rfl⟩, ?_⟩); rw [hr]; refine retDead' rfl ?_ ?_ ⟨rfl, by decide⟩ ⟨rfl, by decide⟩ (by simp [stV_closed]) ?_ <;> simp [aliveG, hF, ha])
      · have hn : heldP j tk t = false := by simp [heldP, h2]
        simp [runsSt, entO, zsO, GEntry.cells, GTenantState.cells, GWindow.cells, hik, ht', h1, h2]
        refine Again.mk (i + 1) ⟨hik, hnone.succ ht hn⟩ (by omega) ?_
        refine weak_at2 [.inl 0, .inl 1, .inr 2, .inr 3, .inr 4] ?_ ?_ ?_ ?_ ?_ <;> simp [entO, zsO, GEntry.cells, w4]
    · have hn : heldP j tk t = false := by simp [heldP, h1]
      simp [runsSt, entO, zsO, GEntry.cells, GTenantState.cells, GWindow.cells, hik, ht', h1]
      refine Again.mk (i + 1) ⟨hik, hnone.succ ht hn⟩ (by omega) ?_
      refine weak_at2 [.inl 0, .inl 1, .inr 2, .inr 3, .inr 4] ?_ ?_ ?_ ?_ ?_ <;> simp [entO, zsO, GEntry.cells, w4]
  · have e : i = s.Tenants.length := by omega
    subst e
    have ha := hnone.whole
    simp [runsSt, entO, zsO, GEntry.cells, GCellState.cells, hj, hx']
    ((repeat refine ⟨⟨by kernel_rfl, by kernel_rfl⟩, ?_⟩); rw [hr]; refine retDead' rfl ?_ ?_ ⟨rfl, by decide⟩ ⟨rfl, by decide⟩ (by simp [stV_closed]) ?_ <;> simp [aliveG, hF, ha, setC])
end Go.Proofs.YtegjhmhhbmnljaaDoor
