/-
  state: any entry.
-/
import Derived.Test.YtegjhmhhbmnljaaDoorS8
namespace Go.Proofs.YtegjhmhhbmnljaaDoor
open Go.Lift

def modeF (s : GState) (e : GEntry) : GState × Int := if (cellSt s e.Cell).Mode = e.N then (zeroS, 4) else (setC s e.Cell { cellSt s e.Cell with Mode := e.N, Since := e.Tick }, 0)
noncomputable def evacF (s : GState) (e : GEntry) : GState × Int := if hasB s.Evacuating e.Other = decide (e.N = 1) then (zeroS, 4) else ({ s with Evacuating := xorBit s.Evacuating e.Other }, 0)
def contractF (s : GState) : GState × Int := if s.High = s.Low then (zeroS, 4) else ({ s with Low := s.High }, 0)
/-- What an entry of a kind does. -/
noncomputable def applyK (C : GConfig) (s : GState) (e : GEntry) : GState × Int :=
  if e.Kind = 1 then placeF C s e else if e.Kind = 2 then grantF C s e else if e.Kind = 3 then cutF s e else if e.Kind = 4 then standbyF C s e
  else if e.Kind = 5 then readyF s e else if e.Kind = 6 then migrateF C s e else if e.Kind = 7 then abandonF s e else if e.Kind = 8 then shedF C s e
  else if e.Kind = 9 then modeF s e else if e.Kind = 10 then wantF C s e else if e.Kind = 11 then runsF s e else if e.Kind = 12 then proveF C s e
  else if e.Kind = 13 then evacF s e else if e.Kind = 14 then expandF C s else if e.Kind = 15 then contractF s else (s, 0)
noncomputable def applyS (C : GConfig) (s : GState) (e : GEntry) : GState × Int :=
  if validE C e = false then (zeroS, 1) else if 4096 ≤ s.Count then (zeroS, 2) else if e.Tick < s.Tick then (zeroS, 3)
  else applyK C { s with Tick := e.Tick, Count := s.Count + 1 } e

/-- A valid configuration as states want it. -/
structure CfgOk (C : GConfig) : Prop where
  topo : TopoOk C
  small : SmallT C
  lease : 0 ≤ C.Lease ∧ C.Lease ≤ 1000
noncomputable def CZA := mkC [(19, validESp), (62, hasSp), (74, noSp), (75, copiedSp), (76, placeSp), (77, grantSp), (78, cutSp), (79, standbySp), (80, readySp), (81, migrateSp), (82, abandonSp), (83, shedSp), (84, wantSp), (85, runsSp), (86, proveSp), (87, expandSp)]
theorem CZA_ok : SpecsOk Tryd.prog CZA := mkC_ok (all_cons refvalidE_spec (all_cons has_spec (all_cons no_spec (all_cons copied_spec (all_cons place_spec (all_cons grant_spec (all_cons cut_spec (all_cons standby_spec (all_cons ready_spec (all_cons migrate_spec (all_cons abandon_spec (all_cons shed_spec (all_cons want_spec (all_cons runs_spec (all_cons prove_spec (all_cons expand_spec all_nil))))))))))))))))
@[simp] theorem CZA_1 : CZA 19 = validESp := rfl
@[simp] theorem CZA_2 : CZA 62 = hasSp := rfl
@[simp] theorem CZA_3 : CZA 74 = noSp := rfl
@[simp] theorem CZA_4 : CZA 75 = copiedSp := rfl
@[simp] theorem CZA_5 : CZA 76 = placeSp := rfl
@[simp] theorem CZA_6 : CZA 77 = grantSp := rfl
@[simp] theorem CZA_7 : CZA 78 = cutSp := rfl
@[simp] theorem CZA_8 : CZA 79 = standbySp := rfl
@[simp] theorem CZA_9 : CZA 80 = readySp := rfl
@[simp] theorem CZA_10 : CZA 81 = migrateSp := rfl
@[simp] theorem CZA_11 : CZA 82 = abandonSp := rfl
@[simp] theorem CZA_12 : CZA 83 = shedSp := rfl
@[simp] theorem CZA_13 : CZA 84 = wantSp := rfl
@[simp] theorem CZA_14 : CZA 85 = runsSp := rfl
@[simp] theorem CZA_15 : CZA 86 = proveSp := rfl
@[simp] theorem CZA_16 : CZA 87 = expandSp := rfl

def apSt (C : GConfig) (s : GState) (e : GEntry) : St := mkSt [(3, .ptr 2 0 0), (4, .ptr 3 0 0), (5, .ptr 4 0 0), (6, .ptr 5 0 0), (7, .int .i64 0)] [(0, tsO s.Tenants), (1, csO s.Cells), (2, cfgO C), (3, boxW s), (4, entO e), (5, zsO)] 6

set_option maxHeartbeats 40000000 in
theorem apply_1 {C : GConfig} {s : GState} {tk tn ce ot ep fr un n : Int} (hs : StOk C s) (c : CfgOk C) (e1 : 0 ≤ tn ∧ tn < s.Tenants.length) (e2 : 0 ≤ ce ∧ ce < s.Cells.length) (e3 : -1 ≤ ot ∧ ot < s.Cells.length) {r : CRes} (hr : r = resS (placeF C s ⟨1, tk, tn, ce, ot, ep, fr, un, n⟩)) : SemWp Tryd.prog Tryd.f66.ntmps 0 (restC Tryd.f66 [1,1,1,1]) (Ret T Tryd.f66.results.toList r 0) (apSt C s ⟨1, tk, tn, ce, ot, ep, fr, un, n⟩) := by
  refine sem_end (C := CZA) types_ok CZA_ok follows Tryd.f66 [1,1,1,1] (by simp only [bodyC, Tryd.f66, Option.getD_some, subC, one_ne_zero', if_false]; rfl) (by kernel_rfl) ?_
  have hT := hs.T
  have hN := hs.N
  have hM : s.Cells.length ≤ 16 := by have := c.small.M; omega
  have hTl : s.Tenants.length ≤ 32 := by have := c.small.N; omega
  have hcn : ¬ s.Cells = [] := fun e => by rw [e] at hN; have := c.topo.N.1; simp at hN; omega
  have hB : BakeOk C s := fun x hx => (hs.cel x hx).since
  have hV : VerOk C s := fun x hx => ⟨(hs.cel x hx).runs, (hs.cel x hx).want⟩
  have hH : 0 ≤ s.High ∧ s.High ≤ 30 := by have := hs.sch; omega
  have ht := c.topo
  have hsm := c.small
  have hL := c.lease
  have e1' : tn < C.Tenants.length := by omega
  have e2' : ce < C.Cells.length := by omega
  have e3' : ot < C.Cells.length := by omega
  rcases hF : placeF C s ⟨1, tk, tn, ce, ot, ep, fr, un, n⟩ with ⟨s2, er⟩
  by_cases her : er = 0
  · subst her
    simp [apSt, cfgO, entO, zsO, GConfig.cells, GEntry.cells, GState.cells, ht, hsm, hs, e1, e2, e3, e1', e2', e3', hF]
    rw [hr]; refine ret_closed rfl ?_ (by simp [stV_closed])
    simp [hF]
  · simp [apSt, cfgO, entO, zsO, GConfig.cells, GEntry.cells, ht, hsm, hs, e1, e2, e3, e1', e2', e3', hF, her]
    rw [hr]; refine ret_closed rfl ?_ (by simp [stV_closed])
    simp [hF, her]

set_option maxHeartbeats 40000000 in
theorem apply_2 {C : GConfig} {s : GState} {tk tn ce ot ep fr un n : Int} (hs : StOk C s) (c : CfgOk C) (e1 : 0 ≤ tn ∧ tn < s.Tenants.length) (e2 : 0 ≤ ce ∧ ce < s.Cells.length) (h5 : NumOk ⟨2, tk, tn, ce, ot, ep, fr, un, n⟩) {r : CRes} (hr : r = resS (grantF C s ⟨2, tk, tn, ce, ot, ep, fr, un, n⟩)) : SemWp Tryd.prog Tryd.f66.ntmps 0 (restC Tryd.f66 [1,1,1,1]) (Ret T Tryd.f66.results.toList r 0) (apSt C s ⟨2, tk, tn, ce, ot, ep, fr, un, n⟩) := by
  refine sem_end (C := CZA) types_ok CZA_ok follows Tryd.f66 [1,1,1,1] (by simp only [bodyC, Tryd.f66, Option.getD_some, subC, one_ne_zero', if_false]; rfl) (by kernel_rfl) ?_
  have hT := hs.T
  have hN := hs.N
  have hM : s.Cells.length ≤ 16 := by have := c.small.M; omega
  have hTl : s.Tenants.length ≤ 32 := by have := c.small.N; omega
  have hcn : ¬ s.Cells = [] := fun e => by rw [e] at hN; have := c.topo.N.1; simp at hN; omega
  have hB : BakeOk C s := fun x hx => (hs.cel x hx).since
  have hV : VerOk C s := fun x hx => ⟨(hs.cel x hx).runs, (hs.cel x hx).want⟩
  have hH : 0 ≤ s.High ∧ s.High ≤ 30 := by have := hs.sch; omega
  have ht := c.topo
  have hsm := c.small
  have hL := c.lease
  rcases hF : grantF C s ⟨2, tk, tn, ce, ot, ep, fr, un, n⟩ with ⟨s2, er⟩
  by_cases her : er = 0
  · subst her
    simp [apSt, cfgO, entO, zsO, GConfig.cells, GEntry.cells, GState.cells, ht, hsm, hs, hL, e1, e2, h5, hF]
    rw [hr]; refine ret_closed rfl ?_ (by simp [stV_closed])
    simp [hF]
  · simp [apSt, cfgO, entO, zsO, GConfig.cells, GEntry.cells, ht, hsm, hs, hL, e1, e2, h5, hF, her]
    rw [hr]; refine ret_closed rfl ?_ (by simp [stV_closed])
    simp [hF, her]

set_option maxHeartbeats 40000000 in
theorem apply_3 {C : GConfig} {s : GState} {tk tn ce ot ep fr un n : Int} (hs : StOk C s) (c : CfgOk C) (e1 : 0 ≤ tn ∧ tn < s.Tenants.length) (e4 : 0 ≤ tk ∧ tk ≤ 1073741824) {r : CRes} (hr : r = resS (cutF s ⟨3, tk, tn, ce, ot, ep, fr, un, n⟩)) : SemWp Tryd.prog Tryd.f66.ntmps 0 (restC Tryd.f66 [1,1,1,1]) (Ret T Tryd.f66.results.toList r 0) (apSt C s ⟨3, tk, tn, ce, ot, ep, fr, un, n⟩) := by
  refine sem_end (C := CZA) types_ok CZA_ok follows Tryd.f66 [1,1,1,1] (by simp only [bodyC, Tryd.f66, Option.getD_some, subC, one_ne_zero', if_false]; rfl) (by kernel_rfl) ?_
  have hT := hs.T
  have hN := hs.N
  have hM : s.Cells.length ≤ 16 := by have := c.small.M; omega
  have hTl : s.Tenants.length ≤ 32 := by have := c.small.N; omega
  have hcn : ¬ s.Cells = [] := fun e => by rw [e] at hN; have := c.topo.N.1; simp at hN; omega
  have hB : BakeOk C s := fun x hx => (hs.cel x hx).since
  have hV : VerOk C s := fun x hx => ⟨(hs.cel x hx).runs, (hs.cel x hx).want⟩
  have hH : 0 ≤ s.High ∧ s.High ≤ 30 := by have := hs.sch; omega
  have ht := c.topo
  have hsm := c.small
  have hL := c.lease
  rcases hF : cutF s ⟨3, tk, tn, ce, ot, ep, fr, un, n⟩ with ⟨s2, er⟩
  by_cases her : er = 0
  · subst her
    simp [apSt, cfgO, entO, zsO, GConfig.cells, GEntry.cells, GState.cells, hcn, e1, e4, hF]
    rw [hr]; refine ret_closed rfl ?_ (by simp [stV_closed])
    simp [hF]
  · simp [apSt, cfgO, entO, zsO, GConfig.cells, GEntry.cells, hcn, e1, e4, hF, her]
    rw [hr]; refine ret_closed rfl ?_ (by simp [stV_closed])
    simp [hF, her]

set_option maxHeartbeats 40000000 in
theorem apply_4 {C : GConfig} {s : GState} {tk tn ce ot ep fr un n : Int} (hs : StOk C s) (c : CfgOk C) (e1 : 0 ≤ tn ∧ tn < s.Tenants.length) (e2 : -1 ≤ ce ∧ ce < s.Cells.length) {r : CRes} (hr : r = resS (standbyF C s ⟨4, tk, tn, ce, ot, ep, fr, un, n⟩)) : SemWp Tryd.prog Tryd.f66.ntmps 0 (restC Tryd.f66 [1,1,1,1]) (Ret T Tryd.f66.results.toList r 0) (apSt C s ⟨4, tk, tn, ce, ot, ep, fr, un, n⟩) := by
  refine sem_end (C := CZA) types_ok CZA_ok follows Tryd.f66 [1,1,1,1] (by simp only [bodyC, Tryd.f66, Option.getD_some, subC, one_ne_zero', if_false]; rfl) (by kernel_rfl) ?_
  have hT := hs.T
  have hN := hs.N
  have hM : s.Cells.length ≤ 16 := by have := c.small.M; omega
  have hTl : s.Tenants.length ≤ 32 := by have := c.small.N; omega
  have hcn : ¬ s.Cells = [] := fun e => by rw [e] at hN; have := c.topo.N.1; simp at hN; omega
  have hB : BakeOk C s := fun x hx => (hs.cel x hx).since
  have hV : VerOk C s := fun x hx => ⟨(hs.cel x hx).runs, (hs.cel x hx).want⟩
  have hH : 0 ≤ s.High ∧ s.High ≤ 30 := by have := hs.sch; omega
  have ht := c.topo
  have hsm := c.small
  have hL := c.lease
  rcases hF : standbyF C s ⟨4, tk, tn, ce, ot, ep, fr, un, n⟩ with ⟨s2, er⟩
  by_cases her : er = 0
  · subst her
    simp [apSt, cfgO, entO, zsO, GConfig.cells, GEntry.cells, GState.cells, ht, hsm, hs, e1, e2, hF]
    rw [hr]; refine ret_closed rfl ?_ (by simp [stV_closed])
    simp [hF]
  · simp [apSt, cfgO, entO, zsO, GConfig.cells, GEntry.cells, ht, hsm, hs, e1, e2, hF, her]
    rw [hr]; refine ret_closed rfl ?_ (by simp [stV_closed])
    simp [hF, her]

set_option maxHeartbeats 40000000 in
theorem apply_5 {C : GConfig} {s : GState} {tk tn ce ot ep fr un n : Int} (hs : StOk C s) (c : CfgOk C) (e1 : 0 ≤ tn ∧ tn < s.Tenants.length) (e2 : 0 ≤ ce ∧ ce < s.Cells.length) {r : CRes} (hr : r = resS (readyF s ⟨5, tk, tn, ce, ot, ep, fr, un, n⟩)) : SemWp Tryd.prog Tryd.f66.ntmps 0 (restC Tryd.f66 [1,1,1,1]) (Ret T Tryd.f66.results.toList r 0) (apSt C s ⟨5, tk, tn, ce, ot, ep, fr, un, n⟩) := by
  refine sem_end (C := CZA) types_ok CZA_ok follows Tryd.f66 [1,1,1,1] (by simp only [bodyC, Tryd.f66, Option.getD_some, subC, one_ne_zero', if_false]; rfl) (by kernel_rfl) ?_
  have hT := hs.T
  have hN := hs.N
  have hM : s.Cells.length ≤ 16 := by have := c.small.M; omega
  have hTl : s.Tenants.length ≤ 32 := by have := c.small.N; omega
  have hcn : ¬ s.Cells = [] := fun e => by rw [e] at hN; have := c.topo.N.1; simp at hN; omega
  have hB : BakeOk C s := fun x hx => (hs.cel x hx).since
  have hV : VerOk C s := fun x hx => ⟨(hs.cel x hx).runs, (hs.cel x hx).want⟩
  have hH : 0 ≤ s.High ∧ s.High ≤ 30 := by have := hs.sch; omega
  have ht := c.topo
  have hsm := c.small
  have hL := c.lease
  rcases hF : readyF s ⟨5, tk, tn, ce, ot, ep, fr, un, n⟩ with ⟨s2, er⟩
  by_cases her : er = 0
  · subst her
    simp [apSt, cfgO, entO, zsO, GConfig.cells, GEntry.cells, GState.cells, hcn, e1, e2, hF]
    rw [hr]; refine ret_closed rfl ?_ (by simp [stV_closed])
    simp [hF]
  · simp [apSt, cfgO, entO, zsO, GConfig.cells, GEntry.cells, hcn, e1, e2, hF, her]
    rw [hr]; refine ret_closed rfl ?_ (by simp [stV_closed])
    simp [hF, her]

set_option maxHeartbeats 40000000 in
theorem apply_6 {C : GConfig} {s : GState} {tk tn ce ot ep fr un n : Int} (hs : StOk C s) (c : CfgOk C) (e1 : 0 ≤ tn ∧ tn < s.Tenants.length) (e2 : 0 ≤ ce ∧ ce < s.Cells.length) {r : CRes} (hr : r = resS (migrateF C s ⟨6, tk, tn, ce, ot, ep, fr, un, n⟩)) : SemWp Tryd.prog Tryd.f66.ntmps 0 (restC Tryd.f66 [1,1,1,1]) (Ret T Tryd.f66.results.toList r 0) (apSt C s ⟨6, tk, tn, ce, ot, ep, fr, un, n⟩) := by
  refine sem_end (C := CZA) types_ok CZA_ok follows Tryd.f66 [1,1,1,1] (by simp only [bodyC, Tryd.f66, Option.getD_some, subC, one_ne_zero', if_false]; rfl) (by kernel_rfl) ?_
  have hT := hs.T
  have hN := hs.N
  have hM : s.Cells.length ≤ 16 := by have := c.small.M; omega
  have hTl : s.Tenants.length ≤ 32 := by have := c.small.N; omega
  have hcn : ¬ s.Cells = [] := fun e => by rw [e] at hN; have := c.topo.N.1; simp at hN; omega
  have hB : BakeOk C s := fun x hx => (hs.cel x hx).since
  have hV : VerOk C s := fun x hx => ⟨(hs.cel x hx).runs, (hs.cel x hx).want⟩
  have hH : 0 ≤ s.High ∧ s.High ≤ 30 := by have := hs.sch; omega
  have ht := c.topo
  have hsm := c.small
  have hL := c.lease
  rcases hF : migrateF C s ⟨6, tk, tn, ce, ot, ep, fr, un, n⟩ with ⟨s2, er⟩
  by_cases her : er = 0
  · subst her
    simp [apSt, cfgO, entO, zsO, GConfig.cells, GEntry.cells, GState.cells, ht, hsm, hs, e1, e2, hF]
    rw [hr]; refine ret_closed rfl ?_ (by simp [stV_closed])
    simp [hF]
  · simp [apSt, cfgO, entO, zsO, GConfig.cells, GEntry.cells, ht, hsm, hs, e1, e2, hF, her]
    rw [hr]; refine ret_closed rfl ?_ (by simp [stV_closed])
    simp [hF, her]

set_option maxHeartbeats 40000000 in
theorem apply_7 {C : GConfig} {s : GState} {tk tn ce ot ep fr un n : Int} (hs : StOk C s) (c : CfgOk C) (e1 : 0 ≤ tn ∧ tn < s.Tenants.length) {r : CRes} (hr : r = resS (abandonF s ⟨7, tk, tn, ce, ot, ep, fr, un, n⟩)) : SemWp Tryd.prog Tryd.f66.ntmps 0 (restC Tryd.f66 [1,1,1,1]) (Ret T Tryd.f66.results.toList r 0) (apSt C s ⟨7, tk, tn, ce, ot, ep, fr, un, n⟩) := by
  refine sem_end (C := CZA) types_ok CZA_ok follows Tryd.f66 [1,1,1,1] (by simp only [bodyC, Tryd.f66, Option.getD_some, subC, one_ne_zero', if_false]; rfl) (by kernel_rfl) ?_
  have hT := hs.T
  have hN := hs.N
  have hM : s.Cells.length ≤ 16 := by have := c.small.M; omega
  have hTl : s.Tenants.length ≤ 32 := by have := c.small.N; omega
  have hcn : ¬ s.Cells = [] := fun e => by rw [e] at hN; have := c.topo.N.1; simp at hN; omega
  have hB : BakeOk C s := fun x hx => (hs.cel x hx).since
  have hV : VerOk C s := fun x hx => ⟨(hs.cel x hx).runs, (hs.cel x hx).want⟩
  have hH : 0 ≤ s.High ∧ s.High ≤ 30 := by have := hs.sch; omega
  have ht := c.topo
  have hsm := c.small
  have hL := c.lease
  rcases hF : abandonF s ⟨7, tk, tn, ce, ot, ep, fr, un, n⟩ with ⟨s2, er⟩
  by_cases her : er = 0
  · subst her
    simp [apSt, cfgO, entO, zsO, GConfig.cells, GEntry.cells, GState.cells, hcn, e1, hF]
    rw [hr]; refine ret_closed rfl ?_ (by simp [stV_closed])
    simp [hF]
  · simp [apSt, cfgO, entO, zsO, GConfig.cells, GEntry.cells, hcn, e1, hF, her]
    rw [hr]; refine ret_closed rfl ?_ (by simp [stV_closed])
    simp [hF, her]

set_option maxHeartbeats 40000000 in
theorem apply_8 {C : GConfig} {s : GState} {tk tn ce ot ep fr un n : Int} (hs : StOk C s) (c : CfgOk C) (e1 : 0 ≤ tn ∧ tn < s.Tenants.length) {r : CRes} (hr : r = resS (shedF C s ⟨8, tk, tn, ce, ot, ep, fr, un, n⟩)) : SemWp Tryd.prog Tryd.f66.ntmps 0 (restC Tryd.f66 [1,1,1,1]) (Ret T Tryd.f66.results.toList r 0) (apSt C s ⟨8, tk, tn, ce, ot, ep, fr, un, n⟩) := by
  refine sem_end (C := CZA) types_ok CZA_ok follows Tryd.f66 [1,1,1,1] (by simp only [bodyC, Tryd.f66, Option.getD_some, subC, one_ne_zero', if_false]; rfl) (by kernel_rfl) ?_
  have hT := hs.T
  have hN := hs.N
  have hM : s.Cells.length ≤ 16 := by have := c.small.M; omega
  have hTl : s.Tenants.length ≤ 32 := by have := c.small.N; omega
  have hcn : ¬ s.Cells = [] := fun e => by rw [e] at hN; have := c.topo.N.1; simp at hN; omega
  have hB : BakeOk C s := fun x hx => (hs.cel x hx).since
  have hV : VerOk C s := fun x hx => ⟨(hs.cel x hx).runs, (hs.cel x hx).want⟩
  have hH : 0 ≤ s.High ∧ s.High ≤ 30 := by have := hs.sch; omega
  have ht := c.topo
  have hsm := c.small
  have hL := c.lease
  rcases hF : shedF C s ⟨8, tk, tn, ce, ot, ep, fr, un, n⟩ with ⟨s2, er⟩
  by_cases her : er = 0
  · subst her
    simp [apSt, cfgO, entO, zsO, GConfig.cells, GEntry.cells, GState.cells, ht, hsm, hs, e1, hF]
    rw [hr]; refine ret_closed rfl ?_ (by simp [stV_closed])
    simp [hF]
  · simp [apSt, cfgO, entO, zsO, GConfig.cells, GEntry.cells, ht, hsm, hs, e1, hF, her]
    rw [hr]; refine ret_closed rfl ?_ (by simp [stV_closed])
    simp [hF, her]

set_option maxHeartbeats 40000000 in
theorem apply_10 {C : GConfig} {s : GState} {tk tn ce ot ep fr un n : Int} (hs : StOk C s) (c : CfgOk C) (e2 : 0 ≤ ce ∧ ce < s.Cells.length) (e6 : 0 ≤ n ∧ n < C.Versions.length) {r : CRes} (hr : r = resS (wantF C s ⟨10, tk, tn, ce, ot, ep, fr, un, n⟩)) : SemWp Tryd.prog Tryd.f66.ntmps 0 (restC Tryd.f66 [1,1,1,1]) (Ret T Tryd.f66.results.toList r 0) (apSt C s ⟨10, tk, tn, ce, ot, ep, fr, un, n⟩) := by
  refine sem_end (C := CZA) types_ok CZA_ok follows Tryd.f66 [1,1,1,1] (by simp only [bodyC, Tryd.f66, Option.getD_some, subC, one_ne_zero', if_false]; rfl) (by kernel_rfl) ?_
  have hT := hs.T
  have hN := hs.N
  have hM : s.Cells.length ≤ 16 := by have := c.small.M; omega
  have hTl : s.Tenants.length ≤ 32 := by have := c.small.N; omega
  have hcn : ¬ s.Cells = [] := fun e => by rw [e] at hN; have := c.topo.N.1; simp at hN; omega
  have hB : BakeOk C s := fun x hx => (hs.cel x hx).since
  have hV : VerOk C s := fun x hx => ⟨(hs.cel x hx).runs, (hs.cel x hx).want⟩
  have hH : 0 ≤ s.High ∧ s.High ≤ 30 := by have := hs.sch; omega
  have ht := c.topo
  have hsm := c.small
  have hL := c.lease
  rcases hF : wantF C s ⟨10, tk, tn, ce, ot, ep, fr, un, n⟩ with ⟨s2, er⟩
  by_cases her : er = 0
  · subst her
    simp [apSt, cfgO, entO, zsO, GConfig.cells, GEntry.cells, GState.cells, ht, eq_true hN, e2, e6, hF]
    rw [hr]; refine ret_closed rfl ?_ (by simp [stV_closed])
    simp [hF]
  · simp [apSt, cfgO, entO, zsO, GConfig.cells, GEntry.cells, ht, eq_true hN, e2, e6, hF, her]
    rw [hr]; refine ret_closed rfl ?_ (by simp [stV_closed])
    simp [hF, her]

set_option maxHeartbeats 40000000 in
theorem apply_11 {C : GConfig} {s : GState} {tk tn ce ot ep fr un n : Int} (hs : StOk C s) (c : CfgOk C) (e2 : 0 ≤ ce ∧ ce < s.Cells.length) {r : CRes} (hr : r = resS (runsF s ⟨11, tk, tn, ce, ot, ep, fr, un, n⟩)) : SemWp Tryd.prog Tryd.f66.ntmps 0 (restC Tryd.f66 [1,1,1,1]) (Ret T Tryd.f66.results.toList r 0) (apSt C s ⟨11, tk, tn, ce, ot, ep, fr, un, n⟩) := by
  refine sem_end (C := CZA) types_ok CZA_ok follows Tryd.f66 [1,1,1,1] (by simp only [bodyC, Tryd.f66, Option.getD_some, subC, one_ne_zero', if_false]; rfl) (by kernel_rfl) ?_
  have hT := hs.T
  have hN := hs.N
  have hM : s.Cells.length ≤ 16 := by have := c.small.M; omega
  have hTl : s.Tenants.length ≤ 32 := by have := c.small.N; omega
  have hcn : ¬ s.Cells = [] := fun e => by rw [e] at hN; have := c.topo.N.1; simp at hN; omega
  have hB : BakeOk C s := fun x hx => (hs.cel x hx).since
  have hV : VerOk C s := fun x hx => ⟨(hs.cel x hx).runs, (hs.cel x hx).want⟩
  have hH : 0 ≤ s.High ∧ s.High ≤ 30 := by have := hs.sch; omega
  have ht := c.topo
  have hsm := c.small
  have hL := c.lease
  rcases hF : runsF s ⟨11, tk, tn, ce, ot, ep, fr, un, n⟩ with ⟨s2, er⟩
  by_cases her : er = 0
  · subst her
    simp [apSt, cfgO, entO, zsO, GConfig.cells, GEntry.cells, GState.cells, hcn, hTl, e2, hF]
    rw [hr]; refine ret_closed rfl ?_ (by simp [stV_closed])
    simp [hF]
  · simp [apSt, cfgO, entO, zsO, GConfig.cells, GEntry.cells, hcn, hTl, e2, hF, her]
    rw [hr]; refine ret_closed rfl ?_ (by simp [stV_closed])
    simp [hF, her]

set_option maxHeartbeats 40000000 in
theorem apply_12 {C : GConfig} {s : GState} {tk tn ce ot ep fr un n : Int} (hs : StOk C s) (c : CfgOk C) (e4 : 0 ≤ tk ∧ tk ≤ 1073741824) (e6 : 0 ≤ n ∧ n < 32) {r : CRes} (hr : r = resS (proveF C s ⟨12, tk, tn, ce, ot, ep, fr, un, n⟩)) : SemWp Tryd.prog Tryd.f66.ntmps 0 (restC Tryd.f66 [1,1,1,1]) (Ret T Tryd.f66.results.toList r 0) (apSt C s ⟨12, tk, tn, ce, ot, ep, fr, un, n⟩) := by
  refine sem_end (C := CZA) types_ok CZA_ok follows Tryd.f66 [1,1,1,1] (by simp only [bodyC, Tryd.f66, Option.getD_some, subC, one_ne_zero', if_false]; rfl) (by kernel_rfl) ?_
  have hT := hs.T
  have hN := hs.N
  have hM : s.Cells.length ≤ 16 := by have := c.small.M; omega
  have hTl : s.Tenants.length ≤ 32 := by have := c.small.N; omega
  have hcn : ¬ s.Cells = [] := fun e => by rw [e] at hN; have := c.topo.N.1; simp at hN; omega
  have hB : BakeOk C s := fun x hx => (hs.cel x hx).since
  have hV : VerOk C s := fun x hx => ⟨(hs.cel x hx).runs, (hs.cel x hx).want⟩
  have hH : 0 ≤ s.High ∧ s.High ≤ 30 := by have := hs.sch; omega
  have ht := c.topo
  have hsm := c.small
  have hL := c.lease
  rcases hF : proveF C s ⟨12, tk, tn, ce, ot, ep, fr, un, n⟩ with ⟨s2, er⟩
  by_cases her : er = 0
  · subst her
    simp [apSt, cfgO, entO, zsO, GConfig.cells, GEntry.cells, GState.cells, hcn, hM, hB, e4, e6, hF]
    rw [hr]; refine ret_closed rfl ?_ (by simp [stV_closed])
    simp [hF]
  · simp [apSt, cfgO, entO, zsO, GConfig.cells, GEntry.cells, hcn, hM, hB, e4, e6, hF, her]
    rw [hr]; refine ret_closed rfl ?_ (by simp [stV_closed])
    simp [hF, her]

set_option maxHeartbeats 40000000 in
theorem apply_14 {C : GConfig} {s : GState} {tk tn ce ot ep fr un n : Int} (hs : StOk C s) (c : CfgOk C) {r : CRes} (hr : r = resS (expandF C s)) : SemWp Tryd.prog Tryd.f66.ntmps 0 (restC Tryd.f66 [1,1,1,1]) (Ret T Tryd.f66.results.toList r 0) (apSt C s ⟨14, tk, tn, ce, ot, ep, fr, un, n⟩) := by
  refine sem_end (C := CZA) types_ok CZA_ok follows Tryd.f66 [1,1,1,1] (by simp only [bodyC, Tryd.f66, Option.getD_some, subC, one_ne_zero', if_false]; rfl) (by kernel_rfl) ?_
  have hT := hs.T
  have hN := hs.N
  have hM : s.Cells.length ≤ 16 := by have := c.small.M; omega
  have hTl : s.Tenants.length ≤ 32 := by have := c.small.N; omega
  have hcn : ¬ s.Cells = [] := fun e => by rw [e] at hN; have := c.topo.N.1; simp at hN; omega
  have hB : BakeOk C s := fun x hx => (hs.cel x hx).since
  have hV : VerOk C s := fun x hx => ⟨(hs.cel x hx).runs, (hs.cel x hx).want⟩
  have hH : 0 ≤ s.High ∧ s.High ≤ 30 := by have := hs.sch; omega
  have ht := c.topo
  have hsm := c.small
  have hL := c.lease
  rcases hF : expandF C s with ⟨s2, er⟩
  by_cases her : er = 0
  · subst her
    simp [apSt, cfgO, entO, zsO, GConfig.cells, GEntry.cells, GState.cells, hcn, hM, hV, hH, hF]
    rw [hr]; refine ret_closed rfl ?_ (by simp [stV_closed])
    simp [hF]
  · simp [apSt, cfgO, entO, zsO, GConfig.cells, GEntry.cells, hcn, hM, hV, hH, hF, her]
    rw [hr]; refine ret_closed rfl ?_ (by simp [stV_closed])
    simp [hF, her]

set_option maxHeartbeats 40000000 in
theorem apply_9 {C : GConfig} {s : GState} {tk tn ce ot ep fr un n : Int} (_ : StOk C s) (_ : CfgOk C) (e2 : 0 ≤ ce ∧ ce < s.Cells.length) {r : CRes} (hr : r = resS (modeF s ⟨9, tk, tn, ce, ot, ep, fr, un, n⟩)) : SemWp Tryd.prog Tryd.f66.ntmps 0 (restC Tryd.f66 [1,1,1,1]) (Ret T Tryd.f66.results.toList r 0) (apSt C s ⟨9, tk, tn, ce, ot, ep, fr, un, n⟩) := by
  refine sem_end (C := CZA) types_ok CZA_ok follows Tryd.f66 [1,1,1,1] (by simp only [bodyC, Tryd.f66, Option.getD_some, subC, one_ne_zero', if_false]; rfl) (by kernel_rfl) ?_
  obtain ⟨j, rfl⟩ := Int.eq_ofNat_of_zero_le e2.1
  have hj : j < s.Cells.length := by omega
  obtain ⟨x, hx, hx', hxm⟩ := get_of_lt hj
  have hxj : cellSt s j = x := by simp [cellSt, hx]
  by_cases hm : x.Mode = n
  · simp [apSt, cfgO, entO, zsO, GConfig.cells, GEntry.cells, GCellState.cells, hj, hx', hm]
    (repeat refine ⟨⟨by kernel_rfl, by kernel_rfl⟩, ?_⟩)
    rw [hr]; refine ret_closed rfl ?_ (by simp [stV_closed])
    simp [modeF, hxj, hm]
  · simp [apSt, cfgO, entO, zsO, GConfig.cells, GEntry.cells, GCellState.cells, hj, hx', hm]
    (repeat refine ⟨⟨by kernel_rfl, by kernel_rfl⟩, ?_⟩)
    rw [hr]
    refine retData [200] ?_ rfl (by simp [stV_closed]) ?_
    · simp
    · simp [modeF, hxj, hm, setC]

set_option maxHeartbeats 40000000 in
theorem apply_13 {C : GConfig} {s : GState} {tk tn ce ot ep fr un n : Int} (e3 : 0 ≤ ot ∧ ot < 4) {r : CRes} (hr : r = resS (evacF s ⟨13, tk, tn, ce, ot, ep, fr, un, n⟩)) : SemWp Tryd.prog Tryd.f66.ntmps 0 (restC Tryd.f66 [1,1,1,1]) (Ret T Tryd.f66.results.toList r 0) (apSt C s ⟨13, tk, tn, ce, ot, ep, fr, un, n⟩) := by
  refine sem_end (C := CZA) types_ok CZA_ok follows Tryd.f66 [1,1,1,1] (by simp only [bodyC, Tryd.f66, Option.getD_some, subC, one_ne_zero', if_false]; rfl) (by kernel_rfl) ?_
  obtain ⟨v, rfl⟩ := Int.eq_ofNat_of_zero_le e3.1
  have hv : v < 32 := by omega
  obtain ⟨p1, p2⟩ := pow_bit hv
  have b1 : IntKind.u64.wrap (v : Int) = (v : Int) := wrap_u64_in (by omega) (by omega)
  have b2 : min v 64 = v := by omega
  have b3 : IntKind.i64.wrap ((2 : Int) ^ v) = (2 : Int) ^ v := wrap_i64_in (by omega) (by omega)
  cases hb : hasB s.Evacuating v <;> by_cases hn : n = 1
  · simp [apSt, cfgO, entO, zsO, GConfig.cells, GEntry.cells, hb, hn, b1, b2, b3]
    (repeat refine ⟨⟨by kernel_rfl, by kernel_rfl⟩, ?_⟩)
    rw [hr]
    refine retData [200] ?_ rfl (by simp [stV_closed]) ?_
    · simp
    · simp [evacF, hb, hn, xorBit]
  · simp [apSt, cfgO, entO, zsO, GConfig.cells, GEntry.cells, hb, hn]
    (repeat refine ⟨⟨by kernel_rfl, by kernel_rfl⟩, ?_⟩)
    rw [hr]; refine ret_closed rfl ?_ (by simp [stV_closed])
    simp [evacF, hb, hn]
  · simp [apSt, cfgO, entO, zsO, GConfig.cells, GEntry.cells, hb, hn]
    (repeat refine ⟨⟨by kernel_rfl, by kernel_rfl⟩, ?_⟩)
    rw [hr]; refine ret_closed rfl ?_ (by simp [stV_closed])
    simp [evacF, hb, hn]
  · simp [apSt, cfgO, entO, zsO, GConfig.cells, GEntry.cells, hb, hn, b1, b2, b3]
    (repeat refine ⟨⟨by kernel_rfl, by kernel_rfl⟩, ?_⟩)
    rw [hr]
    refine retData [200] ?_ rfl (by simp [stV_closed]) ?_
    · simp
    · simp [evacF, hb, hn, xorBit]

set_option maxHeartbeats 40000000 in
theorem apply_15 {C : GConfig} {s : GState} {tk tn ce ot ep fr un n : Int} {r : CRes} (hr : r = resS (contractF s)) : SemWp Tryd.prog Tryd.f66.ntmps 0 (restC Tryd.f66 [1,1,1,1]) (Ret T Tryd.f66.results.toList r 0) (apSt C s ⟨15, tk, tn, ce, ot, ep, fr, un, n⟩) := by
  refine sem_end (C := CZA) types_ok CZA_ok follows Tryd.f66 [1,1,1,1] (by simp only [bodyC, Tryd.f66, Option.getD_some, subC, one_ne_zero', if_false]; rfl) (by kernel_rfl) ?_
  by_cases hm : s.High = s.Low
  · simp [apSt, cfgO, entO, zsO, GConfig.cells, GEntry.cells, hm]
    rw [hr]; refine ret_closed rfl ?_ (by simp [stV_closed])
    simp [contractF, hm]
  · simp [apSt, cfgO, entO, zsO, GConfig.cells, GEntry.cells, hm]
    rw [hr]
    refine retData [200] ?_ rfl (by simp [stV_closed]) ?_
    · simp
    · simp [contractF, hm]

set_option maxHeartbeats 40000000 in
theorem apply_16 {C : GConfig} {s : GState} {tk tn ce ot ep fr un n : Int} {r : CRes} (hr : r = resS (s, 0)) : SemWp Tryd.prog Tryd.f66.ntmps 0 (restC Tryd.f66 [1,1,1,1]) (Ret T Tryd.f66.results.toList r 0) (apSt C s ⟨16, tk, tn, ce, ot, ep, fr, un, n⟩) := by
  refine sem_end (C := CZA) types_ok CZA_ok follows Tryd.f66 [1,1,1,1] (by simp only [bodyC, Tryd.f66, Option.getD_some, subC, one_ne_zero', if_false]; rfl) (by kernel_rfl) ?_
  simp [apSt, cfgO, entO, zsO, GConfig.cells, GEntry.cells]
  rw [hr]
  refine retData [200] ?_ rfl (by simp) ?_
  · simp
  · simp
end Go.Proofs.YtegjhmhhbmnljaaDoor
