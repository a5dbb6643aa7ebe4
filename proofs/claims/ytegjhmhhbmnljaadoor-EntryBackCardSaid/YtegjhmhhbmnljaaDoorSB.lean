/-
  state: Apply and Fold, by the reference.
-/
import Derived.Test.YtegjhmhhbmnljaaDoorSA
namespace Go.Proofs.YtegjhmhhbmnljaaDoor
open Go.Lift

theorem valid_kind {C : GConfig} (h : TopoOk C) {e : GEntry} (hv : validE C e = true) : 1 ≤ e.Kind ∧ e.Kind ≤ 16 := by
  rw [validE_eq h] at hv
  simp only [fitE, Bool.and_eq_true] at hv
  exact inB_iff.1 hv.1
theorem valid_num {C : GConfig} (h : TopoOk C) {e : GEntry} (hv : validE C e = true) : NumOk e := by
  have hk := valid_kind h hv
  have hV := h.V
  rw [validE_eq h] at hv
  obtain ⟨kd, tk, tn, ce, ot, ep, fr, un, n⟩ := e
  simp only at hk
  rcases kinds hk with rfl | rfl | rfl | rfl | rfl | rfl | rfl | rfl | rfl | rfl | rfl | rfl | rfl | rfl | rfl | rfl
  all_goals
    simp [fitE, inR, rngK, inB] at hv
    unfold NumOk
    simp only
    omega

section
variable {C : GConfig} {s x : GState} {e : GEntry}
theorem applyK_ok (c : CfgOk C) (hs : StOk C s) (hv : validE C e = true) (h : applyK C s e = (x, 0)) : StOk C x := by
  have hnum := valid_num c.topo hv
  have hk := valid_kind c.topo hv
  have hT := hs.T
  have hN := hs.N
  have hV := c.topo.V
  have hR := c.topo.R
  rw [validE_eq c.topo] at hv
  obtain ⟨kd, tk, tn, ce, ot, ep, fr, un, n⟩ := e
  simp only at hk
  rcases kinds hk with rfl | rfl | rfl | rfl | rfl | rfl | rfl | rfl | rfl | rfl | rfl | rfl | rfl | rfl | rfl | rfl
  all_goals
    simp [fitE, inR, rngK, inB] at hv
    simp [applyK] at h
  · exact placeF_ok hs h ⟨by first | omega | (simp only; omega), by first | omega | (simp only; omega)⟩ ⟨by first | omega | (simp only; omega), by first | omega | (simp only; omega)⟩ ⟨by first | omega | (simp only; omega), by first | omega | (simp only; omega)⟩
  · exact grantF_ok hs h ⟨by first | omega | (simp only; omega), by first | omega | (simp only; omega)⟩ ⟨by first | omega | (simp only; omega), by first | omega | (simp only; omega)⟩ hnum
  · exact cutF_ok hs h ⟨by first | omega | (simp only; omega), by first | omega | (simp only; omega)⟩ hnum.1
  · exact standbyF_ok hs h ⟨by first | omega | (simp only; omega), by first | omega | (simp only; omega)⟩ ⟨by first | omega | (simp only; omega), by first | omega | (simp only; omega)⟩
  · exact readyF_ok hs h ⟨by first | omega | (simp only; omega), by first | omega | (simp only; omega)⟩ ⟨by first | omega | (simp only; omega), by first | omega | (simp only; omega)⟩
  · exact migrateF_ok hs h ⟨by first | omega | (simp only; omega), by first | omega | (simp only; omega)⟩ ⟨by first | omega | (simp only; omega), by first | omega | (simp only; omega)⟩
  · exact abandonF_ok hs h ⟨by first | omega | (simp only; omega), by first | omega | (simp only; omega)⟩
  · exact shedF_ok hs h ⟨by first | omega | (simp only; omega), by first | omega | (simp only; omega)⟩
  · exact modeF_ok hs h ⟨by first | omega | (simp only; omega), by first | omega | (simp only; omega)⟩ hnum.1 ⟨by first | omega | (simp only; omega), by first | omega | (simp only; omega)⟩
  · exact wantF_ok hs h ⟨by first | omega | (simp only; omega), by first | omega | (simp only; omega)⟩ ⟨by first | omega | (simp only; omega), by first | omega | (simp only; omega)⟩
  · exact runsF_ok hs h ⟨by first | omega | (simp only; omega), by first | omega | (simp only; omega)⟩ hnum.1 ⟨by first | omega | (simp only; omega), by first | omega | (simp only; omega)⟩
  · exact proveF_ok hs h 
  · exact evacF_ok hs h 
  · exact expandF_ok hs h 
  · exact contractF_ok hs h 
  · rw [← h]; exact hs
theorem applyS_ok (c : CfgOk C) (hs : StOk C s) (h : applyS C s e = (x, 0)) : StOk C x := by
  unfold applyS at h
  split at h
  · simp at h
  · rename_i hv
    split at h
    · simp at h
    · split at h
      · simp at h
      · have hv2 : validE C e = true := by simpa using hv
        have hn := (valid_num c.topo hv2).1
        have hc := hs.cnt
        exact applyK_ok (s := { s with Tick := e.Tick, Count := s.Count + 1 }) c { hs with tick := hn, cnt := by simp only; omega } hv2 h
theorem apply_rest (c : CfgOk C) (hs : StOk C s) (hv : validE C e = true) {r : CRes} (hr : r = resS (applyK C s e)) : SemWp Tryd.prog Tryd.f66.ntmps 0 (restC Tryd.f66 [1,1,1,1]) (Ret T Tryd.f66.results.toList r 0) (apSt C s e) := by
  have hnum := valid_num c.topo hv
  have hk := valid_kind c.topo hv
  have hT := hs.T
  have hN := hs.N
  have hV := c.topo.V
  have hR := c.topo.R
  rw [validE_eq c.topo] at hv
  obtain ⟨kd, tk, tn, ce, ot, ep, fr, un, n⟩ := e
  simp only at hk
  rcases kinds hk with rfl | rfl | rfl | rfl | rfl | rfl | rfl | rfl | rfl | rfl | rfl | rfl | rfl | rfl | rfl | rfl
  all_goals
    simp [fitE, inR, rngK, inB] at hv
    simp [applyK] at hr
  · exact apply_1 hs c ⟨by omega, by omega⟩ ⟨by omega, by omega⟩ ⟨by omega, by omega⟩ hr
  · exact apply_2 hs c ⟨by omega, by omega⟩ ⟨by omega, by omega⟩ hnum hr
  · exact apply_3 hs c ⟨by omega, by omega⟩ hnum.1 hr
  · exact apply_4 hs c ⟨by omega, by omega⟩ ⟨by omega, by omega⟩ hr
  · exact apply_5 hs c ⟨by omega, by omega⟩ ⟨by omega, by omega⟩ hr
  · exact apply_6 hs c ⟨by omega, by omega⟩ ⟨by omega, by omega⟩ hr
  · exact apply_7 hs c ⟨by omega, by omega⟩ hr
  · exact apply_8 hs c ⟨by omega, by omega⟩ hr
  · exact apply_9 hs c ⟨by omega, by omega⟩ hr
  · exact apply_10 hs c ⟨by omega, by omega⟩ ⟨by omega, by omega⟩ hr
  · exact apply_11 hs c ⟨by omega, by omega⟩ hr
  · exact apply_12 hs c hnum.1 ⟨by omega, by omega⟩ hr
  · exact apply_13 ⟨by omega, by omega⟩ hr
  · exact apply_14 hs c  hr
  · exact apply_15  hr
  · exact apply_16  hr
end
noncomputable def applySp := fam (fun i : GConfig × GState × GEntry => [vConfig i.1, vState i.2.1, vEntry i.2.2]) (fun _ : GConfig × GState × GEntry => []) (fun i : GConfig × GState × GEntry => (CfgOk i.1) ∧ (StOk i.1 i.2.1)) (fun i : GConfig × GState × GEntry => resS (applyS i.1 i.2.1 i.2.2))
@[simp] theorem applySp_eq {C : GConfig} {s : GState} {e : GEntry} (h1 : CfgOk C) (h2 : StOk C s) : applySp ([vConfig C, vState s, vEntry e]) ([]) = some (resS (applyS C s e)) :=
  fam_eq (A := fun i : GConfig × GState × GEntry => [vConfig i.1, vState i.2.1, vEntry i.2.2]) (O := fun _ : GConfig × GState × GEntry => []) (res := fun i : GConfig × GState × GEntry => resS (applyS i.1 i.2.1 i.2.2)) (by rintro ⟨a0, a1, a2⟩ ⟨b0, b1, b2⟩ h h' <;> simp at h h' <;> simp_all) (C, s, e) ⟨h1, h2⟩

set_option maxHeartbeats 40000000 in
theorem apply_spec : Lift.Spec Tryd.prog 66 applySp := by
  refine spec_famS Tryd.func66 (by kernel_rfl) rfl ?_ types_ok
  rintro ⟨C, s, e⟩ ⟨c, hs⟩
  try simp only at c hs
  refine ⟨Nat.le_of_ble_eq_true (by kernel_rfl), ?_⟩
  intro r hr
  refine sem_at (C := CZA) types_ok CZA_ok follows Tryd.f66 [] [1,1,1,1] (by simp only [bodyC, Tryd.f66, Option.getD_some, subC]; rfl) (by kernel_rfl) ?_
  have ht := c.topo
  have hM : s.Cells.length ≤ 16 := by have := c.small.M; have := hs.N; omega
  have hTl : s.Tenants.length ≤ 32 := by have := c.small.N; have := hs.T; omega
  have hcn := hs.cnt
  have w1 : IntKind.i64.wrap (s.Count + 1) = s.Count + 1 := wrap_i64_in (by omega) (by omega)
  cases hv : validE C e
  · simp [GConfig.cells, GState.cells, GEntry.cells, ht, hv]
    rw [hr]; refine ret_closed rfl ?_ (by simp [stV_closed])
    simp [applyS, hv]
  by_cases h1 : 4096 ≤ s.Count
  · simp [GConfig.cells, GState.cells, GEntry.cells, ht, hv, h1]
    rw [hr]; refine ret_closed rfl ?_ (by simp [stV_closed])
    simp [applyS, hv, h1]
  by_cases h2 : e.Tick < s.Tick
  · simp [GConfig.cells, GState.cells, GEntry.cells, ht, hv, h1, h2]
    rw [hr]; refine ret_closed rfl ?_ (by simp [stV_closed])
    simp [applyS, hv, h1, h2]
  have hn := (valid_num c.topo hv).1
  have hF : applyS C s e = applyK C { s with Tick := e.Tick, Count := s.Count + 1 } e := by simp [applyS, hv, h1, h2]
  rw [hF] at hr
  simp [GConfig.cells, GState.cells, GEntry.cells, ht, hv, h1, h2, hM, hTl, w1]
  refine SemWp.weak ?_ (apply_rest c (s := { s with Tick := e.Tick, Count := s.Count + 1 }) { hs with tick := hn, cnt := by simp only; omega } hv hr)
  refine weak_at [.inl 168, .inl 169, .inr 3, .inr 4, .inr 5, .inr 6] ?_ ?_ ?_ ?_ <;> simp [cfgO, entO, zsO, boxW, GConfig.cells, GEntry.cells]
end Go.Proofs.YtegjhmhhbmnljaaDoor
