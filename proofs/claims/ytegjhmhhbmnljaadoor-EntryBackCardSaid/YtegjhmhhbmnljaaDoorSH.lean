/-
  make: More, Log, State.
-/
import Derived.Test.YtegjhmhhbmnljaaDoorSG
namespace Go.Proofs.YtegjhmhhbmnljaaDoor
open Go.Lift

section
variable (C : GConfig) (s : GState) (x : GTenantState) (e : GEntry) (t i : Int) (L : List Int) (j : Nat)
theorem plat_pos : j + 2 ≤ (platM C s t L j).2 ∧ (platM C s t L j).2 ≤ j + 3 := by
  simp only [platM]
  repeat' split
  all_goals exact ⟨by simp only; omega, by simp only; omega⟩
theorem g15_pos : j ≤ (g15 C s L j e).2 ∧ (g15 C s L j e).2 ≤ j + 3 := by
  simp only [g15]
  repeat' split
  all_goals exact ⟨by simp only; omega, by simp only; omega⟩
theorem g12_pos : j ≤ (g12 C s x L j e).2 ∧ (g12 C s x L j e).2 ≤ j + 5 := by
  simp only [g12]
  split
  · have := g15_pos C s { e with From := mx e.Tick x.Window.Until + dr L (j + 1) 3 } L (j + 2); omega
  · have := g15_pos C s { e with From := mx e.Tick x.Window.Until } L (j + 1); omega
theorem g10_pos : j ≤ (g10 C s x L j e).2 ∧ (g10 C s x L j e).2 ≤ j + 6 := by
  simp only [g10]
  repeat' split
  · have := g12_pos C s x e L j; omega
  · have := g12_pos C s x { e with Tick := mx e.Tick x.Window.Until } L (j + 1); omega
  · have := g12_pos C s x e L (j + 1); omega
theorem g7_pos : j ≤ (g7 C s x L j e).2 ∧ (g7 C s x L j e).2 ≤ j + 7 := by
  simp only [g7]
  repeat' split
  · have := g10_pos C s x { e with Epoch := x.Epoch + 1 } L j; omega
  · have := g10_pos C s x { e with Epoch := x.Epoch + 1 } L (j + 1); omega
  · have := g10_pos C s x { e with Epoch := x.Epoch } L (j + 1); omega
theorem g5_pos : j ≤ (g5 C s x L j e).2 ∧ (g5 C s x L j e).2 ≤ j + 8 := by
  simp only [g5]
  repeat' split
  · have := g7_pos C s x { e with Cell := x.Home } L j; omega
  · have := g7_pos C s x { e with Cell := x.Standby } L (j + 1); omega
  · have := g7_pos C s x { e with Cell := x.Home } L (j + 1); omega
theorem grant_pos : j ≤ (grantM C s e L j).2 ∧ (grantM C s e L j).2 ≤ j + 9 := by
  simp only [grantM]
  repeat' split
  · have := g5_pos C s (tenSt s e.Tenant) e L j; omega
  · have := g7_pos C s (tenSt s e.Tenant) { e with Cell := (tenSt s e.Tenant).Target } L (j + 1); omega
  · have := g5_pos C s (tenSt s e.Tenant) e L (j + 1); omega
theorem pick_pos' (xs : List Int) : j ≤ (pickM L j xs).2 ∧ (pickM L j xs).2 ≤ j + 1 := by
  refine ⟨?_, pick_pos L j xs⟩
  unfold pickM; split
  · exact Nat.le_refl _
  · exact Nat.le_succ j
theorem place_pos : j ≤ (placeE C L j i e).2 ∧ (placeE C L j i e).2 ≤ j + 2 := by
  simp only [placeE]
  have a := pick_pos' L j (homesL C i)
  have b := pick_pos' L (pickM L j (homesL C i)).2 (standbysL C i (if 0 < (pickM L j (homesL C i)).1 then (pickM L j (homesL C i)).1 else 0))
  omega
theorem eSw_pos : j ≤ (eSw C s x L j i e).2 ∧ (eSw C s x L j i e).2 ≤ j + 10 := by
  simp only [eSw]
  have a := pick_pos' L (j + 1) (homesL C i)
  have b := pick_pos' L (j + 1) (standbysL C i x.Home)
  have c := grant_pos C s e L (j + 1)
  repeat' split
  all_goals first | omega | (simp only; omega)
theorem eT_pos : j ≤ (eT C s L j t).2 ∧ (eT C s L j t).2 ≤ j + 12 := by
  simp only [eT]
  repeat' split
  · have := plat_pos C s t L j; omega
  · have := plat_pos C s t L (j + 1); omega
  · have := place_pos C (noneE 1 t) (dr L (j + 1) C.Tenants.length) L (j + 2); omega
  · have := fun e => eSw_pos C s (tenSt s (dr L (j + 1) C.Tenants.length)) e (dr L (j + 1) C.Tenants.length) L (j + 2)
    exact ⟨Nat.le_trans (by omega) (this _).1, Nat.le_trans (this _).2 (by omega)⟩
theorem entry_pos : j + 2 ≤ (entryM C s L j).2 ∧ (entryM C s L j).2 ≤ j + 14 := by
  simp only [entryM]
  split
  · have := eT_pos C s (if 1 < s.Tick then s.Tick - 1 else 0) L (j + 2); omega
  · have := eT_pos C s (s.Tick + dr L j 4) L (j + 2); omega
end
theorem more_inj : ∀ i j : List Int × Nat, [V.ptr 0 0 0] = [V.ptr 0 0 0] → [tapeO i.1 i.2] = [tapeO j.1 j.2] → (⟨.bool (decide (tpos i.1 i.2 < i.1.length)), [tapeO i.1 i.2]⟩ : CRes) = ⟨.bool (decide (tpos j.1 j.2 < j.1.length)), [tapeO j.1 j.2]⟩ := by
  rintro ⟨L, j⟩ ⟨L', j'⟩ h h'
  have h2 := (List.cons.inj h').1
  simp [tapeO] at h2
  obtain ⟨rfl, hp⟩ := h2
  simp only at hp ⊢
  simp only [tapeO, hp]
noncomputable def moreSp := fam (fun _ : (List Int) × Nat => [V.ptr 0 0 0]) (fun i : (List Int) × Nat => [tapeO i.1 i.2]) (fun i : (List Int) × Nat => (i.1.length ≤ 200) ∧ (i.2 ≤ 100000)) (fun i : (List Int) × Nat => ⟨.bool (decide (tpos i.1 i.2 < i.1.length)), [tapeO i.1 i.2]⟩)
@[simp] theorem moreSp_eq {L : List Int} {j : Nat} (h1 : L.length ≤ 200) (h2 : j ≤ 100000) : moreSp ([V.ptr 0 0 0]) ([tapeO L j]) = some (⟨.bool (decide (tpos L j < L.length)), [tapeO L j]⟩) :=
  fam_eq (A := fun _ : (List Int) × Nat => [V.ptr 0 0 0]) (O := fun i : (List Int) × Nat => [tapeO i.1 i.2]) (res := fun i : (List Int) × Nat => ⟨.bool (decide (tpos i.1 i.2 < i.1.length)), [tapeO i.1 i.2]⟩) (more_inj) (L, j) ⟨h1, h2⟩

theorem more_spec : Lift.Spec Tryd.prog 67 moreSp := by
  refine spec_fam (C := C0) types_ok C0_ok follows Tryd.func67 (by kernel_rfl) rfl (by kernel_rfl) rfl ?_
  rintro ⟨L, j⟩ ⟨h1, h2⟩
  try simp only at h1 h2
  refine ⟨by simp, ?_⟩
  intro r hr
  simp [tapeO]
  (repeat refine ⟨⟨by kernel_rfl, by kernel_rfl⟩, ?_⟩)
  rw [hr]
  refine ret_at [.inl 0] rfl ?_ ?_ (by simp) ?_ ?_ ?_ ?_ <;> simp [tapeO]
noncomputable def logGo (C : GConfig) (L : List Int) (n : Int) : Nat → GState → Nat → List GEntry → List GEntry
  | 0, _, _, out => out
  | f + 1, s, j, out =>
    if (out.length : Int) < n ∧ tpos L j < L.length then
      (if (applyS C s (entryM C s L j).1).2 = 0 then logGo C L n f (applyS C s (entryM C s L j).1).1 (entryM C s L j).2 (out ++ [(entryM C s L j).1])
       else logGo C L n f s (entryM C s L j).2 out)
    else out
noncomputable def logM (C : GConfig) (L : List Int) (n : Int) : List GEntry := logGo C L n 201 (newS C) 0 []
noncomputable def CLG := mkC [(67, moreSp), (29, newTSp), (28, entryMSp), (65, newSSp), (66, applySp)]
theorem CLG_ok : SpecsOk Tryd.prog CLG := mkC_ok (all_cons more_spec (all_cons newT_spec (all_cons entryM_spec (all_cons newS_spec (all_cons apply_spec all_nil)))))
@[simp] theorem CLG_1 : CLG 67 = moreSp := rfl
@[simp] theorem CLG_2 : CLG 29 = newTSp := rfl
@[simp] theorem CLG_3 : CLG 28 = entryMSp := rfl
@[simp] theorem CLG_4 : CLG 65 = newSSp := rfl
@[simp] theorem CLG_5 : CLG 66 = applySp := rfl

def entsO (l : List GEntry) : AObj := ⟨24, 9, GEntry.row l, false, 2, .rw⟩
structure LgI where
  f : Nat
  s : GState
  j : Nat
  out : List GEntry
def lgSt (C : GConfig) (L : List Int) (n : Int) (p : LgI) : St := mkSt [(2, .int .i64 n), (4, .ptr 0 0 0), (7, .ptr 1 0 0), (8, .ptr 2 0 0), (9, .own 3 0 p.out.length)] [(0, cfgO C), (1, tapeO L p.j), (2, stC p.s), (3, entsO p.out)] 4
def LgOk (C : GConfig) (L : List Int) (n : Int) (p : LgI) : Prop := StOk C p.s ∧ p.out.length + p.f ≤ 201 ∧ p.j ≤ 300 ∧ (L = [] ∨ L.length < p.f + p.j) ∧ logGo C L n p.f p.s p.j p.out = logM C L n
noncomputable def logSp := fam (fun i : (List Int) × GConfig × Int => [V.sl 2 1 (intRow i.1), vConfig i.2.1, .int .i64 i.2.2]) (fun _ : (List Int) × GConfig × Int => []) (fun i : (List Int) × GConfig × Int => (i.1.length ≤ 200) ∧ (CfgOk i.2.1)) (fun i : (List Int) × GConfig × Int => ⟨.sl 2 9 (GEntry.row (logM i.2.1 i.1 i.2.2)), []⟩)
@[simp] theorem logSp_eq {L : List Int} {C : GConfig} {n : Int} (h1 : L.length ≤ 200) (h2 : CfgOk C) : logSp ([V.sl 2 1 (intRow L), vConfig C, .int .i64 n]) ([]) = some (⟨.sl 2 9 (GEntry.row (logM C L n)), []⟩) :=
  fam_eq (A := fun i : (List Int) × GConfig × Int => [V.sl 2 1 (intRow i.1), vConfig i.2.1, .int .i64 i.2.2]) (O := fun _ : (List Int) × GConfig × Int => []) (res := fun i : (List Int) × GConfig × Int => ⟨.sl 2 9 (GEntry.row (logM i.2.1 i.1 i.2.2)), []⟩) (by rintro ⟨a0, a1, a2⟩ ⟨b0, b1, b2⟩ h h' <;> simp at h h' <;> simp_all) (L, C, n) ⟨h1, h2⟩

theorem entRow_push (l : List GEntry) (e : GEntry) : GEntry.row l ++ [GEntry.cells e] = GEntry.row (l ++ [e]) := by simp [GEntry.row]
set_option maxHeartbeats 4000000 in
theorem log_spec : Lift.Spec Tryd.prog 49 logSp := by
  refine spec_fam (C := CLG) types_ok CLG_ok follows Tryd.func49 (by kernel_rfl) rfl (by kernel_rfl) rfl ?_
  rintro ⟨L, C, n⟩ ⟨h1, c⟩
  try simp only at h1 c
  refine ⟨by simp, ?_⟩
  intro r hr
  have hM := c.small.M
  have hN := c.small.N
  simp [GConfig.cells, GState.cells, hM, hN]
  refine axwp_loop (lgSt C L n) (LgOk C L n) (fun p => p.f) ⟨201, newS C, 0, []⟩ ?_ ⟨newS_ok c, by simp, by simp, .inr (by simp only; omega), rfl⟩ ?_
  · refine (weak_fl 56 1 ⟨59, 8, [GState.cells (newS C)], true, min 2 (if (newS C).Tenants = [] ∧ (newS C).Cells = [] then 2 else 1), .rw⟩ ?_ ?_).trans ((weak_nil 9 999 (sz := 1) (entsO []) ?_ ?_ ?_).trans (weak_at [.inr 4, .inr 7, .inr 8, .inl 999] ?_ ?_ ?_ ?_)) <;> simp [stC, entsO, tapeO, tpos, cfgO, GConfig.cells, GState.cells]
  · rintro ⟨f, s, j, out⟩ ⟨hs, ho, hj, hf, he⟩
    simp only at hs ho hj hf he
    have hsT := hs.T
    have hsN := hs.N
    have E1 := entryMSp_eq (L := L) (j := j) (C := C) (s := s) h1 (by omega) c hs
    have M1 := moreSp_eq (L := L) (j := j) h1 (by omega)
    simp only [tapeO] at E1 M1
    have q1 : (out.length : Int) + 1 ≤ 140737488355328 := by omega
    have q2 : ((out.length : Int) + 1) * 72 ≤ 140737488355328 := by omega
    by_cases a1 : (out.length : Int) < n
    · by_cases a2 : tpos L j < L.length
      · have hLn : L ≠ [] := by
          intro q; subst q; simp [tpos] at a2
        have htp : tpos L j = (j : Int) := by simp [tpos, hLn]
        have hfj : L.length < f + j := hf.resolve_left hLn
        obtain ⟨f', rfl⟩ := Nat.exists_eq_succ_of_ne_zero (show f ≠ 0 by omega)
        have ep := entry_pos C s L j
        simp only [logGo, a1, a2, and_self, if_true] at he
        generalize entryM C s L j = p at *
        obtain ⟨e, j'⟩ := p
        simp only at he E1 ep
        by_cases h0 : (applyS C s e).2 = 0
        · simp [lgSt, tapeO, cfgO, stC, entsO, GConfig.cells, GState.cells, GEntry.cells, a1, a2, M1, E1, c, eq_true hs, h0, stV, q1, q2]
          refine Again.mk ⟨f', (applyS C s e).1, j', out ++ [e]⟩ ⟨applyS_ok c hs (Prod.ext rfl h0), by simp only [List.length_append, List.length_singleton]; omega, by simp only; omega, .inr (by simp only; omega), by rw [← he]; simp [h0]⟩ (by simp only; omega) ?_
          refine weak_at [.inr 4, .inr 7, .inr 8, .inr 9] ?_ ?_ ?_ ?_ <;> simp [stC, entsO, tapeO, cfgO, GConfig.cells, GState.cells, ← entRow_push, GEntry.cells]
        · simp [lgSt, tapeO, cfgO, stC, entsO, GConfig.cells, GState.cells, GEntry.cells, a1, a2, M1, E1, c, eq_true hs, h0, stV]
          refine Again.mk ⟨f', s, j', out⟩ ⟨hs, by simp only; omega, by simp only; omega, .inr (by simp only; omega), by rw [← he]; simp [h0]⟩ (by simp only; omega) ?_
          refine weak_at [.inr 4, .inr 7, .inr 8, .inr 9] ?_ ?_ ?_ ?_ <;> simp [stC, entsO, tapeO, cfgO, GConfig.cells, GState.cells]
      · have hz : logGo C L n f s j out = out := by cases f <;> simp [logGo, a2]
        rw [hz] at he
        simp [lgSt, tapeO, cfgO, stC, entsO, GConfig.cells, GState.cells, a1, a2, M1]
        rw [hr]
        refine retData [6] ?_ rfl (by simp) ?_ <;> simp [he]
    · have hz : logGo C L n f s j out = out := by cases f <;> simp [logGo, a1]
      rw [hz] at he
      simp [lgSt, tapeO, cfgO, stC, entsO, GConfig.cells, GState.cells, a1]
      rw [hr]
      refine retData [6] ?_ rfl (by simp) ?_ <;> simp [he]
end Go.Proofs.YtegjhmhhbmnljaaDoor
