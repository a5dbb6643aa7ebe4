/-
  state: Fold by the reference.
-/
import Derived.Test.YtegjhmhhbmnljaaDoorSB
namespace Go.Proofs.YtegjhmhhbmnljaaDoor
open Go.Lift

noncomputable def foldS (C : GConfig) : GState → List GEntry → Nat → GState × Int × Int
  | s, [], i => (s, i, 0)
  | s, e :: l, i => if (applyS C s e).2 = 0 then foldS C (applyS C s e).1 l (i + 1) else (s, i, (applyS C s e).2)
theorem newS_ok {C : GConfig} (c : CfgOk C) : StOk C (newS C) := by
  have := c.topo
  have hV := c.topo.V
  have hR := c.topo.R
  refine ⟨by simp [newS], by simp [newS], by simp [newS], by simp [newS], ?_, ?_, by simp [newS]⟩
  · intro t ht
    simp [newS] at ht
    rw [ht.2]
    constructor <;> simp [tenS] <;> omega
  · intro t ht
    simp [newS] at ht
    rw [ht.2]
    constructor <;> simp [celS] <;> omega
noncomputable def CFO := mkC [(65, newSSp), (66, applySp)]
theorem CFO_ok : SpecsOk Tryd.prog CFO := mkC_ok (all_cons newS_spec (all_cons apply_spec all_nil))
@[simp] theorem CFO_1 : CFO 65 = newSSp := rfl
@[simp] theorem CFO_2 : CFO 66 = applySp := rfl

def stC (s : GState) : AObj := ⟨59, 8, [GState.cells s], true, 1, .rw⟩
@[simp] theorem min1_ite (p : Prop) [Decidable p] : min 1 (if p then 2 else 1) = 1 := by split <;> rfl
@[simp] theorem min2_ite (p : Prop) [Decidable p] : 1 ≤ min 2 (if p then 2 else 1) := by split <;> decide
def foSt (C : GConfig) (l : List GEntry) (p : Nat × GState) : St := mkSt [(1, .sl 2 9 (GEntry.row l)), (2, .ptr 0 0 0), (4, .ptr 1 0 0), (5, .int .i64 0), (6, .int .i64 0), (7, .ptr 2 0 0), (8, .int .i64 p.1)] [(0, cfgO C), (1, zsO), (2, stC p.2)] 3
def FoOk (C : GConfig) (l : List GEntry) (p : Nat × GState) : Prop := p.1 ≤ l.length ∧ StOk C p.2 ∧ foldS C p.2 (l.drop p.1) p.1 = foldS C (newS C) l 0
noncomputable def foldSp := fam (fun i : GConfig × (List GEntry) => [vConfig i.1, .sl 2 9 (GEntry.row i.2)]) (fun _ : GConfig × (List GEntry) => []) (fun i : GConfig × (List GEntry) => (CfgOk i.1) ∧ (i.2.length ≤ 100000)) (fun i : GConfig × (List GEntry) => ⟨.tup [vState (foldS i.1 (newS i.1) i.2 0).1, .int .i64 (foldS i.1 (newS i.1) i.2 0).2.1, .int .i64 (foldS i.1 (newS i.1) i.2 0).2.2], []⟩)
@[simp] theorem foldSp_eq {C : GConfig} {l : List GEntry} (h1 : CfgOk C) (h2 : l.length ≤ 100000) : foldSp ([vConfig C, .sl 2 9 (GEntry.row l)]) ([]) = some (⟨.tup [vState (foldS C (newS C) l 0).1, .int .i64 (foldS C (newS C) l 0).2.1, .int .i64 (foldS C (newS C) l 0).2.2], []⟩) :=
  fam_eq (A := fun i : GConfig × (List GEntry) => [vConfig i.1, .sl 2 9 (GEntry.row i.2)]) (O := fun _ : GConfig × (List GEntry) => []) (res := fun i : GConfig × (List GEntry) => ⟨.tup [vState (foldS i.1 (newS i.1) i.2 0).1, .int .i64 (foldS i.1 (newS i.1) i.2 0).2.1, .int .i64 (foldS i.1 (newS i.1) i.2 0).2.2], []⟩) (by rintro ⟨a0, a1⟩ ⟨b0, b1⟩ h h' <;> simp at h h' <;> simp_all) (C, l) ⟨h1, h2⟩

theorem fold_spec : Lift.Spec Tryd.prog 48 foldSp := by
  refine spec_fam (C := CFO) types_ok CFO_ok follows Tryd.func48 (by kernel_rfl) rfl (by kernel_rfl) rfl ?_
  rintro ⟨C, l⟩ ⟨c, hl⟩
  try simp only at c hl
  refine ⟨by simp, ?_⟩
  intro r hr
  have hM := c.small.M
  have hN := c.small.N
  simp [GConfig.cells, GState.cells, hM, hN]
  refine axwp_loop (foSt C l) (FoOk C l) (fun p => l.length - p.1) (0, newS C) ?_ ⟨Nat.zero_le _, newS_ok c, rfl⟩ ?_
  · refine (weak_fl 48 1 ⟨59, 8, [GState.cells (newS C)], true, min 2 (if (newS C).Tenants = [] ∧ (newS C).Cells = [] then 2 else 1), .rw⟩ ?_ ?_).trans (weak_at [.inr 2, .inr 4, .inr 7] ?_ ?_ ?_ ?_) <;> simp [stC, zsO, cfgO, GConfig.cells, GState.cells]
  · rintro ⟨i, s⟩ ⟨hi, hs, he⟩
    simp only at hi hs he
    by_cases hik : i < l.length
    · have hM' := hs.N; have hN' := hs.T
      obtain ⟨e, hx, hx', _⟩ := get_of_lt hik
      have w4 : IntKind.i64.wrap ((i : Int) + 1) = (i : Int) + 1 := wrap_i64_in (by omega) (by omega)
      rw [List.drop_eq_getElem_cons hik, hx'] at he
      by_cases h0 : (applyS C s e).2 = 0
      · simp [foSt, stC, cfgO, zsO, GConfig.cells, GState.cells, GEntry.cells, hik, hx', c, eq_true hs, h0, w4, stV]
        refine ⟨⟨by kernel_rfl, by kernel_rfl⟩, ?_⟩
        try simp [h0, stV]
        refine Again.mk (i + 1, (applyS C s e).1) ⟨hik, applyS_ok c hs (Prod.ext rfl h0), by rw [← he]; simp [foldS, h0]⟩ (by simp only; omega) ?_
        refine weak_at [.inr 2, .inr 4, .inr 7] ?_ ?_ ?_ ?_ <;> simp [stC, zsO, cfgO, GConfig.cells, GState.cells]
      · simp [foSt, stC, cfgO, zsO, GConfig.cells, GState.cells, GEntry.cells, hik, hx', c, eq_true hs, h0, stV]
        refine ⟨⟨by kernel_rfl, by kernel_rfl⟩, ?_⟩
        try simp [h0, stV]
        rw [hr]
        refine ret_closed rfl ?_ (by simp [V.closed, V.closed.closedAll])
        simp [← he, foldS, h0]
    · have e : i = l.length := by omega
      subst e
      simp [foldS] at he
      simp [foSt, stC, cfgO, zsO, GConfig.cells, GState.cells]
      rw [hr]
      refine ret_closed rfl ?_ (by simp [V.closed, V.closed.closedAll])
      simp [← he]
end Go.Proofs.YtegjhmhhbmnljaaDoor
