/-
  topo: lists of cells, capacities, majorities.
-/
import Derived.Test.YtegjhmhhbmnljaaDoorP1
namespace Go.Proofs.YtegjhmhhbmnljaaDoor
open Go.Lift

def izrSt (C : GConfig) (z : Int) (i : Nat) : St :=
  mkSt [(1, .int .i64 z), (2, .ptr 0 0 0), (5, .own 1 0 (idxTo (izP C z) i).length), (6, .int .i64 i)] [(0, cfgO C), (1, intsO (idxTo (izP C z) i))] 2

noncomputable def inRegionSp := fam (fun i : GConfig × Int => [vConfig i.1, .int .i64 i.2]) (fun _ : GConfig × Int => []) (fun i : GConfig × Int => (TopoOk i.1)) (fun i : GConfig × Int => ⟨.sl 2 1 (intRow (inRegionL i.1 i.2)), []⟩)
@[simp] theorem inRegionSp_eq {C : GConfig} {r : Int} (h1 : TopoOk C) : inRegionSp ([vConfig C, .int .i64 r]) ([]) = some (⟨.sl 2 1 (intRow (inRegionL C r)), []⟩) :=
  fam_eq (A := fun i : GConfig × Int => [vConfig i.1, .int .i64 i.2]) (O := fun _ : GConfig × Int => []) (res := fun i : GConfig × Int => ⟨.sl 2 1 (intRow (inRegionL i.1 i.2)), []⟩) (by rintro ⟨a0, a1⟩ ⟨b0, b1⟩ h h' <;> simp at h h' <;> simp_all) (C, r) h1

def irP (C : GConfig) (z : Int) : Nat → Bool := fun k => decide (regionAt C k = z)
theorem inRegionL_eq (C : GConfig) (z : Int) : inRegionL C z = idxTo (irP C z) C.Cells.length := rfl
def irgSt (C : GConfig) (z : Int) (i : Nat) : St :=
  mkSt [(1, .int .i64 z), (2, .ptr 0 0 0), (5, .own 1 0 (idxTo (irP C z) i).length), (8, .sl 2 2 (GCell.row C.Cells)), (9, .int .i64 C.Cells.length), (10, .int .i64 i)] [(0, cfgO C), (1, intsO (idxTo (irP C z) i))] 2
def irrSt (C : GConfig) (z : Int) (i : Nat) : St :=
  mkSt [(1, .int .i64 z), (2, .ptr 0 0 0), (5, .own 1 0 (idxTo (irP C z) i).length), (6, .int .i64 i)] [(0, cfgO C), (1, intsO (idxTo (irP C z) i))] 2

noncomputable def aliveSp := fam (fun i : GConfig × Int => [vConfig i.1, .int .i64 i.2]) (fun _ : GConfig × Int => []) (fun i : GConfig × Int => (TopoOk i.1)) (fun i : GConfig × Int => ⟨.sl 2 1 (intRow (aliveL i.1 i.2)), []⟩)
@[simp] theorem aliveSp_eq {C : GConfig} {lost : Int} (h1 : TopoOk C) : aliveSp ([vConfig C, .int .i64 lost]) ([]) = some (⟨.sl 2 1 (intRow (aliveL C lost)), []⟩) :=
  fam_eq (A := fun i : GConfig × Int => [vConfig i.1, .int .i64 i.2]) (O := fun _ : GConfig × Int => []) (res := fun i : GConfig × Int => ⟨.sl 2 1 (intRow (aliveL i.1 i.2)), []⟩) (by rintro ⟨a0, a1⟩ ⟨b0, b1⟩ h h' <;> simp at h h' <;> simp_all) (C, lost) h1

def alP (C : GConfig) (lost : Int) : Nat → Bool := fun k => !(lostZ C (zoneAt C k) lost)
theorem aliveL_eq (C : GConfig) (lost : Int) : aliveL C lost = idxTo (alP C lost) C.Cells.length := rfl
def alvSt (C : GConfig) (lost : Int) (i : Nat) : St :=
  mkSt [(1, .int .i64 lost), (2, .ptr 0 0 0), (5, .own 1 0 (idxTo (alP C lost) i).length), (9, .sl 2 2 (GCell.row C.Cells)), (10, .int .i64 C.Cells.length), (11, .int .i64 i)] [(0, cfgO C), (1, intsO (idxTo (alP C lost) i))] 2
def alrSt (C : GConfig) (lost : Int) (i : Nat) : St :=
  mkSt [(1, .int .i64 lost), (2, .ptr 0 0 0), (5, .own 1 0 (idxTo (alP C lost) i).length), (6, .int .i64 i)] [(0, cfgO C), (1, intsO (idxTo (alP C lost) i))] 2

noncomputable def capacitySp := fam (fun i : GConfig × Int => [vConfig i.1, .int .i64 i.2]) (fun _ : GConfig × Int => []) (fun i : GConfig × Int => (TopoOk i.1)) (fun i : GConfig × Int => ⟨.int .i64 (capR i.1 i.2), []⟩)
@[simp] theorem capacitySp_eq {C : GConfig} {r : Int} (h1 : TopoOk C) : capacitySp ([vConfig C, .int .i64 r]) ([]) = some (⟨.int .i64 (capR C r), []⟩) :=
  fam_eq (A := fun i : GConfig × Int => [vConfig i.1, .int .i64 i.2]) (O := fun _ : GConfig × Int => []) (res := fun i : GConfig × Int => ⟨.int .i64 (capR i.1 i.2), []⟩) (by rintro ⟨a0, a1⟩ ⟨b0, b1⟩ h h' <;> simp at h h' <;> simp_all) (C, r) h1

theorem TopoOk.kcap {C : GConfig} (h : TopoOk C) {k : Nat} (hk : k < C.Cells.length) : 1 ≤ capK C k ∧ capK C k ≤ 4194304 := by
  obtain ⟨x, hx, _, hm⟩ := get_of_lt hk
  rw [capK_nat hx]; exact h.cc x hm
theorem TopoOk.tcap {C : GConfig} (h : TopoOk C) (r : Int) : ∀ k : Nat, k ≤ C.Cells.length → 0 ≤ capTo C r k ∧ capTo C r k ≤ 4194304 * k
  | 0, _ => by simp [capTo]
  | k + 1, hk => by
    have h1 := h.tcap r k (by omega)
    have h2 := h.kcap (show k < C.Cells.length by omega)
    simp only [capTo]
    split <;> omega
def cpSt (C : GConfig) (z : Int) (i : Nat) : St :=
  mkSt [(1, .int .i64 z), (2, .ptr 0 0 0), (5, .int .i64 (capTo C z i)), (9, .sl 2 2 (GCell.row C.Cells)), (10, .int .i64 C.Cells.length), (11, .int .i64 i)] [(0, cfgO C)] 1

noncomputable def CP4 := mkC []
theorem CP4_ok : SpecsOk Tryd.prog CP4 := mkC_ok all_nil

def capL (C : GConfig) (l : List Int) : Int := (l.map fun x => capK C x.toNat).sum
theorem capL_idx (C : GConfig) (r : Int) : ∀ n, capL C (idxTo (irP C r) n) = capTo C r n
  | 0 => rfl
  | n + 1 => by
    simp only [capTo]
    by_cases hz : regionAt C n = r
    · have hp : irP C r n = true := decide_eq_true hz
      rw [idxTo_t hp, if_pos hz, ← capL_idx C r n]
      simp [capL]
    · have hp : irP C r n = false := decide_eq_false hz
      rw [idxTo_f hp, if_neg hz, ← capL_idx C r n]
theorem capL_bound {C : GConfig} (h : TopoOk C) : ∀ {l : List Int}, (∀ x ∈ l, ∃ k : Nat, x = (k : Int) ∧ k < C.Cells.length) → 0 ≤ capL C l ∧ capL C l ≤ 4194304 * l.length
  | [], _ => by simp [capL]
  | x :: l, hl => by
    obtain ⟨h1, h2⟩ := capL_bound h (l := l) (fun y hy => hl y (List.mem_cons_of_mem _ hy))
    obtain ⟨k, rfl, hk⟩ := hl x (List.mem_cons_self ..)
    have h3 := h.kcap hk
    have : capL C ((k : Int) :: l) = capK C k + capL C l := by simp [capL]
    rw [this, List.length_cons]; omega
theorem inRegionL_cells {C : GConfig} {r : Int} : ∀ x ∈ inRegionL C r, ∃ k : Nat, x = (k : Int) ∧ k < C.Cells.length := by
  intro x hx
  obtain ⟨k, h1, h2, _⟩ := idxTo_mem hx
  exact ⟨k, h1, h2⟩
def cprSt (C : GConfig) (l : List Int) (i : Nat) : St :=
  mkSt [(2, .ptr 0 0 0), (5, .int .i64 (capL C (l.take i))), (6, .sl 2 1 (intRow l)), (7, .int .i64 i)] [(0, cfgO C)] 1

noncomputable def majoritySp := fam (fun i : GConfig × Int => [vConfig i.1, .int .i64 i.2]) (fun _ : GConfig × Int => []) (fun i : GConfig × Int => (TopoOk i.1)) (fun i : GConfig × Int => ⟨.bool (majB i.1 i.2), []⟩)
@[simp] theorem majoritySp_eq {C : GConfig} {lost : Int} (h1 : TopoOk C) : majoritySp ([vConfig C, .int .i64 lost]) ([]) = some (⟨.bool (majB C lost), []⟩) :=
  fam_eq (A := fun i : GConfig × Int => [vConfig i.1, .int .i64 i.2]) (O := fun _ : GConfig × Int => []) (res := fun i : GConfig × Int => ⟨.bool (majB i.1 i.2), []⟩) (by rintro ⟨a0, a1⟩ ⟨b0, b1⟩ h h' <;> simp at h h' <;> simp_all) (C, lost) h1

theorem standTo_t {C : GConfig} {lost : Int} {i : Nat} {x : Int} (hx : C.Replicas[i]? = some x) (h : lostZ C x lost = false) : standTo C lost (i + 1) = standTo C lost i + 1 := by
  unfold standTo; rw [List.take_add_one, hx]; simp [h]
theorem standTo_f {C : GConfig} {lost : Int} {i : Nat} {x : Int} (hx : C.Replicas[i]? = some x) (h : lostZ C x lost = true) : standTo C lost (i + 1) = standTo C lost i := by
  unfold standTo; rw [List.take_add_one, hx]; simp [h]
theorem standTo_le (C : GConfig) (lost : Int) (i : Nat) : standTo C lost i ≤ i := by
  unfold standTo
  exact Nat.le_trans (List.length_filter_le _ _) (by rw [List.length_take]; omega)
def mjSt (C : GConfig) (lost : Int) (i : Nat) : St :=
  mkSt [(1, .int .i64 lost), (2, .ptr 0 0 0), (5, .int .i64 (standTo C lost i)), (9, .sl 2 1 (intRow C.Replicas)), (10, .int .i64 C.Replicas.length), (11, .int .i64 i)] [(0, cfgO C)] 1
def mjrSt (C : GConfig) (lost : Int) (i : Nat) : St :=
  mkSt [(1, .int .i64 lost), (2, .ptr 0 0 0), (5, .int .i64 (standTo C lost i)), (6, .int .i64 i)] [(0, cfgO C)] 1

end Go.Proofs.YtegjhmhhbmnljaaDoor
