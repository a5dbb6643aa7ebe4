/-
  topo: cells, zones and regions of a configuration.
-/
import Derived.Test.YtegjhmhhbmnljaaDoorM1
namespace Go.Proofs.YtegjhmhhbmnljaaDoor
open Go.Lift

@[simp] theorem natInt_neg (n : Nat) : ((n : Int) < 0) = False := by simp
theorem vConfig_fold (C : GConfig) : V.agg [.int .i64 C.Regions, .sl 2 1 (GZone.row C.Zones), .sl 2 2 (GCell.row C.Cells), .sl 2 7 (GTenant.row C.Tenants), .sl 2 2 (GVersion.row C.Versions), .sl 2 1 (intRow C.Replicas), .sl 2 1 (intRow C.Observers), .int .i64 C.Blast, .int .i64 C.Lease, .int .i64 C.Bake] = vConfig C := rfl
attribute [simp high] vConfig_cells
attribute [simp] vConfig_fold

def cfgO (C : GConfig) : AObj := ⟨32, 10, [C.cells], true, if C.Zones = [] ∧ C.Cells = [] ∧ C.Tenants = [] ∧ C.Versions = [] ∧ C.Replicas = [] ∧ C.Observers = [] then 2 else 1, .rw⟩

theorem iAnd_one (a : Int) : iAnd .i64 a 1 = a % 2 := by
  have h : (BitVec.ofInt 64 a &&& BitVec.ofInt 64 1).toNat = (a % 2).toNat := by
    rw [BitVec.toNat_and, BitVec.toNat_ofInt]
    have : (BitVec.ofInt 64 1).toNat = 1 := rfl
    rw [this, Nat.and_one_is_mod]
    omega
  show IntKind.i64.wrap ((BitVec.ofInt 64 a &&& BitVec.ofInt 64 1).toNat : Int) = a % 2
  rw [h, wrap_i64_in (by omega) (by omega)]; omega
theorem tmod_two (a : Int) : a.tmod 2 = 0 ↔ ¬ a % 2 = 1 := by
  rw [← Int.dvd_iff_tmod_eq_zero]; omega

/-! A comparison of which simp sees the name alone. -/
def inB (n lo hi : Int) : Bool := decide (lo ≤ n ∧ n ≤ hi)
def exB (n m : Int) : Bool := decide (0 ≤ n ∧ n < m)
theorem inB_iff {n lo hi : Int} : inB n lo hi = true ↔ lo ≤ n ∧ n ≤ hi := by simp [inB]
theorem exB_iff {n m : Int} : exB n m = true ↔ 0 ≤ n ∧ n < m := by simp [exB]

theorem all_take_succ {α : Type} {p : α → Bool} {l : List α} {i : Nat} {x : α} (hx : l[i]? = some x) (h : (l.take i).all p = true) (hp : p x = true) : (l.take (i + 1)).all p = true := by
  rw [List.take_add_one, hx, List.all_append, h]; simp [hp]
theorem all_at_false {α : Type} {p : α → Bool} {l : List α} {i : Nat} {x : α} (hx : l[i]? = some x) (hp : p x = false) : l.all p = false := by
  rw [List.all_eq_false]; exact ⟨x, List.mem_of_getElem? hx, by simp [hp]⟩

/-- All elements ahead of a place. -/
def AllTo {α : Type} (p : α → Bool) (l : List α) (i : Nat) : Prop := (l.take i).all p = true
theorem AllTo.zero {α : Type} (p : α → Bool) (l : List α) : AllTo p l 0 := by simp [AllTo]
theorem AllTo.succ {α : Type} {p : α → Bool} {l : List α} {i : Nat} {x : α} (h : AllTo p l i) (hx : l[i]? = some x) (hp : p x = true) : AllTo p l (i + 1) := all_take_succ hx h hp
theorem AllTo.whole {α : Type} {p : α → Bool} {l : List α} (h : AllTo p l l.length) : l.all p = true := by unfold AllTo at h; rwa [List.take_length] at h

/-- The numbers below n for which something holds. -/
def idxTo (p : Nat → Bool) (n : Nat) : List Int := ((List.range n).filter p).map fun (k : Nat) => (k : Int)
theorem idxTo_t {p : Nat → Bool} {n : Nat} (h : p n = true) : idxTo p (n + 1) = idxTo p n ++ [(n : Int)] := by simp [idxTo, List.range_succ, h]
theorem idxTo_f {p : Nat → Bool} {n : Nat} (h : p n = false) : idxTo p (n + 1) = idxTo p n := by simp [idxTo, List.range_succ, h]
theorem idxTo_zero (p : Nat → Bool) : idxTo p 0 = [] := rfl
theorem idxTo_len (p : Nat → Bool) (n : Nat) : (idxTo p n).length ≤ n := by
  have := List.length_filter_le p (List.range n)
  simpa [idxTo] using this
theorem idxTo_mem {p : Nat → Bool} {n : Nat} {x : Int} (h : x ∈ idxTo p n) : ∃ k : Nat, x = (k : Int) ∧ k < n ∧ p k = true := by
  simp only [idxTo, List.mem_map, List.mem_filter, List.mem_range] at h
  obtain ⟨k, ⟨h1, h2⟩, rfl⟩ := h
  exact ⟨k, rfl, h1, h2⟩
theorem idxTo_congr {p q : Nat → Bool} {n : Nat} (h : ∀ k, k < n → p k = q k) : idxTo p n = idxTo q n := by
  unfold idxTo; congr 1
  exact List.filter_congr fun k hk => h k (List.mem_range.1 hk)

/-! ### What a configuration says -/
def zoneAt (C : GConfig) (i : Int) : Int := if exB i C.Cells.length = true then (C.Cells.getD i.toNat ⟨0, 0⟩).Zone else -1
def regionZ (C : GConfig) (z : Int) : Int := if exB z C.Zones.length = true then (C.Zones.getD z.toNat ⟨0⟩).Region else -1
def regionAt (C : GConfig) (i : Int) : Int := regionZ C (zoneAt C i)
def hasB (set i : Int) : Bool := decide (0 ≤ i ∧ i < 62 ∧ set.fdiv (2 ^ i.toNat) % 2 = 1)
def lostZ (C : GConfig) (z lost : Int) : Bool := hasB lost (regionZ C z)
def inZoneL (C : GConfig) (z : Int) : List Int := idxTo (fun k => decide (zoneAt C k = z)) C.Cells.length
def inRegionL (C : GConfig) (r : Int) : List Int := idxTo (fun k => decide (regionAt C k = r)) C.Cells.length
def aliveL (C : GConfig) (lost : Int) : List Int := idxTo (fun k => !(lostZ C (zoneAt C k) lost)) C.Cells.length
def capK (C : GConfig) (k : Nat) : Int := (C.Cells.getD k ⟨0, 0⟩).Capacity
def capTo (C : GConfig) (r : Int) : Nat → Int
  | 0 => 0
  | n + 1 => if regionAt C n = r then capTo C r n + capK C n else capTo C r n
def capR (C : GConfig) (r : Int) : Int := capTo C r C.Cells.length
def standTo (C : GConfig) (lost : Int) (n : Nat) : Nat := ((C.Replicas.take n).filter fun z => !(lostZ C z lost)).length
def majB (C : GConfig) (lost : Int) : Bool := decide (C.Replicas.length < 2 * standTo C lost C.Replicas.length)

def limitsB (C : GConfig) : Bool := inB C.Regions 1 4 && (inB C.Zones.length 1 8 && (inB C.Cells.length 1 16 && (inB C.Versions.length 1 30 && (inB C.Replicas.length 1 5 && (inB C.Observers.length 1 9 && decide ((C.Tenants.length : Int) ≤ 32))))))
def zonesFitB (C : GConfig) : Bool := C.Zones.all fun z => exB z.Region C.Regions
def cellsFitB (C : GConfig) : Bool := C.Cells.all fun c => exB c.Zone C.Zones.length && inB c.Capacity 1 4194304
def standB (C : GConfig) (l : List Int) : Bool := l.all fun z => exB z C.Zones.length
def versionB (v : GVersion) : Bool := inB v.Low 0 v.High && decide (v.High ≤ 30)
def low0 (l : List GVersion) : Int := (l.headD ⟨0, 0⟩).Low
def versionsFitB (l : List GVersion) : Bool := l.all versionB && decide (low0 l = 0)
theorem low0_at {l : List GVersion} {x : GVersion} (hx : l[0]? = some x) : low0 l = x.Low := by
  cases l with
  | nil => simp at hx
  | cons a l => simp at hx; simp [low0, hx]
def boundsB (C : GConfig) : Bool := inB C.Blast 1 16 && (inB C.Lease 1 1000 && inB C.Bake 0 10000)
noncomputable def validT : GConfig → Int := hush fun C => if limitsB C = true then (if (decide (C.Replicas.length % 2 = 1) && (zonesFitB C && (cellsFitB C && (standB C C.Replicas && (standB C C.Observers && (versionsFitB C.Versions && boundsB C)))))) = true then 0 else 1) else 2
theorem validT_eq (C : GConfig) : validT C = if limitsB C = true then (if (decide (C.Replicas.length % 2 = 1) && (zonesFitB C && (cellsFitB C && (standB C C.Replicas && (standB C C.Observers && (versionsFitB C.Versions && boundsB C)))))) = true then 0 else 1) else 2 := by unfold validT; rw [hush_eq]

structure TopoOk (C : GConfig) : Prop where
  R : 1 ≤ C.Regions ∧ C.Regions ≤ 4
  Z : 1 ≤ C.Zones.length ∧ C.Zones.length ≤ 8
  N : 1 ≤ C.Cells.length ∧ C.Cells.length ≤ 16
  V : 1 ≤ C.Versions.length ∧ C.Versions.length ≤ 30
  P : 1 ≤ C.Replicas.length ∧ C.Replicas.length ≤ 5
  O : 1 ≤ C.Observers.length ∧ C.Observers.length ≤ 9
  T : C.Tenants.length ≤ 32
  odd : C.Replicas.length % 2 = 1
  zr : ∀ z ∈ C.Zones, 0 ≤ z.Region ∧ z.Region < C.Regions
  cz : ∀ c ∈ C.Cells, 0 ≤ c.Zone ∧ c.Zone < C.Zones.length
  cc : ∀ c ∈ C.Cells, 1 ≤ c.Capacity ∧ c.Capacity ≤ 4194304
  pz : ∀ z ∈ C.Replicas, 0 ≤ z ∧ z < C.Zones.length
  oz : ∀ z ∈ C.Observers, 0 ≤ z ∧ z < C.Zones.length
  vv : ∀ v ∈ C.Versions, 0 ≤ v.Low ∧ v.Low ≤ v.High ∧ v.High ≤ 30
  v0 : low0 C.Versions = 0
  blast : 1 ≤ C.Blast ∧ C.Blast ≤ 16
  lease : 1 ≤ C.Lease ∧ C.Lease ≤ 1000
  bake : 0 ≤ C.Bake ∧ C.Bake ≤ 10000

theorem validT_ok {C : GConfig} : validT C = 0 ↔ TopoOk C := by
  rw [validT_eq]
  constructor
  · intro h
    split at h
    · rename_i h1
      split at h
      · rename_i h2
        simp only [limitsB, Bool.and_eq_true, inB_iff, decide_eq_true_eq] at h1
        simp only [zonesFitB, cellsFitB, standB, versionsFitB, versionB, boundsB, Bool.and_eq_true, List.all_eq_true, inB_iff, exB_iff, decide_eq_true_eq] at h2
        obtain ⟨a1, a2, a3, a4, a5, a6, a7⟩ := h1
        obtain ⟨b1, b2, b3, b4, b5, ⟨b6, b7⟩, b8, b9, b10⟩ := h2
        exact ⟨a1, by omega, by omega, by omega, by omega, by omega, by omega, b1, b2, fun c hc => (b3 c hc).1, fun c hc => (b3 c hc).2, b4, b5, fun v hv => ⟨(b6 v hv).1.1, (b6 v hv).1.2, (b6 v hv).2⟩, b7, b8, b9, b10⟩
      · cases h
    · cases h
  · intro h
    have h1 : limitsB C = true := by
      simp only [limitsB, Bool.and_eq_true, inB_iff, decide_eq_true_eq]
      have := h.R; have := h.Z; have := h.N; have := h.V; have := h.P; have := h.O; have := h.T
      omega
    have h2 : (decide (C.Replicas.length % 2 = 1) && (zonesFitB C && (cellsFitB C && (standB C C.Replicas && (standB C C.Observers && (versionsFitB C.Versions && boundsB C)))))) = true := by
      simp only [zonesFitB, cellsFitB, standB, versionsFitB, versionB, boundsB, Bool.and_eq_true, List.all_eq_true, inB_iff, exB_iff, decide_eq_true_eq]
      exact ⟨h.odd, h.zr, fun c hc => ⟨h.cz c hc, h.cc c hc⟩, h.pz, h.oz, ⟨fun v hv => ⟨⟨(h.vv v hv).1, (h.vv v hv).2.1⟩, (h.vv v hv).2.2⟩, h.v0⟩, h.blast, h.lease, h.bake⟩
    rw [if_pos h1, if_pos h2]

theorem zoneAt_nat {C : GConfig} {k : Nat} {x : GCell} (hx : C.Cells[k]? = some x) : zoneAt C k = x.Zone := by
  have hk := (List.getElem?_eq_some_iff.1 hx).1
  unfold zoneAt
  rw [if_pos (exB_iff.2 ⟨by omega, by omega⟩)]
  simp [List.getD, hx]
theorem capK_nat {C : GConfig} {k : Nat} {x : GCell} (hx : C.Cells[k]? = some x) : capK C k = x.Capacity := by simp [capK, List.getD, hx]
theorem regionZ_nat {C : GConfig} {k : Nat} {x : GZone} (hx : C.Zones[k]? = some x) : regionZ C k = x.Region := by
  have hk := (List.getElem?_eq_some_iff.1 hx).1
  unfold regionZ
  rw [if_pos (exB_iff.2 ⟨by omega, by omega⟩)]
  simp [List.getD, hx]
theorem zoneAt_out {C : GConfig} {i : Int} (h : exB i C.Cells.length = false) : zoneAt C i = -1 := by unfold zoneAt; rw [h]; rfl
theorem regionZ_out {C : GConfig} {i : Int} (h : exB i C.Zones.length = false) : regionZ C i = -1 := by unfold regionZ; rw [h]; rfl
theorem exB_out {n m : Int} (h : n < 0) : exB n m = false := by unfold exB; simp; omega
theorem ex_cases (n : Int) (m : Nat) : (∃ k : Nat, n = (k : Int) ∧ k < m ∧ exB n m = true) ∨ exB n m = false := by
  by_cases h : 0 ≤ n ∧ n < (m : Int)
  · exact .inl ⟨n.toNat, by omega, by omega, exB_iff.2 h⟩
  · right; unfold exB; simp; omega
theorem get_of_lt {α : Type} {l : List α} {k : Nat} (h : k < l.length) : ∃ x, l[k]? = some x ∧ l[k] = x ∧ x ∈ l := ⟨_, List.getElem?_eq_getElem h, rfl, List.getElem_mem h⟩
theorem TopoOk.zone {C : GConfig} (h : TopoOk C) {k : Nat} (hk : k < C.Cells.length) : ∃ z : Nat, zoneAt C k = (z : Int) ∧ z < C.Zones.length := by
  obtain ⟨x, hx, _, hm⟩ := get_of_lt hk
  have := h.cz x hm
  exact ⟨x.Zone.toNat, by rw [zoneAt_nat hx]; omega, by omega⟩
theorem TopoOk.regZ {C : GConfig} (h : TopoOk C) {k : Nat} (hk : k < C.Zones.length) : 0 ≤ regionZ C k ∧ regionZ C k < C.Regions := by
  obtain ⟨x, hx, _, hm⟩ := get_of_lt hk
  rw [regionZ_nat hx]; exact h.zr x hm
theorem TopoOk.reg {C : GConfig} (h : TopoOk C) (z : Int) : regionZ C z = -1 ∧ exB z C.Zones.length = false ∨ 0 ≤ regionZ C z ∧ regionZ C z < C.Regions ∧ exB z C.Zones.length = true := by
  rcases ex_cases z C.Zones.length with ⟨k, rfl, hk, he⟩ | he
  · exact .inr ⟨(h.regZ hk).1, (h.regZ hk).2, he⟩
  · exact .inl ⟨regionZ_out he, he⟩

noncomputable def betweenPSp := fam (fun i : Int × Int × Int => [V.int .i64 i.1, .int .i64 i.2.1, .int .i64 i.2.2]) (fun _ : Int × Int × Int => []) (fun _ : Int × Int × Int => True) (fun i : Int × Int × Int => ⟨.bool (inB i.1 i.2.1 i.2.2), []⟩)
@[simp] theorem betweenPSp_eq {n : Int} {low : Int} {high : Int}  : betweenPSp ([V.int .i64 n, .int .i64 low, .int .i64 high]) ([]) = some (⟨.bool (inB n low high), []⟩) :=
  fam_eq (A := fun i : Int × Int × Int => [V.int .i64 i.1, .int .i64 i.2.1, .int .i64 i.2.2]) (O := fun _ : Int × Int × Int => []) (res := fun i : Int × Int × Int => ⟨.bool (inB i.1 i.2.1 i.2.2), []⟩) (by rintro ⟨a0, a1, a2⟩ ⟨b0, b1, b2⟩ h h' <;> simp at h h' <;> simp_all) (n, low, high) trivial

noncomputable def existsSp := fam (fun i : Int × Int => [V.int .i64 i.1, .int .i64 i.2]) (fun _ : Int × Int => []) (fun _ : Int × Int => True) (fun i : Int × Int => ⟨.bool (exB i.1 i.2), []⟩)
@[simp] theorem existsSp_eq {n : Int} {m : Int}  : existsSp ([V.int .i64 n, .int .i64 m]) ([]) = some (⟨.bool (exB n m), []⟩) :=
  fam_eq (A := fun i : Int × Int => [V.int .i64 i.1, .int .i64 i.2]) (O := fun _ : Int × Int => []) (res := fun i : Int × Int => ⟨.bool (exB i.1 i.2), []⟩) (by rintro ⟨a0, a1⟩ ⟨b0, b1⟩ h h' <;> simp at h h' <;> simp_all) (n, m) trivial

noncomputable def CP1 := mkC []
theorem CP1_ok : SpecsOk Tryd.prog CP1 := mkC_ok all_nil

noncomputable def zoneOfSp := fam (fun i : GConfig × Int => [vConfig i.1, .int .i64 i.2]) (fun _ : GConfig × Int => []) (fun _ : GConfig × Int => True) (fun i : GConfig × Int => ⟨.int .i64 (zoneAt i.1 i.2), []⟩)
@[simp] theorem zoneOfSp_eq {C : GConfig} {i : Int}  : zoneOfSp ([vConfig C, .int .i64 i]) ([]) = some (⟨.int .i64 (zoneAt C i), []⟩) :=
  fam_eq (A := fun i : GConfig × Int => [vConfig i.1, .int .i64 i.2]) (O := fun _ : GConfig × Int => []) (res := fun i : GConfig × Int => ⟨.int .i64 (zoneAt i.1 i.2), []⟩) (by rintro ⟨a0, a1⟩ ⟨b0, b1⟩ h h' <;> simp at h h' <;> simp_all) (C, i) trivial

theorem refzoneOf_spec : Lift.Spec Tryd.prog 89 zoneOfSp := by
  refine spec_fam (C := CP1) types_ok CP1_ok follows Tryd.func89 (by kernel_rfl) rfl (by kernel_rfl) rfl ?_
  rintro ⟨C, i⟩ _
  refine ⟨by simp, ?_⟩
  intro r hr
  rcases ex_cases i C.Cells.length with ⟨k, rfl, hk, he⟩ | he
  · obtain ⟨x, hx, hx', _⟩ := get_of_lt hk
    have h2 : ¬ C.Cells.length ≤ k := by omega
    simp [GConfig.cells, hk, hx', h2, GCell.cells]
    rw [hr]; refine ret_closed rfl ?_ rfl
    simp [zoneAt_nat hx]
  · by_cases h0 : i < 0
    · simp [GConfig.cells, h0]
      rw [hr]; refine ret_closed rfl ?_ rfl
      simp [zoneAt_out he]
    · have h1 : (C.Cells.length : Int) ≤ i := by
        unfold exB at he; simp at he; omega
      simp [GConfig.cells, h0, h1]
      rw [hr]; refine ret_closed rfl ?_ rfl
      simp [zoneAt_out he]

noncomputable def regionOfZoneSp := fam (fun i : GConfig × Int => [vConfig i.1, .int .i64 i.2]) (fun _ : GConfig × Int => []) (fun _ : GConfig × Int => True) (fun i : GConfig × Int => ⟨.int .i64 (regionZ i.1 i.2), []⟩)
@[simp] theorem regionOfZoneSp_eq {C : GConfig} {z : Int}  : regionOfZoneSp ([vConfig C, .int .i64 z]) ([]) = some (⟨.int .i64 (regionZ C z), []⟩) :=
  fam_eq (A := fun i : GConfig × Int => [vConfig i.1, .int .i64 i.2]) (O := fun _ : GConfig × Int => []) (res := fun i : GConfig × Int => ⟨.int .i64 (regionZ i.1 i.2), []⟩) (by rintro ⟨a0, a1⟩ ⟨b0, b1⟩ h h' <;> simp at h h' <;> simp_all) (C, z) trivial

noncomputable def CP2 := mkC [(89, zoneOfSp)]
theorem CP2_ok : SpecsOk Tryd.prog CP2 := mkC_ok (all_cons refzoneOf_spec all_nil)
@[simp] theorem CP2_1 : CP2 89 = zoneOfSp := rfl

noncomputable def regionOfSp := fam (fun i : GConfig × Int => [vConfig i.1, .int .i64 i.2]) (fun _ : GConfig × Int => []) (fun i : GConfig × Int => (TopoOk i.1)) (fun i : GConfig × Int => ⟨.int .i64 (regionAt i.1 i.2), []⟩)
@[simp] theorem regionOfSp_eq {C : GConfig} {i : Int} (h1 : TopoOk C) : regionOfSp ([vConfig C, .int .i64 i]) ([]) = some (⟨.int .i64 (regionAt C i), []⟩) :=
  fam_eq (A := fun i : GConfig × Int => [vConfig i.1, .int .i64 i.2]) (O := fun _ : GConfig × Int => []) (res := fun i : GConfig × Int => ⟨.int .i64 (regionAt i.1 i.2), []⟩) (by rintro ⟨a0, a1⟩ ⟨b0, b1⟩ h h' <;> simp at h h' <;> simp_all) (C, i) h1

theorem refregionOf_spec : Lift.Spec Tryd.prog 73 regionOfSp := by
  refine spec_fam (C := CP2) types_ok CP2_ok follows Tryd.func73 (by kernel_rfl) rfl (by kernel_rfl) rfl ?_
  rintro ⟨C, i⟩ h
  try simp only at h
  refine ⟨by simp, ?_⟩
  intro r hr
  rcases ex_cases i C.Cells.length with ⟨k, rfl, hk, he⟩ | he
  · obtain ⟨z, hz, hzl⟩ := h.zone hk
    obtain ⟨x, hx, hx', _⟩ := get_of_lt hzl
    simp [GConfig.cells, hz, hzl, hx', GZone.cells]
    rw [hr]; refine ret_closed rfl ?_ rfl
    simp [regionAt, hz, regionZ_nat hx]
  · simp [GConfig.cells, zoneAt_out he]
    rw [hr]; refine ret_closed rfl ?_ rfl
    simp [regionAt, zoneAt_out he, regionZ_out (exB_out (show (-1 : Int) < 0 by omega))]

noncomputable def hasSp := fam (fun i : Int × Int => [V.int .i64 i.1, .int .i64 i.2]) (fun _ : Int × Int => []) (fun _ : Int × Int => True) (fun i : Int × Int => ⟨.bool (hasB i.1 i.2), []⟩)
@[simp] theorem hasSp_eq {s : Int} {i : Int}  : hasSp ([V.int .i64 s, .int .i64 i]) ([]) = some (⟨.bool (hasB s i), []⟩) :=
  fam_eq (A := fun i : Int × Int => [V.int .i64 i.1, .int .i64 i.2]) (O := fun _ : Int × Int => []) (res := fun i : Int × Int => ⟨.bool (hasB i.1 i.2), []⟩) (by rintro ⟨a0, a1⟩ ⟨b0, b1⟩ h h' <;> simp at h h' <;> simp_all) (s, i) trivial

theorem has_spec : Lift.Spec Tryd.prog 62 hasSp := by
  refine spec_fam (C := C0) types_ok C0_ok follows Tryd.func62 (by kernel_rfl) rfl (by kernel_rfl) rfl ?_
  rintro ⟨s, i⟩ _
  refine ⟨by simp, ?_⟩
  intro r hr
  by_cases h0 : 0 ≤ i
  · by_cases h1 : i < 62
    · have w : IntKind.u64.wrap i = i := wrap_u64_in (by omega) (by omega)
      have h2 : ¬ i < 0 := by omega
      have h3 : min i.toNat 64 = i.toNat := by omega
      simp [h0, h1, w, h2, h3]
      rw [hr]; refine ret_closed rfl ?_ rfl
      simp [hasB, h0, h1, tmod_two]
    · simp [h0, h1]
      rw [hr]; refine ret_closed rfl ?_ rfl
      simp [hasB, h0, h1]
  · simp [h0]
    rw [hr]; refine ret_closed rfl ?_ rfl
    simp [hasB, h0]

noncomputable def isLostSp := fam (fun i : GConfig × Int × Int => [vConfig i.1, .int .i64 i.2.1, .int .i64 i.2.2]) (fun _ : GConfig × Int × Int => []) (fun i : GConfig × Int × Int => (TopoOk i.1)) (fun i : GConfig × Int × Int => ⟨.bool (lostZ i.1 i.2.1 i.2.2), []⟩)
@[simp] theorem isLostSp_eq {C : GConfig} {z : Int} {lost : Int} (h1 : TopoOk C) : isLostSp ([vConfig C, .int .i64 z, .int .i64 lost]) ([]) = some (⟨.bool (lostZ C z lost), []⟩) :=
  fam_eq (A := fun i : GConfig × Int × Int => [vConfig i.1, .int .i64 i.2.1, .int .i64 i.2.2]) (O := fun _ : GConfig × Int × Int => []) (res := fun i : GConfig × Int × Int => ⟨.bool (lostZ i.1 i.2.1 i.2.2), []⟩) (by rintro ⟨a0, a1, a2⟩ ⟨b0, b1, b2⟩ h h' <;> simp at h h' <;> simp_all) (C, z, lost) h1

noncomputable def CP3 := mkC [(89, zoneOfSp), (73, regionOfSp), (62, hasSp)]
theorem CP3_ok : SpecsOk Tryd.prog CP3 := mkC_ok (all_cons refzoneOf_spec (all_cons refregionOf_spec (all_cons has_spec all_nil)))
@[simp] theorem CP3_1 : CP3 89 = zoneOfSp := rfl
@[simp] theorem CP3_2 : CP3 73 = regionOfSp := rfl
@[simp] theorem CP3_3 : CP3 62 = hasSp := rfl

/-! ### Lists of cells -/
theorem push_ok {l : List Int} {n : Nat} (h : l.length ≤ n) (hn : n ≤ 16) : (l.length : Int) + 1 ≤ 140737488355328 ∧ ((l.length : Int) + 1) * 8 ≤ 140737488355328 := by omega
theorem intRow_push (l : List Int) (x : Int) : intRow (l ++ [x]) = intRow l ++ [[.int .i64 x]] := by simp [intRow]

noncomputable def inZoneSp := fam (fun i : GConfig × Int => [vConfig i.1, .int .i64 i.2]) (fun _ : GConfig × Int => []) (fun i : GConfig × Int => (TopoOk i.1)) (fun i : GConfig × Int => ⟨.sl 2 1 (intRow (inZoneL i.1 i.2)), []⟩)
@[simp] theorem inZoneSp_eq {C : GConfig} {z : Int} (h1 : TopoOk C) : inZoneSp ([vConfig C, .int .i64 z]) ([]) = some (⟨.sl 2 1 (intRow (inZoneL C z)), []⟩) :=
  fam_eq (A := fun i : GConfig × Int => [vConfig i.1, .int .i64 i.2]) (O := fun _ : GConfig × Int => []) (res := fun i : GConfig × Int => ⟨.sl 2 1 (intRow (inZoneL i.1 i.2)), []⟩) (by rintro ⟨a0, a1⟩ ⟨b0, b1⟩ h h' <;> simp at h h' <;> simp_all) (C, z) h1

def izP (C : GConfig) (z : Int) : Nat → Bool := fun k => decide (zoneAt C k = z)
def izSt (C : GConfig) (z : Int) (i : Nat) : St :=
  mkSt [(1, .int .i64 z), (2, .ptr 0 0 0), (5, .own 1 0 (idxTo (izP C z) i).length), (9, .sl 2 2 (GCell.row C.Cells)), (10, .int .i64 C.Cells.length), (11, .int .i64 i)] [(0, cfgO C), (1, intsO (idxTo (izP C z) i))] 2

theorem inZoneL_eq (C : GConfig) (z : Int) : inZoneL C z = idxTo (izP C z) C.Cells.length := rfl
end Go.Proofs.YtegjhmhhbmnljaaDoor
