/-
  topo: which configurations are valid, by the reference.
-/
import Derived.Test.YtccmghkfofmedaaP3
namespace Go.Proofs.Ytccmghkfofmedaa
open Go.Lift

/-- A bool that all elements ahead of a place have kept. -/
def KeptTo {α : Type} (g : Bool) (p : α → Bool) (l : List α) (i : Nat) (b : Bool) : Prop := b = (g && (l.take i).all p)
theorem KeptTo.zero {α : Type} (g : Bool) (p : α → Bool) (l : List α) : KeptTo g p l 0 g := by simp [KeptTo]
theorem KeptTo.succ {α : Type} {g : Bool} {p : α → Bool} {l : List α} {i : Nat} {b : Bool} {x : α} (h : KeptTo g p l i b) (hx : l[i]? = some x) : KeptTo g p l (i + 1) (b && p x) := by
  unfold KeptTo at *
  rw [List.take_add_one, hx, h, List.all_append]; simp [Bool.and_assoc]
theorem KeptTo.whole {α : Type} {g : Bool} {p : α → Bool} {l : List α} {b : Bool} (h : KeptTo g p l l.length b) : b = (g && l.all p) := by unfold KeptTo at h; rwa [List.take_length] at h

def g0B (C : GConfig) : Bool := decide (C.Replicas.length % 2 = 1) && (standB C C.Replicas && (standB C C.Observers && (inB C.Blast 1 16 && (inB C.Lease 1 1000 && (inB C.Bake 0 10000 && decide (low0 C.Versions = 0))))))
def zP (C : GConfig) (z : GZone) : Bool := exB z.Region C.Regions
def cP (C : GConfig) (c : GCell) : Bool := exB c.Zone C.Zones.length && inB c.Capacity 1 4194304
def vr1 (C : GConfig) (i : Nat × Bool) : St := mkSt [(1, .ptr 0 0 0), (3, .bool i.2), (4, .int .i64 i.1)] [(0, cfgO C)] 1
def vr2 (C : GConfig) (i : Nat × Bool) : St := mkSt [(1, .ptr 0 0 0), (3, .bool i.2), (5, .int .i64 i.1)] [(0, cfgO C)] 1
def vr3 (C : GConfig) (i : Nat × Bool) : St := mkSt [(1, .ptr 0 0 0), (3, .bool i.2), (6, .int .i64 i.1)] [(0, cfgO C)] 1

theorem validT_good {C : GConfig} (h1 : limitsB C = true) {b : Bool} (hb : b = ((((g0B C && C.Zones.all (zP C)) && C.Cells.all (cP C)) && C.Versions.all versionB))) : validT C = if b = true then 0 else 1 := by
  rw [validT_eq, if_pos h1]
  have : (decide (C.Replicas.length % 2 = 1) && (zonesFitB C && (cellsFitB C && (standB C C.Replicas && (standB C C.Observers && (versionsFitB C.Versions && boundsB C)))))) = b := by
    rw [hb]
    have e1 : C.Zones.all (zP C) = zonesFitB C := rfl
    have e2 : C.Cells.all (cP C) = cellsFitB C := rfl
    rw [e1, e2]
    unfold g0B versionsFitB boundsB
    generalize zonesFitB C = a
    generalize cellsFitB C = b
    generalize standB C C.Replicas = c
    generalize standB C C.Observers = d
    generalize C.Versions.all versionB = e
    generalize decide (low0 C.Versions = 0) = f
    generalize inB C.Blast 1 16 = g
    generalize inB C.Lease 1 1000 = h
    generalize inB C.Bake 0 10000 = i
    generalize decide (C.Replicas.length % 2 = 1) = j
    clear h1 hb e1 e2
    revert a b c d e f g h i j
    decide
  rw [this]

theorem refvalid_spec : Lift.Spec Try.prog 42 validTSp := by
  refine spec_fam (C := CP5) types_ok CP5_ok follows Try.func42 (by kernel_rfl) rfl (by kernel_rfl) rfl ?_
  rintro o h
  try simp only at h
  refine ⟨by simp, ?_⟩
  intro r hr
  rcases o with _ | C
  · simp [cfgZ, zeroV]
    rw [hr]; refine ret_closed rfl ?_ rfl
    simp [validZ]
  have hr : r = ⟨.int .i64 (validT C), []⟩ := hr
  replace h : Lens C := h
  show axwp _ _ _ _ _ (initSt [vConfig C] [])
  have hZ : C.Zones.length ≤ 1000 := h.1
  have hN : C.Cells.length ≤ 1000 := h.2.1
  have hP : C.Replicas.length ≤ 1000 := h.2.2.2.2.1
  have hO : C.Observers.length ≤ 1000 := h.2.2.2.2.2
  have hV : C.Versions.length ≤ 1000 := h.2.2.2.1
  cases h1 : limitsB C with
  | false =>
    simp [GConfig.cells, h1]
    rw [hr]; refine ret_closed rfl ?_ rfl
    simp [validT_lim h1]
  | true =>
    have hlim := h1
    simp only [limitsB, Bool.and_eq_true, inB_iff, decide_eq_true_eq] at hlim
    have hR := hlim.1
    have hV0 : 0 < C.Versions.length := by omega
    obtain ⟨v0, hv0, hv0', _⟩ := get_of_lt hV0
    have hlow := low0_at hv0
    obtain ⟨m, hm⟩ : ∃ m, m = C.Replicas.length % 2 := ⟨_, rfl⟩
    have e1 : ((C.Replicas.length : Int)).tmod 2 = (m : Int) := by rw [hm]; rfl
    apply viaK
    · by_cases hm1 : ¬ m = 1
      · have hg : g0B C = false := by simp only [g0B, ← hm, decide_eq_false hm1, Bool.false_and]
        have hm1' : ¬ (m : Int) = 1 := by omega
        intro key
        simp [GConfig.cells, h1, e1, hm1']
        refine wpL_weak (st0 := vr1 C (0, g0B C)) ?_ key
        refine weak_mk id ?_ ?_ ?_ ?_ <;> simp [cfgO, GConfig.cells, hg]
      replace hm1 : m = 1 := by omega
      have hm1' : (m : Int) = 1 := by omega
      have hmd : decide (C.Replicas.length % 2 = 1) = true := decide_eq_true (hm.symm.trans hm1)
      cases h2 : standB C C.Replicas
      · have hg : g0B C = false := by simp only [g0B, h2, Bool.false_and, Bool.and_false]
        intro key
        simp [GConfig.cells, h1, e1, hm1', h, h2, hP]
        refine wpL_weak (st0 := vr1 C (0, g0B C)) ?_ key
        refine weak_mk id ?_ ?_ ?_ ?_ <;> simp [cfgO, GConfig.cells, hg]
      cases h3 : standB C C.Observers
      · have hg : g0B C = false := by simp only [g0B, h3, Bool.false_and, Bool.and_false]
        intro key
        simp [GConfig.cells, h1, e1, hm1', h, h2, h3, hP, hO]
        refine wpL_weak (st0 := vr1 C (0, g0B C)) ?_ key
        refine weak_mk id ?_ ?_ ?_ ?_ <;> simp [cfgO, GConfig.cells, hg]
      cases h4 : inB C.Blast 1 16
      · have hg : g0B C = false := by simp only [g0B, h4, Bool.false_and, Bool.and_false]
        intro key
        simp [GConfig.cells, h1, e1, hm1', h, h2, h3, h4, hP, hO]
        refine wpL_weak (st0 := vr1 C (0, g0B C)) ?_ key
        refine weak_mk id ?_ ?_ ?_ ?_ <;> simp [cfgO, GConfig.cells, hg]
      cases h5 : inB C.Lease 1 1000
      · have hg : g0B C = false := by simp only [g0B, h5, Bool.false_and, Bool.and_false]
        intro key
        simp [GConfig.cells, h1, e1, hm1', h, h2, h3, h4, h5, hP, hO]
        refine wpL_weak (st0 := vr1 C (0, g0B C)) ?_ key
        refine weak_mk id ?_ ?_ ?_ ?_ <;> simp [cfgO, GConfig.cells, hg]
      cases h6 : inB C.Bake 0 10000
      · have hg : g0B C = false := by simp only [g0B, h6, Bool.false_and, Bool.and_false]
        intro key
        simp [GConfig.cells, h1, e1, hm1', h, h2, h3, h4, h5, h6, hP, hO]
        refine wpL_weak (st0 := vr1 C (0, g0B C)) ?_ key
        refine weak_mk id ?_ ?_ ?_ ?_ <;> simp [cfgO, GConfig.cells, hg]
      have hg : g0B C = decide (v0.Low = 0) := by simp only [g0B, hmd, h2, h3, h4, h5, h6, hlow, Bool.true_and]
      intro key
      simp [GConfig.cells, h1, e1, hm1', h, h2, h3, h4, h5, h6, hP, hO, hV0, hv0', GVersion.cells]
      refine wpL_weak (st0 := vr1 C (0, g0B C)) ?_ key
      refine weak_mk id ?_ ?_ ?_ ?_ <;> simp [cfgO, GConfig.cells, hg]
    have w5 : IntKind.i64.wrap (C.Regions - 1) = C.Regions - 1 := wrap_i64_in (by omega) (by omega)
    have w6 : IntKind.i64.wrap ((C.Zones.length : Int) - 1) = (C.Zones.length : Int) - 1 := wrap_i64_in (by omega) (by omega)
    have fin := fun {b : Bool} => validT_good (b := b) h1
    generalize g0B C = g0 at *
    clear hlow hv0 hv0' e1 hm hlim
    refine axwp_loop (vr1 C) (fun i => i.1 ≤ C.Zones.length ∧ KeptTo g0 (zP C) C.Zones i.1 i.2) (fun i => C.Zones.length - i.1) (0, g0) (Weak.refl _ _) ⟨Nat.zero_le _, KeptTo.zero _ _ _⟩ ?_
    rintro ⟨i, b⟩ ⟨hi, hk⟩
    simp only at hi hk
    by_cases hik : i < C.Zones.length
    · obtain ⟨x, hx, hx', _⟩ := get_of_lt hik
      have w4 : IntKind.i64.wrap ((i : Int) + 1) = (i : Int) + 1 := wrap_i64_in (by omega) (by omega)
      have hs := hk.succ hx
      cases b with
      | true =>
        simp [vr1, cfgO, GConfig.cells, hik, hx', GZone.cells, w5, inB_sub]
        refine ⟨⟨by kernel_rfl, by kernel_rfl⟩, ?_⟩
        refine Again.mk (i + 1, true && zP C x) ⟨hik, hs⟩ (by show C.Zones.length - (i + 1) < C.Zones.length - i; omega) ?_
        refine weak_mk id ?_ ?_ ?_ ?_ <;> simp [cfgO, GConfig.cells, w4, zP]
      | false =>
        simp [vr1, cfgO, GConfig.cells, hik]
        refine ⟨⟨by kernel_rfl, by kernel_rfl⟩, ?_⟩
        refine Again.mk (i + 1, false && zP C x) ⟨hik, hs⟩ (by show C.Zones.length - (i + 1) < C.Zones.length - i; omega) ?_
        refine weak_mk id ?_ ?_ ?_ ?_ <;> simp [cfgO, GConfig.cells, w4]
    have e : i = C.Zones.length := by omega
    subst e
    replace hk := hk.whole
    simp [vr1, cfgO, GConfig.cells]
    rw [← hk] at fin
    refine axwp_loop (vr2 C) (fun i => i.1 ≤ C.Cells.length ∧ KeptTo b (cP C) C.Cells i.1 i.2) (fun i => C.Cells.length - i.1) (0, b) ?_ ⟨Nat.zero_le _, KeptTo.zero _ _ _⟩ ?_
    · refine weak_mk id ?_ ?_ ?_ ?_ <;> simp [cfgO, GConfig.cells]
    clear hi hik hk
    rintro ⟨i, b2⟩ ⟨hi, hk⟩
    simp only at hi hk
    by_cases hik : i < C.Cells.length
    · obtain ⟨x, hx, hx', _⟩ := get_of_lt hik
      have w4 : IntKind.i64.wrap ((i : Int) + 1) = (i : Int) + 1 := wrap_i64_in (by omega) (by omega)
      have hs := hk.succ hx
      cases b2 with
      | true =>
        cases he : exB x.Zone C.Zones.length with
        | true =>
          simp [vr2, cfgO, GConfig.cells, hik, hx', GCell.cells, w6, inB_sub, he]
          refine ⟨⟨by kernel_rfl, by kernel_rfl⟩, ?_⟩
          refine Again.mk (i + 1, true && cP C x) ⟨hik, hs⟩ (by show C.Cells.length - (i + 1) < C.Cells.length - i; omega) ?_
          refine weak_mk id ?_ ?_ ?_ ?_ <;> simp [cfgO, GConfig.cells, w4, cP, he]
        | false =>
          simp [vr2, cfgO, GConfig.cells, hik, hx', GCell.cells, w6, inB_sub, he]
          refine ⟨⟨by kernel_rfl, by kernel_rfl⟩, ?_⟩
          refine Again.mk (i + 1, true && cP C x) ⟨hik, hs⟩ (by show C.Cells.length - (i + 1) < C.Cells.length - i; omega) ?_
          refine weak_mk id ?_ ?_ ?_ ?_ <;> simp [cfgO, GConfig.cells, w4, cP, he]
      | false =>
        simp [vr2, cfgO, GConfig.cells, hik]
        refine ⟨⟨by kernel_rfl, by kernel_rfl⟩, ?_⟩
        refine Again.mk (i + 1, false && cP C x) ⟨hik, hs⟩ (by show C.Cells.length - (i + 1) < C.Cells.length - i; omega) ?_
        refine weak_mk id ?_ ?_ ?_ ?_ <;> simp [cfgO, GConfig.cells, w4]
    have e : i = C.Cells.length := by omega
    subst e
    replace hk := hk.whole
    simp [vr2, cfgO, GConfig.cells]
    rw [← hk] at fin
    refine axwp_loop (vr3 C) (fun i => i.1 ≤ C.Versions.length ∧ KeptTo b2 versionB C.Versions i.1 i.2) (fun i => C.Versions.length - i.1) (0, b2) ?_ ⟨Nat.zero_le _, KeptTo.zero _ _ _⟩ ?_
    · refine weak_mk id ?_ ?_ ?_ ?_ <;> simp [cfgO, GConfig.cells]
    clear hi hik hk
    rintro ⟨i, b3⟩ ⟨hi, hk⟩
    simp only at hi hk
    by_cases hik : i < C.Versions.length
    · obtain ⟨x, hx, hx', _⟩ := get_of_lt hik
      have w4 : IntKind.i64.wrap ((i : Int) + 1) = (i : Int) + 1 := wrap_i64_in (by omega) (by omega)
      have hs := hk.succ hx
      cases b3 with
      | true =>
        cases he : inB x.Low 0 x.High with
        | true =>
          simp [vr3, cfgO, GConfig.cells, hik, hx', GVersion.cells, he]
          refine ⟨⟨by kernel_rfl, by kernel_rfl⟩, ?_⟩
          refine Again.mk (i + 1, true && versionB x) ⟨hik, hs⟩ (by show C.Versions.length - (i + 1) < C.Versions.length - i; omega) ?_
          refine weak_mk id ?_ ?_ ?_ ?_ <;> simp [cfgO, GConfig.cells, w4, versionB, he]
        | false =>
          simp [vr3, cfgO, GConfig.cells, hik, hx', GVersion.cells, he]
          refine ⟨⟨by kernel_rfl, by kernel_rfl⟩, ?_⟩
          refine Again.mk (i + 1, true && versionB x) ⟨hik, hs⟩ (by show C.Versions.length - (i + 1) < C.Versions.length - i; omega) ?_
          refine weak_mk id ?_ ?_ ?_ ?_ <;> simp [cfgO, GConfig.cells, w4, versionB, he]
      | false =>
        simp [vr3, cfgO, GConfig.cells, hik]
        refine ⟨⟨by kernel_rfl, by kernel_rfl⟩, ?_⟩
        refine Again.mk (i + 1, false && versionB x) ⟨hik, hs⟩ (by show C.Versions.length - (i + 1) < C.Versions.length - i; omega) ?_
        refine weak_mk id ?_ ?_ ?_ ?_ <;> simp [cfgO, GConfig.cells, w4]
    have e : i = C.Versions.length := by omega
    subst e
    have hv := fin hk.whole
    cases b3 with
    | true =>
      simp [vr3, cfgO, GConfig.cells]
      rw [hr]; refine ret_closed rfl ?_ rfl
      simp [hv]
    | false =>
      simp [vr3, cfgO, GConfig.cells]
      rw [hr]; refine ret_closed rfl ?_ rfl
      simp [hv]
end Go.Proofs.Ytccmghkfofmedaa
