/-
  make: what the configurations are like that are made.
-/
import Derived.Test.YtegjhmhhbmnljaaDoorM2
import Derived.Test.YtegjhmhhbmnljaaDoorP1
namespace Go.Proofs.YtegjhmhhbmnljaaDoor
open Go.Lift

theorem zGo_spec (L : List Int) (R : Int) (hR : R ≤ 6) : ∀ (f i j : Nat), i ≤ 6 → 7 ≤ f + i → R ≤ (zGo L R f i j).1 ∧ i ≤ (zGo L R f i j).1 ∧ (zGo L R f i j).1 ≤ 6
  | 0, i, j, h1, h2 => by omega
  | f + 1, i, j, h1, h2 => by
    rw [zGo]
    by_cases hi : (i : Int) < R
    · rw [if_pos hi]
      have := zGo_spec L R hR f (i + 1) j (by omega) (by omega)
      omega
    · rw [if_neg hi]
      by_cases hd : dr L j 3 = 0 ∧ i < 6
      · rw [if_pos hd]
        have := zGo_spec L R hR f (i + 1) (j + 1) (by omega) (by omega)
        omega
      · rw [if_neg hd]
        simp only
        omega

def CellP (m : Nat) (c : GCell) : Prop := 0 ≤ c.Zone ∧ c.Zone < m ∧ 10 ≤ c.Capacity ∧ c.Capacity ≤ 40
theorem tmod_in {i m : Nat} (hm : 0 < m) : 0 ≤ (i : Int).tmod m ∧ (i : Int).tmod m < m := by
  have e : (i : Int).tmod m = ((i % m : Nat) : Int) := rfl
  rw [e]
  have := Nat.mod_lt i hm
  omega
theorem cGo_spec (L : List Int) (m : Nat) (hm : 0 < m) (hm7 : m ≤ 7) : ∀ (f i j : Nat) (acc : List GCell), acc.length = i → i ≤ 7 → 8 ≤ f + i → (∀ c ∈ acc, CellP m c) →
    m ≤ (cGo L m f i j acc).1.length ∧ (cGo L m f i j acc).1.length ≤ 7 ∧ ∀ c ∈ (cGo L m f i j acc).1, CellP m c
  | 0, i, j, acc, h1, h2, h3, _ => by omega
  | f + 1, i, j, acc, h1, h2, h3, h4 => by
    rw [cGo]
    have hc : ∀ j', CellP m ⟨(i : Int).tmod m, (1 + dr L j' 4) * 10⟩ := by
      intro j'
      have := tmod_in (i := i) hm
      have h5 := dr_nonneg L j' (show (0 : Int) < 4 by decide)
      have h6 := dr_lt L j' (show (0 : Int) < 4 by decide)
      exact ⟨this.1, this.2, by simp only; omega, by simp only; omega⟩
    have hall : ∀ j', ∀ c ∈ acc ++ [(⟨(i : Int).tmod m, (1 + dr L j' 4) * 10⟩ : GCell)], CellP m c := by
      intro j' c hcm
      rcases List.mem_append.1 hcm with h | h
      · exact h4 c h
      · simp at h; rw [h]; exact hc j'
    by_cases hi : i < m
    · rw [if_pos hi]
      exact cGo_spec L m hm hm7 f (i + 1) (j + 1) _ (by simp [h1]) (by omega) (by omega) (hall j)
    · rw [if_neg hi]
      by_cases hd : dr L j 2 = 0 ∧ i < 7
      · rw [if_pos hd]
        exact cGo_spec L m hm hm7 f (i + 1) (j + 2) _ (by simp [h1]) (by omega) (by omega) (hall (j + 1))
      · rw [if_neg hd]
        exact ⟨by simp only; omega, by simp only; omega, h4⟩

def TenP (R : Int) (t : GTenant) : Prop := (1 ≤ t.Load ∧ t.Load ≤ 12) ∧ (0 ≤ t.Shadow ∧ t.Shadow ≤ t.Load) ∧ (0 ≤ t.Priority ∧ t.Priority ≤ 3) ∧ (-1 ≤ t.Lag ∧ t.Lag ≤ 3) ∧ (1 ≤ t.Allowed ∧ t.Allowed ≤ 2 ^ R.toNat - 1) ∧ (0 ≤ t.Group ∧ t.Group ≤ 2)
theorem two_pow_in {R : Int} (h1 : 1 ≤ R) (h3 : R ≤ 3) : (2 : Int) ≤ 2 ^ R.toNat ∧ (2 : Int) ^ R.toNat ≤ 8 := by
  obtain ⟨n, hn⟩ : ∃ n : Nat, R.toNat = n := ⟨_, rfl⟩
  rw [hn]
  have : n = 1 ∨ n = 2 ∨ n = 3 := by omega
  rcases this with rfl | rfl | rfl <;> decide
theorem tenAt_spec (L : List Int) {R : Int} (h1 : 1 ≤ R) (h3 : R ≤ 3) (j : Nat) : TenP R (tenAt L R j) := by
  obtain ⟨p1, p2⟩ := two_pow_in h1 h3
  have a0 := dr_nonneg L j (show (0 : Int) < 12 by decide)
  have a1 := dr_lt L j (show (0 : Int) < 12 by decide)
  have b0 := dr_nonneg L (j + 1) (show (0 : Int) < 1 + dr L j 12 + 1 by omega)
  have b1 := dr_lt L (j + 1) (show (0 : Int) < 1 + dr L j 12 + 1 by omega)
  have c0 := dr_nonneg L (j + 2) (show (0 : Int) < 4 by decide)
  have c1 := dr_lt L (j + 2) (show (0 : Int) < 4 by decide)
  have d0 := dr_nonneg L (j + 3) (show (0 : Int) < 5 by decide)
  have d1 := dr_lt L (j + 3) (show (0 : Int) < 5 by decide)
  have e0 := dr_nonneg L (j + 7) (show (0 : Int) < 2 ^ R.toNat - 1 by omega)
  have e1 := dr_lt L (j + 7) (show (0 : Int) < 2 ^ R.toNat - 1 by omega)
  have f0 := dr_nonneg L (j + 4) (show (0 : Int) < 3 by decide)
  have f1 := dr_lt L (j + 4) (show (0 : Int) < 3 by decide)
  unfold TenP tenAt
  simp only
  refine ⟨by omega, by omega, by omega, by omega, ?_, by omega⟩
  split <;> omega
theorem tGo_spec (L : List Int) {R : Int} (h1 : 1 ≤ R) (h3 : R ≤ 3) : ∀ (c j : Nat) (acc : List GTenant), (∀ t ∈ acc, TenP R t) → (tGo L R c j acc).1.length = acc.length + c ∧ ∀ t ∈ (tGo L R c j acc).1, TenP R t
  | 0, j, acc, h => ⟨rfl, h⟩
  | c + 1, j, acc, h => by
    rw [tGo]
    have := tGo_spec L h1 h3 c (if dr L (j + 6) 4 = 0 then j + 8 else j + 7) (acc ++ [tenAt L R j]) (by
      intro t ht
      rcases List.mem_append.1 ht with h' | h'
      · exact h t h'
      · simp at h'; rw [h']; exact tenAt_spec L h1 h3 j)
    refine ⟨?_, this.2⟩
    rw [this.1, List.length_append]; simp; omega
def VerP (v : GVersion) : Prop := 0 ≤ v.Low ∧ v.Low ≤ v.High ∧ v.High ≤ 3
theorem vGo_spec (L : List Int) : ∀ (c j : Nat) (a : GVersion) (acc : List GVersion), (∀ v ∈ a :: acc, VerP v) → (∃ l, (vGo L c j (a :: acc)).1 = a :: l ∧ l.length = acc.length + c) ∧ ∀ v ∈ (vGo L c j (a :: acc)).1, VerP v
  | 0, j, a, acc, h => ⟨⟨acc, rfl, rfl⟩, h⟩
  | c + 1, j, a, acc, h => by
    rw [vGo]
    have a0 := dr_nonneg L j (show (0 : Int) < 2 by decide)
    have a1 := dr_lt L j (show (0 : Int) < 2 by decide)
    have b0 := dr_nonneg L (j + 1) (show (0 : Int) < 3 by decide)
    have b1 := dr_lt L (j + 1) (show (0 : Int) < 3 by decide)
    have := vGo_spec L c (j + 2) a (acc ++ [⟨dr L j 2, dr L j 2 + dr L (j + 1) 3⟩]) (by
      intro v hv
      rw [← List.cons_append] at hv
      rcases List.mem_append.1 hv with h' | h'
      · exact h v h'
      · simp at h'; rw [h']; exact ⟨by simp only; omega, by simp only; omega, by simp only; omega⟩)
    obtain ⟨⟨l, e1, e2⟩, e3⟩ := this
    refine ⟨⟨l, e1, ?_⟩, e3⟩
    rw [e2, List.length_append]; simp; omega
theorem rGo_spec (L : List Int) (m : Nat) (hm : 0 < m) : ∀ (c j : Nat) (acc : List Int), (∀ z ∈ acc, 0 ≤ z ∧ z < (m : Int)) → (rGo L m c j acc).1.length = acc.length + c ∧ ∀ z ∈ (rGo L m c j acc).1, 0 ≤ z ∧ z < (m : Int)
  | 0, j, acc, h => ⟨rfl, h⟩
  | c + 1, j, acc, h => by
    rw [rGo]
    have a0 := dr_nonneg L j (show (0 : Int) < m by omega)
    have a1 := dr_lt L j (show (0 : Int) < m by omega)
    have := rGo_spec L m hm c (j + 1) (acc ++ [dr L j m]) (by
      intro z hz
      rcases List.mem_append.1 hz with h' | h'
      · exact h z h'
      · simp at h'; rw [h']; exact ⟨a0, a1⟩)
    refine ⟨?_, this.2⟩
    rw [this.1, List.length_append]; simp; omega

/-- What is known of a configuration that is made. -/
structure MadeOk (C : GConfig) : Prop where
  topo : TopoOk C
  R : C.Regions ≤ 3
  Z : C.Zones.length ≤ 6
  RZ : C.Regions ≤ C.Zones.length
  N : C.Cells.length ≤ 7
  ZN : C.Zones.length ≤ C.Cells.length
  T : C.Tenants.length ≤ 5
  V : C.Versions.length ≤ 3
  P : C.Replicas.length ≤ 3
  O : C.Observers.length ≤ 4
  cap : ∀ c ∈ C.Cells, 10 ≤ c.Capacity ∧ c.Capacity ≤ 40
  ten : ∀ t ∈ C.Tenants, TenP C.Regions t
  blast : C.Blast ≤ 3
  lease : 2 ≤ C.Lease ∧ C.Lease ≤ 12
  bake : C.Bake ≤ 8

theorem hd_spec (L : List Int) : 1 ≤ (hd L).Regions ∧ (hd L).Regions ≤ 3 ∧ 1 ≤ (hd L).Blast ∧ (hd L).Blast ≤ 3 ∧ 2 ≤ (hd L).Lease ∧ (hd L).Lease ≤ 12 ∧ 0 ≤ (hd L).Bake ∧ (hd L).Bake ≤ 8 := by
  have a0 := dr_nonneg L 0 (show (0 : Int) < 5 by decide)
  have b0 := dr_nonneg L 1 (show (0 : Int) < 3 by decide)
  have b1 := dr_lt L 1 (show (0 : Int) < 3 by decide)
  have c0 := dr_nonneg L 2 (show (0 : Int) < 11 by decide)
  have c1 := dr_lt L 2 (show (0 : Int) < 11 by decide)
  have d0 := dr_nonneg L 3 (show (0 : Int) < 9 by decide)
  have d1 := dr_lt L 3 (show (0 : Int) < 9 by decide)
  simp only [hd]
  omega

theorem cfgOf_ok (L : List Int) : MadeOk (cfgOf L) := by
  rw [cfgOf_eq, cfgOf0_eq]
  obtain ⟨r1, r3, b1, b3, l2, l12, k0, k8⟩ := hd_spec L
  have hz := zGo_spec L (hd L).Regions (by omega) 7 0 4 (by omega) (by omega)
  obtain ⟨⟨m, j1⟩, hzz⟩ : ∃ z, zGo L (hd L).Regions 7 0 4 = z := ⟨_, rfl⟩
  rw [hzz] at hz ⊢
  simp only at hz
  rw [cfgA_mk]
  have hm0 : 0 < m := by omega
  have hc := cGo_spec L m hm0 (by omega) 8 0 j1 [] rfl (by omega) (by omega) (by simp)
  obtain ⟨⟨cs, j2⟩, hcc⟩ : ∃ z, cGo L m 8 0 j1 [] = z := ⟨_, rfl⟩
  rw [hcc] at hc ⊢
  simp only at hc
  rw [cfgB_mk]
  have e0 := dr_nonneg L j2 (show (0 : Int) < 6 by decide)
  have e1 := dr_lt L j2 (show (0 : Int) < 6 by decide)
  have ht := tGo_spec L r1 r3 (dr L j2 6).toNat (j2 + 1) [] (by simp)
  obtain ⟨⟨ts, j3⟩, htt⟩ : ∃ z, tGo L (hd L).Regions (dr L j2 6).toNat (j2 + 1) [] = z := ⟨_, rfl⟩
  rw [htt] at ht ⊢
  simp only [List.length_nil] at ht
  rw [cfgC_mk]
  have f0 := dr_nonneg L j3 (show (0 : Int) < 3 by decide)
  have f1 := dr_lt L j3 (show (0 : Int) < 3 by decide)
  have g0 := dr_nonneg L (j3 + 1) (show (0 : Int) < 3 by decide)
  have g1 := dr_lt L (j3 + 1) (show (0 : Int) < 3 by decide)
  have hv := vGo_spec L (dr L (j3 + 1) 3).toNat (j3 + 2) ⟨0, dr L j3 3⟩ [] (by
    intro v hv
    simp at hv
    rw [hv]; exact ⟨by simp only; omega, by simp only; omega, by simp only; omega⟩)
  obtain ⟨⟨vs, j4⟩, hvv⟩ : ∃ z, vGo L (dr L (j3 + 1) 3).toNat (j3 + 2) [⟨0, dr L j3 3⟩] = z := ⟨_, rfl⟩
  rw [hvv] at hv ⊢
  simp only [List.length_nil] at hv
  obtain ⟨⟨vl, hv1, hv2⟩, hv3⟩ := hv
  rw [cfgD_mk]
  have i0 := dr_nonneg L j4 (show (0 : Int) < 2 by decide)
  have i1 := dr_lt L j4 (show (0 : Int) < 2 by decide)
  have hp := rGo_spec L m hm0 (2 * dr L j4 2 + 1).toNat (j4 + 1) [] (by simp)
  obtain ⟨⟨rs, j5⟩, hpp⟩ : ∃ z, rGo L m (2 * dr L j4 2 + 1).toNat (j4 + 1) [] = z := ⟨_, rfl⟩
  rw [hpp] at hp ⊢
  simp only [List.length_nil] at hp
  rw [cfgE_mk]
  have o0 := dr_nonneg L j5 (show (0 : Int) < 4 by decide)
  have o1 := dr_lt L j5 (show (0 : Int) < 4 by decide)
  have ho := rGo_spec L m hm0 (1 + dr L j5 4).toNat (j5 + 1) [] (by simp)
  obtain ⟨⟨os, j6⟩, hoo⟩ : ∃ z, rGo L m (1 + dr L j5 4).toNat (j5 + 1) [] = z := ⟨_, rfl⟩
  rw [hoo] at ho ⊢
  simp only [List.length_nil] at ho
  rw [cfgF_mk]
  have hzl : (zonesTo (hd L).Regions m).length = m := by simp [zonesTo]
  have hvl : vs.length = vl.length + 1 := by rw [hv1]; rfl
  have hzr : ∀ z ∈ zonesTo (hd L).Regions m, 0 ≤ z.Region ∧ z.Region < (hd L).Regions := by
    intro z hz
    simp only [zonesTo, List.mem_map, List.mem_range] at hz
    obtain ⟨k, hk, rfl⟩ := hz
    obtain ⟨n, hn⟩ : ∃ n : Nat, (hd L).Regions = (n : Int) := ⟨(hd L).Regions.toNat, by omega⟩
    rw [hn]
    exact tmod_in (by omega)
  exact {
    topo := {
      R := ⟨r1, by simp only; omega⟩, Z := by simp only [hzl]; omega, N := by simp only; omega, V := by simp only; omega, P := by simp only; omega, O := by simp only; omega, T := by simp only; omega
      odd := by simp only; omega, zr := hzr, cz := fun c hcm => by simp only [hzl]; exact ⟨(hc.2.2 c hcm).1, (hc.2.2 c hcm).2.1⟩, cc := fun c hcm => by have := hc.2.2 c hcm; unfold CellP at this; omega
      pz := by simp only [hzl]; exact hp.2, oz := by simp only [hzl]; exact ho.2, vv := fun v hvm => by have := hv3 v hvm; unfold VerP at this; omega, v0 := by simp only [hv1]; rfl
      blast := ⟨b1, by simp only; omega⟩, lease := ⟨by simp only; omega, by simp only; omega⟩, bake := ⟨k0, by simp only; omega⟩ }
    R := r3, Z := by simp only [hzl]; omega, RZ := by simp only [hzl]; omega, N := hc.2.1, ZN := by simp only [hzl]; exact hc.1, T := by simp only; omega, V := by simp only; omega, P := by simp only; omega, O := by simp only; omega
    cap := fun c hcm => ⟨(hc.2.2 c hcm).2.2.1, (hc.2.2 c hcm).2.2.2⟩, ten := ht.2, blast := b3, lease := ⟨l2, l12⟩, bake := k8 }
end Go.Proofs.YtegjhmhhbmnljaaDoor
