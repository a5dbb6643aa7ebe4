/-
  topo: laws on all cells.
-/
import Derived.Test.YtgmmhhackiimcaaP8
namespace Go.Proofs.Ytgmmhhackiimcaa
open Go.Lift

theorem alive_at {C : GConfig} (_h : TopoOk C) {s : Int} {i : Nat} {x : Int} (hx : (aliveL C s)[i]? = some x) : ∃ k : Nat, x = (k : Int) ∧ k < C.Cells.length ∧ hasB s (regionAt C k) = false := by
  obtain ⟨k, rfl, hk, hp⟩ := idxTo_mem (List.mem_of_getElem? hx)
  refine ⟨k, rfl, hk, ?_⟩
  simpa [lostZ, regionAt] using hp
theorem has_shr {s r : Int} (h0 : 0 ≤ r) (h1 : r < 62) : (s.fdiv (2 ^ r.toNat)).tmod 2 = 0 ↔ hasB s r = false := by
  unfold hasB
  rw [tmod_two]
  simp [h0, h1]

def taSt1 (C : GConfig) (s : Int) (i : Nat) : St := mkSt [(1, .int .i64 s), (5, .ptr 0 0 0), (6, .sl 2 1 (intRow (aliveL C s))), (7, .int .i64 (aliveL C s).length), (8, .int .i64 i)] [(0, cfgO C)] 1
def taSt2 (C : GConfig) (s : Int) (i : Nat) : St := mkSt [(1, .int .i64 s), (5, .ptr 0 0 0), (7, .int .i64 ((aliveL C s).length + lsum C s i : Nat)), (9, .int .i64 i)] [(0, cfgO C)] 1

theorem law_TopoAlive : Lift.Spec Try.prog 7 (fam (fun i : (List Int) × Int => [V.sl 2 1 (intRow i.1), .int .i64 i.2]) (fun _ => []) (fun _ : (List Int) × Int => True) (fun _ => ⟨.bool true, []⟩)) := by
  refine spec_fam (C := CP8) types_ok CP8_ok follows Try.func7 (by kernel_rfl) rfl (by kernel_rfl) rfl ?_
  rintro ⟨l, lost⟩ _
  refine ⟨by simp, ?_⟩
  intro r hr
  by_cases hl : l.length ≤ 200
  · have hM := cfgOf_ok l
    have h := hM.topo
    have hz0 := made_zones h
    have hN := h.N
    have hR1 := h.R.1
    have hR3 := hM.R
    have wR : IntKind.u64.wrap (cfgOf l).Regions = (cfgOf l).Regions := wrap_u64_in (by omega) (by omega)
    have hmin : min (cfgOf l).Regions.toNat 64 = (cfgOf l).Regions.toNat := by omega
    have hRn : ¬ (cfgOf l).Regions < 0 := by omega
    obtain ⟨ρ, hρ, r2, r8⟩ := hM.rho
    have wρ : IntKind.i64.wrap ρ = ρ := wrap_i64_in (by omega) (by omega)
    have lρ : 0 < ρ := by omega
    have lρ2 : ρ ≤ 4611686018427387904 := by omega
    have a0 := Int.emod_nonneg lost (show ρ ≠ 0 by omega)
    have a1 := Int.emod_lt_of_pos lost lρ
    simp [GConfig.cells, hl, h, hz0, wR, hmin, hRn, ← hρ, wρ, lρ, lρ2]
    generalize lost % ρ = s at *
    clear hmin wR hRn wρ lρ lρ2 hρ
    have hlen : (aliveL (cfgOf l) s).length ≤ (cfgOf l).Cells.length := idxTo_len _ _
    have hsort : (aliveL (cfgOf l) s).Pairwise (· < ·) := idx_lt _ _
    refine axwp_loop (taSt1 (cfgOf l) s) (fun i => i ≤ (aliveL (cfgOf l) s).length) (fun i => (aliveL (cfgOf l) s).length - i) 0 ?_ (Nat.zero_le _) ?_
    · refine weak_at [.inr 5] ?_ ?_ ?_ ?_ <;> simp [cfgO, GConfig.cells, hz0]
    · intro i hi
      by_cases hik : i < (aliveL (cfgOf l) s).length
      · obtain ⟨x, hx, hx', _⟩ := get_of_lt hik
        obtain ⟨k, rfl, hk, hf⟩ := alive_at h hx
        obtain ⟨e0, e1⟩ := h.regionC hk
        have w4 : IntKind.i64.wrap ((i : Int) + 1) = (i : Int) + 1 := wrap_i64_in (by omega) (by omega)
        obtain ⟨ν, hν⟩ : ∃ ν, ν = regionAt (cfgOf l) k := ⟨_, rfl⟩
        rw [← hν] at e0 e1 hf
        have m1 : ¬ ν < 0 := by omega
        have w5 : IntKind.u64.wrap ν = ν := wrap_u64_in (by omega) (by omega)
        have m2 : min ν.toNat 64 = ν.toNat := by omega
        have m3 := (has_shr e0 (show ν < 62 by omega)).2 hf
        by_cases h0 : 0 < i
        · obtain ⟨j, hij⟩ : ∃ j, i = j + 1 := ⟨i - 1, by omega⟩
          have hj : j < (aliveL (cfgOf l) s).length := by omega
          obtain ⟨y, hy, hy', _⟩ := get_of_lt hj
          have hlt := pair_lt hsort hy (by rw [← hij]; exact hx)
          have hle : ¬ (k : Int) ≤ y := by omega
          have w6 : IntKind.i64.wrap ((i : Int) - 1) = (j : Int) := by rw [wrap_i64_in (by omega) (by omega)]; omega
          simp [taSt1, cfgO, GConfig.cells, hz0, hik, hx', h, ← hν, m1, w5, m2, m3, h0, w6, hj, hy', hle]
          refine ⟨⟨by kernel_rfl, by kernel_rfl⟩, ?_⟩
          refine Again.mk (i + 1) hik (by omega) ?_
          refine weak_mk id ?_ ?_ ?_ ?_ <;> simp [cfgO, GConfig.cells, hz0, w4]
        · simp [taSt1, cfgO, GConfig.cells, hz0, hik, hx', h, ← hν, m1, w5, m2, m3, h0]
          refine ⟨⟨by kernel_rfl, by kernel_rfl⟩, ?_⟩
          refine Again.mk (i + 1) hik (by omega) ?_
          refine weak_mk id ?_ ?_ ?_ ?_ <;> simp [cfgO, GConfig.cells, hz0, w4]
      · have e : i = (aliveL (cfgOf l) s).length := by omega
        subst e
        simp [taSt1, cfgO, GConfig.cells, hz0]
        refine axwp_loop (taSt2 (cfgOf l) s) (fun i => i ≤ (cfgOf l).Regions.toNat) (fun i => (cfgOf l).Regions.toNat - i) 0 ?_ (Nat.zero_le _) ?_
        · refine weak_mk id ?_ ?_ ?_ ?_ <;> simp [cfgO, GConfig.cells, hz0, lsum]
        · clear hi hik
          intro i hi
          by_cases hir : (i : Int) < (cfgOf l).Regions
          · have w4 : IntKind.i64.wrap ((i : Int) + 1) = (i : Int) + 1 := wrap_i64_in (by omega) (by omega)
            have w5 : IntKind.u64.wrap (i : Int) = (i : Int) := wrap_u64_in (by omega) (by omega)
            have m2 : min i 64 = i := by omega
            have hin : (inRegionL (cfgOf l) i).length ≤ (cfgOf l).Cells.length := idxTo_len _ _
            have hls := lsum_le (cfgOf l) s i
            have w7 : IntKind.i64.wrap ((aliveL (cfgOf l) s).length + (lsum (cfgOf l) s i + (inRegionL (cfgOf l) i).length) : Int) = (aliveL (cfgOf l) s).length + (lsum (cfgOf l) s i + (inRegionL (cfgOf l) i).length) := wrap_i64_in (by omega) (by omega)
            have m4 := has_shr (s := s) (show (0 : Int) ≤ (i : Int) by omega) (by omega)
            rw [Int.toNat_natCast] at m4
            cases hs : hasB s i with
            | true =>
              have m5 : ¬ (s.fdiv (2 ^ i)).tmod 2 = 0 := fun e => by rw [m4.1 e] at hs; cases hs
              simp [taSt2, cfgO, GConfig.cells, hz0, hir, h, w5, m2, m5]
              refine Again.mk (i + 1) (by omega) (by omega) ?_
              refine weak_mk id ?_ ?_ ?_ ?_ <;> simp [cfgO, GConfig.cells, hz0, w4, lsum, hs, w7, Int.add_assoc]
            | false =>
              have m5 := m4.2 hs
              simp [taSt2, cfgO, GConfig.cells, hz0, hir, w5, m2, m5]
              refine Again.mk (i + 1) (by omega) (by omega) ?_
              refine weak_mk id ?_ ?_ ?_ ?_ <;> simp [cfgO, GConfig.cells, hz0, w4, lsum, hs]
          · have e : i = (cfgOf l).Regions.toNat := by omega
            have hal := alive_lsum h s
            rw [← e] at hal
            have hal' : ((aliveL (cfgOf l) s).length : Int) + (lsum (cfgOf l) s i : Int) = ((cfgOf l).Cells.length : Int) := by omega
            simp [taSt2, cfgO, GConfig.cells, hz0, hir, hal']
            rw [hr]; refine ret_closed rfl ?_ rfl
            simp
  · simp [hl]
    rw [hr]; refine ret_closed rfl ?_ rfl
    simp

theorem inZone_at {C : GConfig} {z : Int} {i : Nat} {x : Int} (hx : (inZoneL C z)[i]? = some x) : ∃ k : Nat, x = (k : Int) ∧ k < C.Cells.length ∧ zoneAt C k = z := by
  obtain ⟨k, rfl, hk, hp⟩ := idxTo_mem (List.mem_of_getElem? hx)
  exact ⟨k, rfl, hk, by simpa using hp⟩
def zCnt (C : GConfig) (m : Nat) : Nat := cntTo (fun k => zoneAt C k) C.Cells.length m
def rCnt (C : GConfig) (m : Nat) : Nat := cntTo (fun k => regionAt C k) C.Cells.length m
theorem zCnt_succ (C : GConfig) (m : Nat) : zCnt C (m + 1) = zCnt C m + (inZoneL C m).length := rfl
theorem rCnt_succ (C : GConfig) (m : Nat) : rCnt C (m + 1) = rCnt C m + (inRegionL C m).length := rfl
theorem zCnt_all {C : GConfig} (h : TopoOk C) : zCnt C C.Zones.length = C.Cells.length := cntTo_eq fun k hk => by
  obtain ⟨z, hz, hzl⟩ := h.zone hk
  show 0 ≤ zoneAt C k ∧ zoneAt C k < _
  rw [hz]; omega
theorem rCnt_all {C : GConfig} (h : TopoOk C) : rCnt C C.Regions.toNat = C.Cells.length := cntTo_eq fun k hk => by
  have := h.regionC hk
  have := h.R
  show 0 ≤ regionAt C k ∧ regionAt C k < _
  omega
theorem zCnt_le (C : GConfig) (m : Nat) : zCnt C m ≤ C.Cells.length := by unfold zCnt; rw [cntTo_lt]; exact idxTo_len _ _
theorem rCnt_le (C : GConfig) (m : Nat) : rCnt C m ≤ C.Cells.length := by unfold rCnt; rw [cntTo_lt]; exact idxTo_len _ _

def tpSt1 (C : GConfig) (z : Nat) : St := mkSt [(3, .ptr 0 0 0), (4, .int .i64 (zCnt C z)), (5, .int .i64 0), (6, .int .i64 0), (7, .int .i64 z)] [(0, cfgO C)] 1
def tpSt2 (C : GConfig) (z i : Nat) : St := mkSt [(3, .ptr 0 0 0), (4, .int .i64 (zCnt C (z + 1))), (5, .int .i64 0), (6, .int .i64 0), (7, .int .i64 z), (8, .sl 2 1 (intRow (inZoneL C z))), (9, .int .i64 i)] [(0, cfgO C)] 1
def tpSt3 (C : GConfig) (r : Nat) : St := mkSt [(3, .ptr 0 0 0), (4, .int .i64 C.Cells.length), (5, .int .i64 (rCnt C r)), (6, .int .i64 (csum C C.Cells.length r)), (10, .int .i64 r)] [(0, cfgO C)] 1
def tpSt4 (C : GConfig) (i : Nat) : St := mkSt [(3, .ptr 0 0 0), (4, .int .i64 C.Cells.length), (5, .int .i64 C.Cells.length), (6, .int .i64 (ksum C C.Cells.length - ksum C i)), (11, .int .i64 i)] [(0, cfgO C)] 1

theorem law_TopoPartition : Lift.Spec Try.prog 6 (fam (fun i : List Int => [V.sl 2 1 (intRow i)]) (fun _ => []) (fun _ : List Int => True) (fun _ => ⟨.bool true, []⟩)) := by
  refine spec_fam (C := CP8) types_ok CP8_ok follows Try.func6 (by kernel_rfl) rfl (by kernel_rfl) rfl ?_
  rintro l _
  refine ⟨by simp, ?_⟩
  intro r hr
  by_cases hl : l.length ≤ 200
  · have hM := cfgOf_ok l
    have h := hM.topo
    have hz0 := made_zones h
    have hN := h.N
    have hZ := h.Z
    have hR1 := h.R.1
    have hR3 := hM.R
    simp [GConfig.cells, hl, hz0]
    refine axwp_loop (tpSt1 (cfgOf l)) (fun i => i ≤ (cfgOf l).Zones.length) (fun i => (cfgOf l).Zones.length - i) 0 ?_ (Nat.zero_le _) ?_
    · refine weak_at [.inr 3] ?_ ?_ ?_ ?_ <;> simp [cfgO, GConfig.cells, hz0, zCnt, cntTo]
    intro z hz
    by_cases hzk : z < (cfgOf l).Zones.length
    · obtain ⟨y, hy, hy', _⟩ := get_of_lt hzk
      have hyr := regionZ_nat hy
      have c1 := zCnt_le (cfgOf l) (z + 1)
      have c2 := zCnt_succ (cfgOf l) z
      have w7 : IntKind.i64.wrap ((zCnt (cfgOf l) z : Int) + ((inZoneL (cfgOf l) z).length : Int)) = (zCnt (cfgOf l) z : Int) + ((inZoneL (cfgOf l) z).length : Int) := wrap_i64_in (by omega) (by omega)
      have w8 : IntKind.i64.wrap ((z : Int) + 1) = (z : Int) + 1 := wrap_i64_in (by omega) (by omega)
      simp [tpSt1, cfgO, GConfig.cells, hz0, hzk, h]
      have hlen : (inZoneL (cfgOf l) z).length ≤ (cfgOf l).Cells.length := idxTo_len _ _
      have hsort : (inZoneL (cfgOf l) z).Pairwise (· < ·) := idx_lt _ _
      refine axwp_loop (tpSt2 (cfgOf l) z) (fun i => i ≤ (inZoneL (cfgOf l) z).length) (fun i => (inZoneL (cfgOf l) z).length - i) 0 ?_ (Nat.zero_le _) ?_
      · refine weak_mk id ?_ ?_ ?_ ?_ <;> simp [cfgO, GConfig.cells, hz0, w7, c2]
      intro i hi
      by_cases hik : i < (inZoneL (cfgOf l) z).length
      · obtain ⟨x, hx, hx', _⟩ := get_of_lt hik
        obtain ⟨k, rfl, hk, hzo⟩ := inZone_at hx
        have hre : regionAt (cfgOf l) k = y.Region := by unfold regionAt; rw [hzo, hyr]
        have w4 : IntKind.i64.wrap ((i : Int) + 1) = (i : Int) + 1 := wrap_i64_in (by omega) (by omega)
        by_cases h0 : 0 < i
        · obtain ⟨j, hij⟩ : ∃ j, i = j + 1 := ⟨i - 1, by omega⟩
          have hj : j < (inZoneL (cfgOf l) z).length := by omega
          obtain ⟨u, hu, hu', _⟩ := get_of_lt hj
          have hlt := pair_lt hsort hu (by rw [← hij]; exact hx)
          have hle : ¬ (k : Int) ≤ u := by omega
          have w6 : IntKind.i64.wrap ((i : Int) - 1) = (j : Int) := by rw [wrap_i64_in (by omega) (by omega)]; omega
          simp [tpSt2, cfgO, GConfig.cells, GZone.cells, hz0, hzk, hik, hx', hy', h, hzo, hre, h0, w6, hj, hu', hle]
          refine ⟨⟨by kernel_rfl, by kernel_rfl⟩, ?_⟩
          refine Again.mk (i + 1) hik (by omega) ?_
          refine weak_mk id ?_ ?_ ?_ ?_ <;> simp [cfgO, GConfig.cells, hz0, w4]
        · simp [tpSt2, cfgO, GConfig.cells, GZone.cells, hz0, hzk, hik, hx', hy', h, hzo, hre, h0]
          refine ⟨⟨by kernel_rfl, by kernel_rfl⟩, ?_⟩
          refine Again.mk (i + 1) hik (by omega) ?_
          refine weak_mk id ?_ ?_ ?_ ?_ <;> simp [cfgO, GConfig.cells, hz0, w4]
      · have e : i = (inZoneL (cfgOf l) z).length := by omega
        subst e
        simp [tpSt2, cfgO, GConfig.cells, hz0]
        refine Again.mk (z + 1) hzk (by omega) ?_
        refine weak_mk id ?_ ?_ ?_ ?_ <;> simp [cfgO, GConfig.cells, hz0, w8]
    · have e : z = (cfgOf l).Zones.length := by omega
      subst e
      have hza := zCnt_all h
      clear hz hzk
      simp [tpSt1, cfgO, GConfig.cells, hz0, hza]
      refine axwp_loop (tpSt3 (cfgOf l)) (fun i => i ≤ (cfgOf l).Regions.toNat) (fun i => (cfgOf l).Regions.toNat - i) 0 ?_ (Nat.zero_le _) ?_
      · refine weak_mk id ?_ ?_ ?_ ?_ <;> simp [cfgO, GConfig.cells, hz0, hza, rCnt, cntTo, csum]
      intro i hi
      by_cases hir : (i : Int) < (cfgOf l).Regions
      · have w4 : IntKind.i64.wrap ((i : Int) + 1) = (i : Int) + 1 := wrap_i64_in (by omega) (by omega)
        have c1 := rCnt_le (cfgOf l) (i + 1)
        have c2 := rCnt_succ (cfgOf l) i
        have w7 : IntKind.i64.wrap ((rCnt (cfgOf l) i : Int) + ((inRegionL (cfgOf l) i).length : Int)) = (rCnt (cfgOf l) i : Int) + ((inRegionL (cfgOf l) i).length : Int) := wrap_i64_in (by omega) (by omega)
        have c3 := csum_bound h (i + 1)
        have c4 : csum (cfgOf l) (cfgOf l).Cells.length (i + 1) = csum (cfgOf l) (cfgOf l).Cells.length i + capR (cfgOf l) i := rfl
        have w9 : IntKind.i64.wrap (csum (cfgOf l) (cfgOf l).Cells.length i + capR (cfgOf l) i) = csum (cfgOf l) (cfgOf l).Cells.length i + capR (cfgOf l) i := wrap_i64_in (by omega) (by omega)
        simp [tpSt3, cfgO, GConfig.cells, hz0, hir, h]
        refine Again.mk (i + 1) (by omega) (by omega) ?_
        refine weak_mk id ?_ ?_ ?_ ?_ <;> simp [cfgO, GConfig.cells, hz0, w4, w7, w9, c2, c4]
      · have e : i = (cfgOf l).Regions.toNat := by omega
        have hra := rCnt_all h
        rw [← e] at hra
        have hcs : csum (cfgOf l) (cfgOf l).Cells.length i = ksum (cfgOf l) (cfgOf l).Cells.length := csum_eq fun k hk => by
          have := h.regionC hk
          omega
        simp [tpSt3, cfgO, GConfig.cells, hz0, hir, hra, hcs]
        refine axwp_loop (tpSt4 (cfgOf l)) (fun i => i ≤ (cfgOf l).Cells.length) (fun i => (cfgOf l).Cells.length - i) 0 ?_ (Nat.zero_le _) ?_
        · refine weak_mk id ?_ ?_ ?_ ?_ <;> simp [cfgO, GConfig.cells, hz0, hra, hcs, ksum]
        clear hir hra hcs e hi
        intro i hi
        have b1 := ksum_bound h (cfgOf l).Cells.length (Nat.le_refl _)
        by_cases hik : i < (cfgOf l).Cells.length
        · obtain ⟨x, hx, hx', _⟩ := get_of_lt hik
          have w4 : IntKind.i64.wrap ((i : Int) + 1) = (i : Int) + 1 := wrap_i64_in (by omega) (by omega)
          have b2 := ksum_bound h (i + 1) hik
          have b3 : ksum (cfgOf l) (i + 1) = ksum (cfgOf l) i + x.Capacity := by rw [ksum, capK_nat hx]
          have b4 := ksum_bound h i (by omega)
          have w7 : IntKind.i64.wrap (ksum (cfgOf l) (cfgOf l).Cells.length - ksum (cfgOf l) i - x.Capacity) = ksum (cfgOf l) (cfgOf l).Cells.length - (ksum (cfgOf l) i + x.Capacity) := by rw [wrap_i64_in (by omega) (by omega)]; omega
          simp [tpSt4, cfgO, GConfig.cells, GCell.cells, hz0, hik, hx']
          refine Again.mk (i + 1) hik (by omega) ?_
          refine weak_mk id ?_ ?_ ?_ ?_ <;> simp [cfgO, GConfig.cells, hz0, w4, w7, b3]
        · have e : i = (cfgOf l).Cells.length := by omega
          subst e
          simp [tpSt4, cfgO, GConfig.cells, hz0]
          rw [hr]; refine ret_closed rfl ?_ rfl
          simp
  · simp [hl]
    rw [hr]; refine ret_closed rfl ?_ rfl
    simp
end Go.Proofs.Ytgmmhhackiimcaa
