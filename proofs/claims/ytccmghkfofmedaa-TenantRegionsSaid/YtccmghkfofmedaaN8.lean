/-
  tenant: laws with loops.
-/
import Derived.Test.YtccmghkfofmedaaN7
namespace Go.Proofs.Ytccmghkfofmedaa
open Go.Lift

/-! ### Apart -/
theorem standbys_at {C : GConfig} {t a : Int} {i : Nat} {x : Int} (hx : (standbysL C t a)[i]? = some x) : mayB C t x = true ∧ apartB C a x = true := by
  obtain ⟨k, rfl, hk, hp⟩ := idxTo_mem (List.mem_of_getElem? hx)
  simp only [sbP, Bool.and_eq_true] at hp
  exact ⟨hp.1, by rw [apart_comm]; exact hp.2⟩
theorem apart_self (C : GConfig) (a : Int) : apartB C a a = false := by simp [apartB]
def apSt5 (C : GConfig) (t a b : Int) (L : List Int) (i : Nat) : St := mkSt [(1, .int .i64 t), (2, .int .i64 a), (3, .int .i64 b), (9, .ptr 0 0 0), (10, .sl 2 1 (intRow L)), (11, .int .i64 i)] [(0, cfgO C)] 1

theorem law_TenantApart : Lift.Spec Try.prog 7 (fam (fun i : (List Int) × Int × Int × Int => [V.sl 2 1 (intRow i.1), .int .i64 i.2.1, .int .i64 i.2.2.1, .int .i64 i.2.2.2]) (fun _ => []) (fun _ : (List Int) × Int × Int × Int => True) (fun _ => ⟨.bool true, []⟩)) := by
  refine spec_fam (C := CN8) types_ok CN8_ok follows Try.func7 (by kernel_rfl) rfl (by kernel_rfl) rfl ?_
  rintro ⟨l, t, a, b⟩ _
  refine ⟨by simp, ?_⟩
  intro r hr
  by_cases hl : l.length ≤ 200
  · have h := (cfgOf_ok l).topo
    have hz0 := made_zones h
    have hN := h.N
    simp [GConfig.cells, hl, h, hz0]
    generalize -1 + t % 7 = t at *
    generalize -1 + a % 10 = a at *
    generalize -1 + b % 10 = b at *
    have hlen : (standbysL (cfgOf l) t a).length ≤ (cfgOf l).Cells.length := idxTo_len _ _
    have hsort : (standbysL (cfgOf l) t a).Pairwise (· < ·) := idx_lt _ _
    have hall := fun {i : Nat} {x : Int} => standbys_at (C := cfgOf l) (t := t) (a := a) (i := i) (x := x)
    generalize standbysL (cfgOf l) t a = L at *
    refine axwp_loop (apSt5 (cfgOf l) t a b L) (fun i => i ≤ L.length) (fun i => L.length - i) 0 ?_ (Nat.zero_le _) ?_
    · refine weak_at [.inr 9] ?_ ?_ ?_ ?_ <;> simp [cfgO, GConfig.cells, hz0]
    · intro i hi
      by_cases hik : i < L.length
      · obtain ⟨x, hx, hx', _⟩ := get_of_lt hik
        obtain ⟨m1, m2⟩ := hall hx
        have w4 : IntKind.i64.wrap ((i : Int) + 1) = (i : Int) + 1 := wrap_i64_in (by omega) (by omega)
        by_cases h0 : 0 < i
        · obtain ⟨j, hij⟩ : ∃ j, i = j + 1 := ⟨i - 1, by omega⟩
          have hj : j < L.length := by omega
          obtain ⟨y, hy, hy', _⟩ := get_of_lt hj
          have hlt := pair_lt hsort hy (by rw [← hij]; exact hx)
          have hle : ¬ x ≤ y := by omega
          have w6 : IntKind.i64.wrap ((i : Int) - 1) = (j : Int) := by rw [wrap_i64_in (by omega) (by omega)]; omega
          simp [apSt5, cfgO, GConfig.cells, hz0, hik, hx', h, m1, m2, h0, w6, hj, hy', hle]
          refine ⟨⟨by kernel_rfl, by kernel_rfl⟩, ?_⟩
          refine Again.mk (i + 1) hik (by omega) ?_
          refine weak_mk id ?_ ?_ ?_ ?_ <;> simp [cfgO, GConfig.cells, hz0, w4]
        · simp [apSt5, cfgO, GConfig.cells, hz0, hik, hx', h, m1, m2, h0]
          refine ⟨⟨by kernel_rfl, by kernel_rfl⟩, ?_⟩
          refine Again.mk (i + 1) hik (by omega) ?_
          refine weak_mk id ?_ ?_ ?_ ?_ <;> simp [cfgO, GConfig.cells, hz0, w4]
      · have e : i = L.length := by omega
        subst e
        have hc := apart_comm (cfgOf l) b a
        have hs := apart_self (cfgOf l) a
        by_cases ra : 0 ≤ regionAt (cfgOf l) a
        · by_cases rb : 0 ≤ regionAt (cfgOf l) b
          · by_cases rab : regionAt (cfgOf l) a = regionAt (cfgOf l) b
            · have hf : apartB (cfgOf l) a b = false := by simp [apartB, rab]
              simp [apSt5, cfgO, GConfig.cells, hz0, h, hc, hs, hf, rb, rab]
              refine ⟨⟨by kernel_rfl, by kernel_rfl⟩, ?_⟩
              rw [hr]; refine ret_closed rfl ?_ rfl
              simp
            · have hf : apartB (cfgOf l) a b = true := by simp [apartB, ra, rb, rab]
              simp [apSt5, cfgO, GConfig.cells, hz0, h, hc, hs, hf, ra, rb, rab]
              refine ⟨⟨by kernel_rfl, by kernel_rfl⟩, ?_⟩
              rw [hr]; refine ret_closed rfl ?_ rfl
              simp
          · have hf : apartB (cfgOf l) a b = false := by simp [apartB, rb]
            simp [apSt5, cfgO, GConfig.cells, hz0, h, hc, hs, hf, ra, rb]
            refine ⟨⟨by kernel_rfl, by kernel_rfl⟩, ?_⟩
            rw [hr]; refine ret_closed rfl ?_ rfl
            simp
        · have hf : apartB (cfgOf l) a b = false := by simp [apartB, ra]
          simp [apSt5, cfgO, GConfig.cells, hz0, h, hc, hs, hf, ra]
          refine ⟨⟨by kernel_rfl, by kernel_rfl⟩, ?_⟩
          rw [hr]; refine ret_closed rfl ?_ rfl
          simp
  · simp [hl]
    rw [hr]; refine ret_closed rfl ?_ rfl
    simp

/-! ### The homes of a tenant by its regions -/
theorem homes_lsum {C : GConfig} (h : TopoOk C) {k : Nat} {x : GTenant} (hx : C.Tenants[k]? = some x) : (homesL C k).length = lsum C x.Allowed C.Regions.toNat := by
  have hR := h.R
  rw [lsum_lt]
  unfold homesL
  congr 1
  refine idxTo_congr fun j hj => ?_
  have hr := h.regionC hj
  rw [show hoP C k j = hasB x.Allowed (regionAt C j) from mayB_at hx j]
  have : decide (0 ≤ regionAt C j ∧ regionAt C j < ((C.Regions.toNat : Nat) : Int)) = true := decide_eq_true (by omega)
  rw [this, Bool.and_true]
theorem homes_none {C : GConfig} (h : C.Tenants.length = 0) (t : Int) : homesL C t = [] := by
  have : ∀ n, idxTo (hoP C t) n = [] := by
    intro n
    induction n with
    | zero => rfl
    | succ n ih =>
      rw [idxTo_f (mayB_out (by unfold exB; simp [h]) _)]; exact ih
  exact this _
def trSt5 (C : GConfig) (k : Nat) (A : Int) (i : Nat) : St := mkSt [(1, .int .i64 k), (5, .ptr 0 0 0), (6, .int .i64 (lsum C A i : Nat)), (7, .int .i64 i)] [(0, cfgO C)] 1
theorem law_TenantRegions : Lift.Spec Try.prog 9 (fam (fun i : (List Int) × Int => [V.sl 2 1 (intRow i.1), .int .i64 i.2]) (fun _ => []) (fun _ : (List Int) × Int => True) (fun _ => ⟨.bool true, []⟩)) := by
  refine spec_fam (C := CN8) types_ok CN8_ok follows Try.func9 (by kernel_rfl) rfl (by kernel_rfl) rfl ?_
  rintro ⟨l, t⟩ _
  refine ⟨by simp, ?_⟩
  intro r hr
  by_cases hl : l.length ≤ 200
  · have hM := cfgOf_ok l
    have h := hM.topo
    have hz0 := made_zones h
    have hN := h.N
    have hR1 := h.R.1
    have hR3 := hM.R
    have hT := hM.T
    by_cases h0 : (cfgOf l).Tenants.length = 0
    · have hh := homes_none h0 0
      have h0' : (cfgOf l).Tenants = [] := List.eq_nil_of_length_eq_zero h0
      simp [GConfig.cells, hl, h, hz0, eq_true h0', hh]
      rw [hr]; refine ret_closed rfl ?_ rfl
      simp
    · have h0' : ¬ (cfgOf l).Tenants = [] := fun e => h0 (by rw [e]; rfl)
      have hp : (0 : Int) < (cfgOf l).Tenants.length := by omega
      have hp2 : ((cfgOf l).Tenants.length : Int) ≤ 4611686018427387904 := by omega
      have hp0 : 0 < (cfgOf l).Tenants.length := by omega
      obtain ⟨k, hk⟩ : ∃ k : Nat, t % ((cfgOf l).Tenants.length : Int) = (k : Int) := Int.eq_ofNat_of_zero_le (Int.emod_nonneg _ (by omega))
      have hkl : k < (cfgOf l).Tenants.length := by have := Int.emod_lt_of_pos t hp; omega
      obtain ⟨x, hx, hx', _⟩ := get_of_lt hkl
      have hhl := homes_lsum h hx
      simp [GConfig.cells, hl, hz0, h0', hp0, hp2, hk]
      refine axwp_loop (trSt5 (cfgOf l) k x.Allowed) (fun i => i ≤ (cfgOf l).Regions.toNat) (fun i => (cfgOf l).Regions.toNat - i) 0 ?_ (Nat.zero_le _) ?_
      · refine weak_at [.inr 5] ?_ ?_ ?_ ?_ <;> simp [cfgO, GConfig.cells, hz0, lsum]
      · intro i hi
        by_cases hir : (i : Int) < (cfgOf l).Regions
        · have w4 : IntKind.i64.wrap ((i : Int) + 1) = (i : Int) + 1 := wrap_i64_in (by omega) (by omega)
          have w5 : IntKind.u64.wrap (i : Int) = (i : Int) := wrap_u64_in (by omega) (by omega)
          have m2 : min i 64 = i := by omega
          have hin : (inRegionL (cfgOf l) i).length ≤ (cfgOf l).Cells.length := idxTo_len _ _
          have hls := lsum_le (cfgOf l) x.Allowed i
          have w7 : IntKind.i64.wrap ((lsum (cfgOf l) x.Allowed i : Int) + ((inRegionL (cfgOf l) i).length : Int)) = (lsum (cfgOf l) x.Allowed i : Int) + ((inRegionL (cfgOf l) i).length : Int) := wrap_i64_in (by omega) (by omega)
          have m4 := has_shr (s := x.Allowed) (show (0 : Int) ≤ (i : Int) by omega) (by omega)
          rw [Int.toNat_natCast] at m4
          cases hs : hasB x.Allowed i with
          | true =>
            have m5 : ¬ (x.Allowed.fdiv (2 ^ i)).tmod 2 = 0 := fun e => by rw [m4.1 e] at hs; cases hs
            simp [trSt5, cfgO, GConfig.cells, GTenant.cells, hz0, hir, h, hkl, hx', w5, m2, m5]
            refine Again.mk (i + 1) (by omega) (by omega) ?_
            refine weak_mk id ?_ ?_ ?_ ?_ <;> simp [cfgO, GConfig.cells, hz0, w4, lsum, hs, w7]
          | false =>
            have m5 := m4.2 hs
            simp [trSt5, cfgO, GConfig.cells, GTenant.cells, hz0, hir, hkl, hx', w5, m2, m5]
            refine Again.mk (i + 1) (by omega) (by omega) ?_
            refine weak_mk id ?_ ?_ ?_ ?_ <;> simp [cfgO, GConfig.cells, hz0, w4, lsum, hs]
        · have e : i = (cfgOf l).Regions.toNat := by omega
          rw [← e] at hhl
          simp [trSt5, cfgO, GConfig.cells, hz0, hir, h, hhl]
          rw [hr]; refine ret_closed rfl ?_ rfl
          simp
  · simp [hl]
    rw [hr]; refine ret_closed rfl ?_ rfl
    simp

/-! ### The order -/
theorem bits_set : ∀ s : Fin 32, ∀ x y : Fin 5, hasB (iOr .i64 (s.val : Int) ((2 : Int) ^ x.val)) (y.val : Int) = (hasB (s.val : Int) (y.val : Int) || decide (x.val = y.val)) := by decide
theorem bits_in : ∀ s : Fin 32, ∀ x : Fin 5, 0 ≤ iOr .i64 (s.val : Int) ((2 : Int) ^ x.val) ∧ iOr .i64 (s.val : Int) ((2 : Int) ^ x.val) < 32 := by decide
/-- The set of the elements ahead of a place. -/
def SeenTo (l : List Nat) (i : Nat) (s : Int) : Prop := 0 ≤ s ∧ s < 32 ∧ ∀ y : Nat, y < 5 → (hasB s (y : Int) = true ↔ y ∈ l.take i)
theorem SeenTo.zero (l : List Nat) : SeenTo l 0 0 := ⟨by omega, by omega, fun y _ => by simp [has_zero]⟩
theorem SeenTo.succ {l : List Nat} {i : Nat} {s : Int} {x : Nat} (h : SeenTo l i s) (hx : l[i]? = some x) (h5 : x < 5) : SeenTo l (i + 1) (iOr .i64 s (2 ^ x)) := by
  obtain ⟨h1, h2, h3⟩ := h
  obtain ⟨s, rfl⟩ := Int.eq_ofNat_of_zero_le h1
  have hs : s < 32 := by omega
  have hb := bits_in ⟨s, hs⟩ ⟨x, h5⟩
  refine ⟨hb.1, hb.2, fun y hy => ?_⟩
  have := bits_set ⟨s, hs⟩ ⟨x, h5⟩ ⟨y, hy⟩
  simp only at this
  rw [this, List.take_add_one, hx, Bool.or_eq_true, h3 y hy, decide_eq_true_eq, List.mem_append]
  simp [eq_comm]
theorem SeenTo.new {l : List Nat} {i : Nat} {s : Int} {x : Nat} (h : SeenTo l i s) (hx : l[i]? = some x) (h5 : x < 5) (hd : l.Nodup) : hasB s (x : Int) = false := by
  cases hb : hasB s (x : Int) with
  | false => rfl
  | true =>
    have h1 := (h.2.2 x h5).1 hb
    obtain ⟨j, hj, hj2⟩ := List.mem_iff_getElem.1 h1
    rw [List.length_take] at hj
    rw [List.getElem_take] at hj2
    obtain ⟨hi, hi2⟩ := List.getElem?_eq_some_iff.1 hx
    exact absurd (hj2.trans hi2.symm) (List.pairwise_iff_getElem.1 hd j i (by omega) hi (by omega))
theorem ordN_nodup (C : GConfig) (n : Nat) : (ordN C n).Nodup := (ordN_perm C n).nodup_iff.2 List.nodup_range
theorem ordN_pair {C : GConfig} {n i x y : Nat} (hx : (ordN C n)[i]? = some x) (hy : (ordN C n)[i + 1]? = some y) : bef C x y = true := by
  obtain ⟨h1, rfl⟩ := List.getElem?_eq_some_iff.1 hx
  obtain ⟨h2, rfl⟩ := List.getElem?_eq_some_iff.1 hy
  exact List.pairwise_iff_getElem.1 (ordN_sorted C n) i (i + 1) h1 h2 (by omega)
def tsSt5 (C : GConfig) (L : List Int) (i : Nat × Int) : St := mkSt [(3, .ptr 0 0 0), (4, .sl 2 1 (intRow L)), (5, .int .i64 i.2), (6, .int .i64 i.1)] [(0, cfgO C)] 1
theorem law_TenantSorted : Lift.Spec Try.prog 8 (fam (fun i : List Int => [V.sl 2 1 (intRow i)]) (fun _ => []) (fun _ : List Int => True) (fun _ => ⟨.bool true, []⟩)) := by
  refine spec_fam (C := CN8) types_ok CN8_ok follows Try.func8 (by kernel_rfl) rfl (by kernel_rfl) rfl ?_
  rintro l _
  refine ⟨by simp, ?_⟩
  intro r hr
  by_cases hl : l.length ≤ 200
  · have hM := cfgOf_ok l
    have h := hM.topo
    have hz0 := made_zones h
    have hT := hM.T
    have k1 := hM.len12
    have hlen := ordN_len (cfgOf l) (cfgOf l).Tenants.length
    have hmem := fun {k : Nat} => ordN_mem (C := cfgOf l) (n := (cfgOf l).Tenants.length) (k := k)
    have hnd := ordN_nodup (cfgOf l) (cfgOf l).Tenants.length
    have hpair := fun {i x y : Nat} => ordN_pair (C := cfgOf l) (n := (cfgOf l).Tenants.length) (i := i) (x := x) (y := y)
    simp [GConfig.cells, hl, hz0, k1, hlen]
    obtain ⟨O, hO⟩ : ∃ O, O = ordN (cfgOf l) (cfgOf l).Tenants.length := ⟨_, rfl⟩
    rw [← hO] at hlen hmem hnd hpair ⊢
    clear hO
    obtain ⟨L, hLO⟩ : ∃ L, L = natI O := ⟨_, rfl⟩
    rw [← hLO]
    have hLl : L.length = (cfgOf l).Tenants.length := by rw [hLO, natI_length, hlen]
    refine axwp_loop (tsSt5 (cfgOf l) L) (fun i => i.1 ≤ (cfgOf l).Tenants.length ∧ SeenTo O i.1 i.2) (fun i => (cfgOf l).Tenants.length - i.1) (0, 0) ?_ ⟨Nat.zero_le _, SeenTo.zero _⟩ ?_
    · refine weak_at [.inr 3] ?_ ?_ ?_ ?_ <;> simp [cfgO, GConfig.cells, hz0]
    · rintro ⟨i, s⟩ ⟨hi, hs⟩
      simp only at hi hs
      have w4 : IntKind.i64.wrap ((i : Int) + 1) = (i : Int) + 1 := wrap_i64_in (by omega) (by omega)
      by_cases hik : i < (cfgOf l).Tenants.length
      · obtain ⟨x, hx, hx', hxm⟩ := get_of_lt (show i < O.length by omega)
        have hxl := hmem hxm
        have hx5 : x < 5 := by omega
        have hil : i < L.length := by omega
        have hLx : L[i] = (x : Int) := by simp [hLO, natI, hx']
        have hnew := hs.new hx hx5 hnd
        have hsucc := hs.succ hx hx5
        have w5 : IntKind.u64.wrap (x : Int) = (x : Int) := wrap_u64_in (by omega) (by omega)
        have m2 : min x 64 = x := by omega
        have hge : ¬ (cfgOf l).Tenants.length ≤ x := by omega
        obtain ⟨p, hp, p1, p16⟩ : ∃ p : Int, p = 2 ^ x ∧ 1 ≤ p ∧ p ≤ 16 := by
          have : x = 0 ∨ x = 1 ∨ x = 2 ∨ x = 3 ∨ x = 4 := by omega
          rcases this with rfl | rfl | rfl | rfl | rfl <;> exact ⟨_, rfl, by decide, by decide⟩
        rw [← hp] at hsucc
        have wp : IntKind.i64.wrap p = p := wrap_i64_in (by omega) (by omega)
        by_cases hi0 : i = 0
        · subst hi0
          simp [tsSt5, cfgO, GConfig.cells, hz0, hik, hLx, hLl, hge, hnew, w5, m2, ← hp, wp]
          refine ⟨⟨by kernel_rfl, by kernel_rfl⟩, ?_⟩
          refine Again.mk (1, iOr .i64 s p) ⟨by omega, hsucc⟩ (by show (cfgOf l).Tenants.length - 1 < (cfgOf l).Tenants.length - 0; omega) ?_
          refine weak_mk id ?_ ?_ ?_ ?_ <;> simp [cfgO, GConfig.cells, hz0]
        · obtain ⟨j, hij⟩ : ∃ j, i = j + 1 := ⟨i - 1, by omega⟩
          obtain ⟨y, hy, hy', hym⟩ := get_of_lt (show j < O.length by omega)
          have hyl := hmem hym
          have hjl : j < L.length := by omega
          have hjl' : j < (cfgOf l).Tenants.length := by omega
          have hLy : L[j] = (y : Int) := by simp [hLO, natI, hy']
          have w6 : IntKind.i64.wrap ((i : Int) - 1) = (j : Int) := by rw [wrap_i64_in (by omega) (by omega)]; omega
          obtain ⟨X, hX, hX', _⟩ := get_of_lt hxl
          obtain ⟨Y, hY, hY', _⟩ := get_of_lt hyl
          have hbef := bef_iff.1 (hpair hy (by rw [← hij]; exact hx))
          rw [tnP_at hX, tnP_at hY, tnL_at hX, tnL_at hY] at hbef
          have c1 : ¬ Y.Priority < X.Priority := by omega
          by_cases c2 : Y.Priority = X.Priority
          · have c3 : ¬ Y.Load < X.Load := by omega
            by_cases c4 : Y.Load = X.Load
            · have c5 : ¬ x < y := by omega
              simp [tsSt5, cfgO, GConfig.cells, GTenant.cells, hz0, hik, hLx, hLl, hge, hnew, w5, m2, ← hp, wp, hi0, w6, hjl', hLy, hxl, hyl, hX', hY', c2, c4, c5]
              refine ⟨⟨by kernel_rfl, by kernel_rfl⟩, ⟨by kernel_rfl, by kernel_rfl⟩, ⟨by kernel_rfl, by kernel_rfl⟩, ?_⟩
              refine Again.mk (i + 1, iOr .i64 s p) ⟨by omega, hsucc⟩ (by show (cfgOf l).Tenants.length - (i + 1) < (cfgOf l).Tenants.length - i; omega) ?_
              refine weak_mk id ?_ ?_ ?_ ?_ <;> simp [cfgO, GConfig.cells, hz0, w4]
            · simp [tsSt5, cfgO, GConfig.cells, GTenant.cells, hz0, hik, hLx, hLl, hge, hnew, w5, m2, ← hp, wp, hi0, w6, hjl', hLy, hxl, hyl, hX', hY', c2, c3, c4]
              refine ⟨⟨by kernel_rfl, by kernel_rfl⟩, ⟨by kernel_rfl, by kernel_rfl⟩, ⟨by kernel_rfl, by kernel_rfl⟩, ?_⟩
              refine Again.mk (i + 1, iOr .i64 s p) ⟨by omega, hsucc⟩ (by show (cfgOf l).Tenants.length - (i + 1) < (cfgOf l).Tenants.length - i; omega) ?_
              refine weak_mk id ?_ ?_ ?_ ?_ <;> simp [cfgO, GConfig.cells, hz0, w4]
          · simp [tsSt5, cfgO, GConfig.cells, GTenant.cells, hz0, hik, hLx, hLl, hge, hnew, w5, m2, ← hp, wp, hi0, w6, hjl', hLy, hxl, hyl, hX', hY', c1, c2]
            refine ⟨⟨by kernel_rfl, by kernel_rfl⟩, ⟨by kernel_rfl, by kernel_rfl⟩, ⟨by kernel_rfl, by kernel_rfl⟩, ?_⟩
            refine Again.mk (i + 1, iOr .i64 s p) ⟨by omega, hsucc⟩ (by show (cfgOf l).Tenants.length - (i + 1) < (cfgOf l).Tenants.length - i; omega) ?_
            refine weak_mk id ?_ ?_ ?_ ?_ <;> simp [cfgO, GConfig.cells, hz0, w4]
      · have e : i = (cfgOf l).Tenants.length := by omega
        subst e
        simp [tsSt5, cfgO, GConfig.cells, hz0, hLl]
        rw [hr]; refine ret_closed rfl ?_ rfl
        simp
  · simp [hl]
    rw [hr]; refine ret_closed rfl ?_ rfl
    simp
end Go.Proofs.Ytccmghkfofmedaa
