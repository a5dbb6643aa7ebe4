/-
  tenant: laws.
-/
import Derived.Test.YtccmghkfofmedaaN6
import Derived.Test.YtccmghkfofmedaaP9
namespace Go.Proofs.Ytccmghkfofmedaa
open Go.Lift

noncomputable def CN8 := mkC [(12, trueN5), (11, lightSp), (13, configSp), (10, smallSp), (14, bentSp), (33, modSp), (17, betweenSp), (15, validNSp), (16, validNSp), (18, maySp), (19, maySp), (20, apartSp), (21, apartSp), (23, homesSp), (24, homesSp), (25, standbysSp), (26, standbysSp), (29, totalSp), (30, totalSp), (27, orderSp), (28, orderSp), (31, regionOfSp), (34, inRegionSp), (32, hasSp), (22, sameISp)]
theorem CN8_ok : SpecsOk Try.prog CN8 := mkC_ok (all_cons awake5_spec (all_cons light_spec (all_cons config_spec (all_cons small_spec (all_cons bent_spec (all_cons mod_spec (all_cons between_spec (all_cons validN_spec (all_cons refvalidN_spec (all_cons may_spec (all_cons refmay_spec (all_cons apart_spec (all_cons refapart_spec (all_cons homes_spec (all_cons refhomes_spec (all_cons standbys_spec (all_cons refstandbys_spec (all_cons total_spec (all_cons reftotal_spec (all_cons order_spec (all_cons reforder_spec (all_cons regionOf_spec (all_cons inRegion_spec (all_cons has_spec (all_cons sameI_spec all_nil)))))))))))))))))))))))))
@[simp] theorem CN8_1 : CN8 12 = trueN5 := rfl
@[simp] theorem CN8_2 : CN8 11 = lightSp := rfl
@[simp] theorem CN8_3 : CN8 13 = configSp := rfl
@[simp] theorem CN8_4 : CN8 10 = smallSp := rfl
@[simp] theorem CN8_5 : CN8 14 = bentSp := rfl
@[simp] theorem CN8_6 : CN8 33 = modSp := rfl
@[simp] theorem CN8_7 : CN8 17 = betweenSp := rfl
@[simp] theorem CN8_8 : CN8 15 = validNSp := rfl
@[simp] theorem CN8_9 : CN8 16 = validNSp := rfl
@[simp] theorem CN8_10 : CN8 18 = maySp := rfl
@[simp] theorem CN8_11 : CN8 19 = maySp := rfl
@[simp] theorem CN8_12 : CN8 20 = apartSp := rfl
@[simp] theorem CN8_13 : CN8 21 = apartSp := rfl
@[simp] theorem CN8_14 : CN8 23 = homesSp := rfl
@[simp] theorem CN8_15 : CN8 24 = homesSp := rfl
@[simp] theorem CN8_16 : CN8 25 = standbysSp := rfl
@[simp] theorem CN8_17 : CN8 26 = standbysSp := rfl
@[simp] theorem CN8_18 : CN8 29 = totalSp := rfl
@[simp] theorem CN8_19 : CN8 30 = totalSp := rfl
@[simp] theorem CN8_20 : CN8 27 = orderSp := rfl
@[simp] theorem CN8_21 : CN8 28 = orderSp := rfl
@[simp] theorem CN8_22 : CN8 31 = regionOfSp := rfl
@[simp] theorem CN8_23 : CN8 34 = inRegionSp := rfl
@[simp] theorem CN8_24 : CN8 32 = hasSp := rfl
@[simp] theorem CN8_25 : CN8 22 = sameISp := rfl

theorem MadeOk.len12 {C : GConfig} (h : MadeOk C) : C.Tenants.length ≤ 12 := by have := h.T; omega
theorem MadeOk.loads {C : GConfig} (h : MadeOk C) : LoadsOk C := ⟨by have := h.T; omega, fun t ht => by have := (h.ten t ht).1; omega⟩
theorem tenP_ok {R : Int} {t : GTenant} (h : TenP R t) : tenB R t = true := by
  obtain ⟨a, b, c, d, e, f⟩ := h
  simp only [tenB, Bool.and_eq_true, inB_iff]
  refine ⟨by omega, b, by omega, by omega, e, by omega⟩
theorem made_validN {C : GConfig} (h : MadeOk C) : validN C = 0 := by
  rw [validN_ok (validT_ok.2 h.topo) (b := true) (List.all_eq_true.2 fun t ht => tenP_ok (h.ten t ht))]; rfl
theorem homes_lenm {C : GConfig} (h : TopoOk C) (t : Int) : (homesL C t).length ≤ 9223372036854775807 := Nat.le_trans (homes_len h t) (by omega)
theorem standbys_lenm {C : GConfig} (h : TopoOk C) (t a : Int) : (standbysL C t a).length ≤ 9223372036854775807 := Nat.le_trans (idxTo_len _ _) (by have := h.N; omega)
theorem order_lenm {C : GConfig} (h : C.Tenants.length ≤ 12) : (ordN C C.Tenants.length).length ≤ 9223372036854775807 := by rw [ordN_len]; omega

theorem law_TenantValid : Lift.Spec Try.prog 3 (fam (fun i : GConfig × (List Int) × Int × Int => [vConfig i.1, .sl 2 1 (intRow i.2.1), .int .i64 i.2.2.1, .int .i64 i.2.2.2]) (fun _ => []) (fun _ : GConfig × (List Int) × Int × Int => True) (fun _ => ⟨.bool true, []⟩)) := by
  refine spec_fam (C := CN8) types_ok CN8_ok follows Try.func3 (by kernel_rfl) rfl (by kernel_rfl) rfl ?_
  rintro ⟨raw, l, w, b⟩ _
  refine ⟨by simp, ?_⟩
  intro r hr
  by_cases hs : ¬ ((raw.Zones.length : Int) ≤ 20 ∧ (raw.Cells.length : Int) ≤ 20 ∧ (raw.Tenants.length : Int) ≤ 40 ∧ (raw.Versions.length : Int) ≤ 40 ∧ (raw.Replicas.length : Int) ≤ 12 ∧ (raw.Observers.length : Int) ≤ 12)
  · have hs' := decide_eq_false hs
    simp [GConfig.cells, hs']
    rw [hr]; refine ret_closed rfl ?_ rfl
    simp
  · have hs1 : (raw.Zones.length : Int) ≤ 20 ∧ (raw.Cells.length : Int) ≤ 20 ∧ (raw.Tenants.length : Int) ≤ 40 ∧ (raw.Versions.length : Int) ≤ 40 ∧ (raw.Replicas.length : Int) ≤ 12 ∧ (raw.Observers.length : Int) ≤ 12 := Classical.byContradiction hs
    have hs' := decide_eq_true hs1
    by_cases hl : l.length ≤ 200
    · have hM := cfgOf_ok l
      have h := hM.topo
      have hz0 := made_zones h
      have k1 : Lens raw := by unfold Lens; omega
      have k2 := h.lens
      have k3 := bent_lens h w b
      have k4 := made_validN hM
      simp [GConfig.cells, hs', hl, h, hz0, k1, k2, k3, k4]
      refine ⟨⟨by kernel_rfl, by kernel_rfl⟩, ?_⟩
      rw [hr]; refine ret_closed rfl ?_ rfl
      simp
    · simp [GConfig.cells, hs', hl]
      rw [hr]; refine ret_closed rfl ?_ rfl
      simp

def tcSt5 (C : GConfig) (i : Nat × Int × Int × Int) : St := mkSt [(1, .int .i64 i.2.1), (2, .int .i64 i.2.2.1), (3, .int .i64 i.2.2.2), (9, .ptr 0 0 0), (10, .int .i64 i.1)] [(0, cfgO C)] 1
theorem law_TenantCells : Lift.Spec Try.prog 5 (fam (fun i : (List Int) × Int × Int × Int => [V.sl 2 1 (intRow i.1), .int .i64 i.2.1, .int .i64 i.2.2.1, .int .i64 i.2.2.2]) (fun _ => []) (fun _ : (List Int) × Int × Int × Int => True) (fun _ => ⟨.bool true, []⟩)) := by
  refine spec_fam (C := CN8) types_ok CN8_ok follows Try.func5 (by kernel_rfl) rfl (by kernel_rfl) rfl ?_
  rintro ⟨l, x, y, z⟩ _
  refine ⟨by simp, ?_⟩
  intro r hr
  by_cases hl : l.length ≤ 200
  · have h := (cfgOf_ok l).topo
    have hz0 := made_zones h
    have q1 := homes_lenm h
    have q2 := standbys_lenm h
    simp [GConfig.cells, hl, hz0]
    refine axwp_loop (tcSt5 (cfgOf l)) (fun i => i.1 ≤ 2) (fun i => 2 - i.1) (0, x, y, z) ?_ (Nat.zero_le _) ?_
    · refine weak_at [.inr 9] ?_ ?_ ?_ ?_ <;> simp [cfgO, GConfig.cells, hz0]
    · rintro ⟨i, x, y, z⟩ hi
      simp only at hi
      by_cases hi2 : i < 2
      · have hi2' : (i : Int) < 2 := by omega
        have w4 : IntKind.i64.wrap ((i : Int) + 1) = (i : Int) + 1 := wrap_i64_in (by omega) (by omega)
        simp [tcSt5, cfgO, GConfig.cells, hz0, hi2', h, q1, q2]
        refine ⟨⟨by kernel_rfl, by kernel_rfl⟩, ?_⟩
        refine Again.mk (i + 1, -1 + x % 7, -1 + y % 10, -1 + z % 10) hi2 (by show 2 - (i + 1) < 2 - i; omega) ?_
        refine weak_mk id ?_ ?_ ?_ ?_ <;> simp [cfgO, GConfig.cells, hz0, w4]
      · have hi2' : ¬ (i : Int) < 2 := by omega
        simp [tcSt5, hi2']
        rw [hr]; refine ret_closed rfl ?_ rfl
        simp
  · simp [hl]
    rw [hr]; refine ret_closed rfl ?_ rfl
    simp

theorem law_TenantOrder : Lift.Spec Try.prog 6 (fam (fun i : List Int => [V.sl 2 1 (intRow i)]) (fun _ => []) (fun _ : List Int => True) (fun _ => ⟨.bool true, []⟩)) := by
  refine spec_fam (C := CN8) types_ok CN8_ok follows Try.func6 (by kernel_rfl) rfl (by kernel_rfl) rfl ?_
  rintro l _
  refine ⟨by simp, ?_⟩
  intro r hr
  by_cases hl : l.length ≤ 200
  · have hM := cfgOf_ok l
    have h := hM.topo
    have hz0 := made_zones h
    have k1 := hM.len12
    have k2 := hM.loads
    have k3 := order_lenm k1
    simp [GConfig.cells, hl, hz0, k1, k2, k3]
    refine ⟨⟨by kernel_rfl, by kernel_rfl⟩, ?_⟩
    rw [hr]; refine ret_closed rfl ?_ rfl
    simp
  · simp [hl]
    rw [hr]; refine ret_closed rfl ?_ rfl
    simp

theorem vConfig_ten (C : GConfig) (T : List GTenant) : V.agg [.int .i64 C.Regions, .sl 2 1 (GZone.row C.Zones), .sl 2 2 (GCell.row C.Cells), .sl 2 7 (GTenant.row T), .sl 2 2 (GVersion.row C.Versions), .sl 2 1 (intRow C.Replicas), .sl 2 1 (intRow C.Observers), .int .i64 C.Blast, .int .i64 C.Lease, .int .i64 C.Bake] = vConfig { C with Tenants := T } := rfl
def nearT (t : GTenant) : GTenant := ⟨t.Load % 4, -1 + t.Shadow % 5, -1 + t.Priority % 12, -2 + t.Lag % 5, t.Allowed % 9, -1 + t.Group % 35, false⟩
theorem law_TenantDeclared : Lift.Spec Try.prog 4 (fam (fun i : (List Int) × GTenant × Bool => [V.sl 2 1 (intRow i.1), vTenant i.2.1, .bool i.2.2]) (fun _ => []) (fun _ : (List Int) × GTenant × Bool => True) (fun _ => ⟨.bool true, []⟩)) := by
  refine spec_fam (C := CN8) types_ok CN8_ok follows Try.func4 (by kernel_rfl) rfl (by kernel_rfl) rfl ?_
  rintro ⟨l, t, near⟩ _
  refine ⟨by simp, ?_⟩
  intro r hr
  by_cases hl : l.length ≤ 200
  · have hM := cfgOf_ok l
    have h := hM.topo
    have hz0 := made_zones h
    have hT := hM.T
    have q1 : (((cfgOf l).Tenants.length : Int)) * 56 ≤ 140737488355328 := by omega
    have q2 : ((cfgOf l).Tenants.length : Int) ≤ 140737488355328 := by omega
    have q3 : (((cfgOf l).Tenants.length : Int) + 1) * 56 ≤ 140737488355328 := by omega
    have q4 : ((cfgOf l).Tenants.length : Int) + 1 ≤ 140737488355328 := by omega
    cases near with
    | false =>
      have hp : GTenant.row (cfgOf l).Tenants ++ [[.int .i64 t.Load, .int .i64 t.Shadow, .int .i64 t.Priority, .int .i64 t.Lag, .int .i64 t.Allowed, .int .i64 t.Group, .bool t.Noisy]] = GTenant.row ((cfgOf l).Tenants ++ [t]) := by simp [GTenant.row, GTenant.cells]
      have hk : List.take ((cfgOf l).Tenants.length + 1) ((cfgOf l).Tenants ++ [t]) = (cfgOf l).Tenants ++ [t] := List.take_of_length_le (by simp)
      have hL : Lens { cfgOf l with Tenants := (cfgOf l).Tenants ++ [t] } := by
        have := h.lens
        unfold Lens at this ⊢
        simp only [List.length_append, List.length_cons, List.length_nil]; omega
      simp [GConfig.cells, GTenant.cells, hl, hz0, q1, q2, q3, q4, hp, vConfig_ten, hk, hL]
      refine ⟨⟨by kernel_rfl, by kernel_rfl⟩, ⟨by kernel_rfl, by kernel_rfl⟩, ?_⟩
      rw [hr]; refine ret_closed rfl ?_ rfl
      simp
    | true =>
      have hp : GTenant.row (cfgOf l).Tenants ++ [[.int .i64 (t.Load % 4), .int .i64 (-1 + t.Shadow % 5), .int .i64 (-1 + t.Priority % 12), .int .i64 (-2 + t.Lag % 5), .int .i64 (t.Allowed % 9), .int .i64 (-1 + t.Group % 35), .bool false]] = GTenant.row ((cfgOf l).Tenants ++ [nearT t]) := by simp [GTenant.row, GTenant.cells, nearT]
      have hk : List.take ((cfgOf l).Tenants.length + 1) ((cfgOf l).Tenants ++ [nearT t]) = (cfgOf l).Tenants ++ [nearT t] := List.take_of_length_le (by simp)
      have hL : Lens { cfgOf l with Tenants := (cfgOf l).Tenants ++ [nearT t] } := by
        have := h.lens
        unfold Lens at this ⊢
        simp only [List.length_append, List.length_cons, List.length_nil]; omega
      simp [GConfig.cells, GTenant.cells, hl, hz0, q1, q2, q3, q4, hp, vConfig_ten, hk, hL]
      refine ⟨⟨by kernel_rfl, by kernel_rfl⟩, ⟨by kernel_rfl, by kernel_rfl⟩, ⟨by kernel_rfl, by kernel_rfl⟩, ?_⟩
      rw [hr]; refine ret_closed rfl ?_ rfl
      simp
  · simp [hl, GTenant.cells]
    rw [hr]; refine ret_closed rfl ?_ rfl
    simp
end Go.Proofs.Ytccmghkfofmedaa
