/-
  make: Entry.
-/
import Derived.Test.YtegjhmhhbmnljaaDoorSF
import Derived.Test.YtegjhmhhbmnljaaDoorN4
namespace Go.Proofs.YtegjhmhhbmnljaaDoor
open Go.Lift

theorem pick_pos (L : List Int) (j : Nat) (xs : List Int) : (pickM L j xs).2 ≤ j + 1 := by
  unfold pickM; split
  · exact Nat.le_succ j
  · exact Nat.le_refl _
theorem standbys_len {C : GConfig} (h : TopoOk C) (t a : Int) : (standbysL C t a).length ≤ 16 := Nat.le_trans (idxTo_len _ _) (by have := h.N; omega)
noncomputable def placeE (C : GConfig) (L : List Int) (j : Nat) (i : Int) (e : GEntry) : GEntry × Nat :=
  let p := pickM L j (homesL C i)
  let c := if 0 < p.1 then p.1 else 0
  let q := pickM L p.2 (standbysL C i c)
  ({ e with Tenant := i, Cell := c, Other := q.1 }, q.2)
noncomputable def eSw (C : GConfig) (s : GState) (x : GTenantState) (L : List Int) (j : Nat) (i : Int) (e : GEntry) : GEntry × Nat :=
  let d := dr L j 12
  if d = 0 then ({ e with Kind := 3, Epoch := if 1 < x.Epoch then x.Epoch else 1 }, j + 1)
  else if d = 1 then ({ e with Kind := 4, Cell := (pickM L (j + 1) (standbysL C i x.Home)).1 }, (pickM L (j + 1) (standbysL C i x.Home)).2)
  else if d = 2 then ({ e with Kind := 5, Cell := if 0 < x.Next then x.Next else 0 }, j + 1)
  else if d = 3 then ({ e with Kind := 6, Cell := if 0 < (pickM L (j + 1) (homesL C i)).1 then (pickM L (j + 1) (homesL C i)).1 else 0 }, (pickM L (j + 1) (homesL C i)).2)
  else if d = 4 then ({ e with Kind := 7 }, j + 1)
  else if d = 5 then ({ e with Kind := 8, N := if x.Shed = true then 0 else 1 }, j + 1)
  else grantM C s e L (j + 1)
noncomputable def eT (C : GConfig) (s : GState) (L : List Int) (j : Nat) (tick : Int) : GEntry × Nat :=
  if C.Tenants = [] then platM C s tick L j
  else if dr L j 4 = 0 then platM C s tick L (j + 1)
  else
    let i := dr L (j + 1) C.Tenants.length
    if (tenSt s i).Placed = false then placeE C L (j + 2) i (noneE 1 tick)
    else eSw C s (tenSt s i) L (j + 2) i { noneE 2 tick with Tenant := i }
noncomputable def entryM (C : GConfig) (s : GState) (L : List Int) (j : Nat) : GEntry × Nat :=
  if dr L (j + 1) 20 = 0 then eT C s L (j + 2) (if 1 < s.Tick then s.Tick - 1 else 0) else eT C s L (j + 2) (s.Tick + dr L j 4)
section
variable (C : GConfig) (s : GState) (x : GTenantState) (e : GEntry) (t : Int) (j i : Nat)
theorem pick_nil (xs : List Int) : (pickM [] j xs).1 = (pickM [] i xs).1 := by
  simp only [pickM, dr_nil]
  split <;> rfl
theorem place_nil (k : Int) : (placeE C [] j k e).1 = (placeE C [] i k e).1 := by
  simp only [placeE]
  rw [pick_nil j i, pick_nil (pickM [] j (homesL C k)).2 (pickM [] i (homesL C k)).2]
theorem eSw_nil (k : Int) : (eSw C s x [] j k e).1 = (eSw C s x [] i k e).1 := by
  simp only [eSw, dr_nil]
  rfl
theorem eT_nil : (eT C s [] j t).1 = (eT C s [] i t).1 := by
  simp only [eT, dr_nil]
  by_cases h : C.Tenants = []
  · rw [if_pos h, if_pos h, plat_nil C s t j, plat_nil C s t i]
  · rw [if_neg h, if_neg h]; simp only [if_true]; rw [plat_nil C s t (j + 1), plat_nil C s t (i + 1)]
theorem entry_nil : (entryM C s [] j).1 = (entryM C s [] i).1 := by
  simp only [entryM, dr_nil, if_true]
  apply eT_nil
end
theorem entryM_inj : ∀ i j : List Int × Nat × GConfig × GState, [V.ptr 0 0 0, vConfig i.2.2.1, vState i.2.2.2] = [V.ptr 0 0 0, vConfig j.2.2.1, vState j.2.2.2] → [tapeO i.1 i.2.1] = [tapeO j.1 j.2.1] → (⟨vEntry (entryM i.2.2.1 i.2.2.2 i.1 i.2.1).1, [tapeO i.1 (entryM i.2.2.1 i.2.2.2 i.1 i.2.1).2]⟩ : CRes) = ⟨vEntry (entryM j.2.2.1 j.2.2.2 j.1 j.2.1).1, [tapeO j.1 (entryM j.2.2.1 j.2.2.2 j.1 j.2.1).2]⟩ := by
  rintro ⟨L, j, C, s⟩ ⟨L', j', C', s'⟩ h h'
  obtain ⟨rfl, h1⟩ := tape_eq (List.cons.inj h').1
  simp at h
  obtain ⟨rfl, rfl⟩ := h
  rcases h1 with h1 | h1
  · simp only at h1
    subst h1
    simp only
    rw [entry_nil C s j j', tape_nil, tape_nil (entryM C s [] j').2]
  · simp only at h1
    subst h1; rfl
noncomputable def CME := mkC [(39, nextSp), (41, yesSp), (43, noneSp), (44, pickSp), (42, platSp), (47, grantMSp), (45, homesSp), (46, standbysSp)]
theorem CME_ok : SpecsOk Tryd.prog CME := mkC_ok (all_cons next_spec (all_cons yes_spec (all_cons none_spec (all_cons pick_spec (all_cons platform_spec (all_cons grantM_spec (all_cons refhomes_spec (all_cons refstandbys_spec all_nil))))))))
@[simp] theorem CME_1 : CME 39 = nextSp := rfl
@[simp] theorem CME_2 : CME 41 = yesSp := rfl
@[simp] theorem CME_3 : CME 43 = noneSp := rfl
@[simp] theorem CME_4 : CME 44 = pickSp := rfl
@[simp] theorem CME_5 : CME 42 = platSp := rfl
@[simp] theorem CME_6 : CME 47 = grantMSp := rfl
@[simp] theorem CME_7 : CME 45 = homesSp := rfl
@[simp] theorem CME_8 : CME 46 = standbysSp := rfl

def enSt (C : GConfig) (s : GState) (L : List Int) (j : Nat) (tick : Int) : St := mkSt [(0, .ptr 0 0 0), (4, .ptr 1 0 0), (5, .ptr 2 0 0), (6, .ptr 3 0 0), (7, .int .i64 tick)] [(0, tapeO L j), (1, cfgO C), (2, stO s), (3, entO zeroE)] 4

set_option maxHeartbeats 40000000 in
theorem en_4 {C : GConfig} {s : GState} {L : List Int} {j : Nat} {tick : Int} (h1 : L.length ≤ 200) (hj : j ≤ 80000) (c : CfgOk C) (hs : StOk C s) (ht : 0 ≤ tick ∧ tick ≤ 2147483648) {r : CRes} (hr : r = ⟨vEntry (eT C s L j tick).1, [tapeO L (eT C s L j tick).2]⟩) : SemWp Tryd.prog Tryd.f28.ntmps 1 (restC Tryd.f28 [1,1,1]) (Ret T Tryd.f28.results.toList r 1) (enSt C s L j tick) := by
  refine sem_end (C := CME) types_ok CME_ok follows Tryd.f28 [1,1,1] (by simp only [bodyC, Tryd.f28, Option.getD_some, subC, one_ne_zero', if_false]; rfl) (by kernel_rfl) ?_
  have hT := hs.T
  have hto := c.topo
  have c3 := c.topo.T
  have P1 := platSp_eq (j := j) (tick := tick) h1 (by omega) c hs ht
  have P2 := platSp_eq (j := j + 1) (tick := tick) h1 (by omega) c hs ht
  have N1 := yesSp_eq (L := L) (j := j) (n := 4) h1 (by omega) (by decide) (by decide)
  have N3 := nextSp_eq (L := L) (j := j + 2) (n := 12) h1 (by omega) (by decide) (by decide)
  simp only [tapeO] at P1 P2 N1 N3
  by_cases hn : C.Tenants = []
  · simp only [eT, if_pos hn] at hr
    simp [enSt, tapeO, cfgO, stO, entO, GConfig.cells, GState.cells, GEntry.cells, zeroE, eq_true hn, P1]
    rw [hr]
    refine ret_at [.inl 0] rfl ?_ ?_ (by simp) ?_ ?_ ?_ ?_ <;> simp [tapeO]
  simp only [eT, if_neg hn] at hr
  have hn0 : C.Tenants.length ≠ 0 := by simpa using hn
  by_cases hd : dr L j 4 = 0
  · rw [if_pos hd] at hr
    simp [enSt, tapeO, cfgO, stO, entO, GConfig.cells, GState.cells, GEntry.cells, zeroE, hn, hn0, N1, hd, P2]
    rw [hr]
    refine ret_at [.inl 0] rfl ?_ ?_ (by simp) ?_ ?_ ?_ ?_ <;> simp [tapeO]
  rw [if_neg hd] at hr
  have g1 : (0 : Int) < C.Tenants.length := by omega
  have N2 := nextSp_eq (L := L) (j := j + 1) (n := C.Tenants.length) h1 (by omega) g1 (by omega)
  simp only [tapeO] at N2
  have d0 := dr_nonneg L (j + 1) g1
  have d1 := dr_lt L (j + 1) g1
  generalize hk : dr L (j + 1) (C.Tenants.length : Int) = k at *
  clear hk
  obtain ⟨k, rfl⟩ := Int.eq_ofNat_of_zero_le d0
  have hkl : k < s.Tenants.length := by omega
  obtain ⟨x, hx, hx', hmem⟩ := get_of_lt hkl
  have hc : tenSt s k = x := by simp [tenSt, hx]
  have hX := hs.ten x hmem
  simp only [hc] at hr
  by_cases hp : x.Placed = false
  · rw [if_pos hp] at hr
    simp only [placeE] at hr
    have A1 := pick_pos L (j + 2) (homesL C k)
    have a1 := homes_len hto k
    have K1 := pickSp_eq (L := L) (j := j + 2) (xs := homesL C k) h1 (by omega) (by omega)
    generalize pickM L (j + 2) (homesL C k) = p at *
    obtain ⟨pc, pj⟩ := p
    simp only at hr K1 A1
    generalize hcc : (if 0 < pc then pc else 0) = cc at *
    have a2 := standbys_len hto k cc
    have K2 := pickSp_eq (L := L) (j := pj) (xs := standbysL C k cc) h1 (by omega) (by omega)
    generalize pickM L pj (standbysL C k cc) = q at *
    obtain ⟨qc, qj⟩ := q
    simp only at hr K2
    simp only [tapeO] at K1 K2
    simp [enSt, tapeO, cfgO, stO, entO, GConfig.cells, GState.cells, GEntry.cells, GTenantState.cells, zeroE, noneE, hn, hn0, N1, N2, hd, hkl, hx', hp, hto, K1, K2, hcc]
    rw [hr]
    refine ret_at [.inl 0] rfl ?_ ?_ (by simp) ?_ ?_ ?_ ?_ <;> simp [tapeO, noneE]
  replace hp : x.Placed = true := by simpa using hp
  rw [if_neg (by simp [hp])] at hr
  have dd := below12 (dr_nonneg L (j + 2) (show (0 : Int) < 12 by decide)) (dr_lt L (j + 2) (show (0 : Int) < 12 by decide))
  have hho := hX.placed hp
  have a1 := homes_len hto k
  have a2 := standbys_len hto k x.Home
  have K1 := pickSp_eq (L := L) (j := j + 3) (xs := homesL C k) h1 (by omega) (by omega)
  have K2 := pickSp_eq (L := L) (j := j + 3) (xs := standbysL C k x.Home) h1 (by omega) (by omega)
  have G1 := grantMSp_eq (L := L) (j := j + 3) (C := C) (s := s) (e := { noneE 2 tick with Tenant := k }) h1 (by omega) c hs ⟨d0, by show (k : Int) < s.Tenants.length; omega⟩ (by show 0 ≤ (tenSt s k).Home; rw [hc]; exact hho) ht (by show -4 ≤ (0 : Int) ∧ (0 : Int) ≤ 4294967296; decide)
  simp only [tapeO, noneE] at K1 K2 G1
  simp only [eSw] at hr
  generalize hdd : dr L (j + 2) 12 = d at *
  clear hdd
  simp only [noneE] at hr
  rcases dd with rfl | rfl | rfl | rfl | rfl | rfl | rfl | rfl | rfl | rfl | rfl | rfl
  · simp [enSt, tapeO, cfgO, stO, entO, GConfig.cells, GState.cells, GEntry.cells, GTenantState.cells, zeroE, noneE, hn, hn0, N1, N2, N3, hd, hkl, hx', hp]
    (repeat refine ⟨⟨by kernel_rfl, by kernel_rfl⟩, ?_⟩)
    try simp [enSt, tapeO, cfgO, stO, entO, GConfig.cells, GState.cells, GEntry.cells, GTenantState.cells, GWindow.cells, zeroE, noneE, hn, hn0, N1, N2, N3, hd, hkl, hx', hp, hto]
    rw [hr]
    refine ret_at [.inl 0] rfl ?_ ?_ (by simp) ?_ ?_ ?_ ?_ <;> simp [tapeO]
  · simp [enSt, tapeO, cfgO, stO, entO, GConfig.cells, GState.cells, GEntry.cells, GTenantState.cells, zeroE, noneE, hn, hn0, N1, N2, N3, hd, hkl, hx', hp, hto, K2]
    (repeat refine ⟨⟨by kernel_rfl, by kernel_rfl⟩, ?_⟩)
    try simp [enSt, tapeO, cfgO, stO, entO, GConfig.cells, GState.cells, GEntry.cells, GTenantState.cells, GWindow.cells, zeroE, noneE, hn, hn0, N1, N2, N3, hd, hkl, hx', hp, hto, K2]
    rw [hr]
    refine ret_at [.inl 0] rfl ?_ ?_ (by simp) ?_ ?_ ?_ ?_ <;> simp [tapeO]
  · simp [enSt, tapeO, cfgO, stO, entO, GConfig.cells, GState.cells, GEntry.cells, GTenantState.cells, zeroE, noneE, hn, hn0, N1, N2, N3, hd, hkl, hx', hp]
    (repeat refine ⟨⟨by kernel_rfl, by kernel_rfl⟩, ?_⟩)
    try simp [enSt, tapeO, cfgO, stO, entO, GConfig.cells, GState.cells, GEntry.cells, GTenantState.cells, GWindow.cells, zeroE, noneE, hn, hn0, N1, N2, N3, hd, hkl, hx', hp, hto]
    rw [hr]
    refine ret_at [.inl 0] rfl ?_ ?_ (by simp) ?_ ?_ ?_ ?_ <;> simp [tapeO]
  · simp [enSt, tapeO, cfgO, stO, entO, GConfig.cells, GState.cells, GEntry.cells, GTenantState.cells, zeroE, noneE, hn, hn0, N1, N2, N3, hd, hkl, hx', hp, hto, K1]
    (repeat refine ⟨⟨by kernel_rfl, by kernel_rfl⟩, ?_⟩)
    try simp [enSt, tapeO, cfgO, stO, entO, GConfig.cells, GState.cells, GEntry.cells, GTenantState.cells, GWindow.cells, zeroE, noneE, hn, hn0, N1, N2, N3, hd, hkl, hx', hp, hto, K1]
    rw [hr]
    refine ret_at [.inl 0] rfl ?_ ?_ (by simp) ?_ ?_ ?_ ?_ <;> simp [tapeO]
  · simp [enSt, tapeO, cfgO, stO, entO, GConfig.cells, GState.cells, GEntry.cells, GTenantState.cells, zeroE, noneE, hn, hn0, N1, N2, N3, hd, hkl, hx', hp]
    (repeat refine ⟨⟨by kernel_rfl, by kernel_rfl⟩, ?_⟩)
    try simp [enSt, tapeO, cfgO, stO, entO, GConfig.cells, GState.cells, GEntry.cells, GTenantState.cells, GWindow.cells, zeroE, noneE, hn, hn0, N1, N2, N3, hd, hkl, hx', hp, hto]
    rw [hr]
    refine ret_at [.inl 0] rfl ?_ ?_ (by simp) ?_ ?_ ?_ ?_ <;> simp [tapeO]
  · cases hsd : x.Shed
    · simp [enSt, tapeO, cfgO, stO, entO, GConfig.cells, GState.cells, GEntry.cells, GTenantState.cells, zeroE, noneE, hn, hn0, N1, N2, N3, hd, hkl, hx', hp, hsd]
      (repeat refine ⟨⟨by kernel_rfl, by kernel_rfl⟩, ?_⟩)
      try simp [enSt, tapeO, cfgO, stO, entO, GConfig.cells, GState.cells, GEntry.cells, GTenantState.cells, GWindow.cells, zeroE, noneE, hn, hn0, N1, N2, N3, hd, hkl, hx', hp, hto, hsd]
      rw [hr]
      refine ret_at [.inl 0] rfl ?_ ?_ (by simp) ?_ ?_ ?_ ?_ <;> simp [tapeO, hsd]
    · simp [enSt, tapeO, cfgO, stO, entO, GConfig.cells, GState.cells, GEntry.cells, GTenantState.cells, zeroE, noneE, hn, hn0, N1, N2, N3, hd, hkl, hx', hp, hsd]
      (repeat refine ⟨⟨by kernel_rfl, by kernel_rfl⟩, ?_⟩)
      try simp [enSt, tapeO, cfgO, stO, entO, GConfig.cells, GState.cells, GEntry.cells, GTenantState.cells, GWindow.cells, zeroE, noneE, hn, hn0, N1, N2, N3, hd, hkl, hx', hp, hto, hsd]
      rw [hr]
      refine ret_at [.inl 0] rfl ?_ ?_ (by simp) ?_ ?_ ?_ ?_ <;> simp [tapeO, hsd]
  · simp [enSt, tapeO, cfgO, stO, entO, GConfig.cells, GState.cells, GEntry.cells, GTenantState.cells, zeroE, noneE, hn, hn0, N1, N2, N3, hd, hkl, hx', hp, G1]
    (repeat refine ⟨⟨by kernel_rfl, by kernel_rfl⟩, ?_⟩)
    try simp [enSt, tapeO, cfgO, stO, entO, GConfig.cells, GState.cells, GEntry.cells, GTenantState.cells, GWindow.cells, zeroE, noneE, hn, hn0, N1, N2, N3, hd, hkl, hx', hp, hto, G1]
    rw [hr]
    refine ret_at [.inl 0] rfl ?_ ?_ (by simp) ?_ ?_ ?_ ?_ <;> simp [tapeO]
  · simp [enSt, tapeO, cfgO, stO, entO, GConfig.cells, GState.cells, GEntry.cells, GTenantState.cells, zeroE, noneE, hn, hn0, N1, N2, N3, hd, hkl, hx', hp, G1]
    (repeat refine ⟨⟨by kernel_rfl, by kernel_rfl⟩, ?_⟩)
    try simp [enSt, tapeO, cfgO, stO, entO, GConfig.cells, GState.cells, GEntry.cells, GTenantState.cells, GWindow.cells, zeroE, noneE, hn, hn0, N1, N2, N3, hd, hkl, hx', hp, hto, G1]
    rw [hr]
    refine ret_at [.inl 0] rfl ?_ ?_ (by simp) ?_ ?_ ?_ ?_ <;> simp [tapeO]
  · simp [enSt, tapeO, cfgO, stO, entO, GConfig.cells, GState.cells, GEntry.cells, GTenantState.cells, zeroE, noneE, hn, hn0, N1, N2, N3, hd, hkl, hx', hp, G1]
    (repeat refine ⟨⟨by kernel_rfl, by kernel_rfl⟩, ?_⟩)
    try simp [enSt, tapeO, cfgO, stO, entO, GConfig.cells, GState.cells, GEntry.cells, GTenantState.cells, GWindow.cells, zeroE, noneE, hn, hn0, N1, N2, N3, hd, hkl, hx', hp, hto, G1]
    rw [hr]
    refine ret_at [.inl 0] rfl ?_ ?_ (by simp) ?_ ?_ ?_ ?_ <;> simp [tapeO]
  · simp [enSt, tapeO, cfgO, stO, entO, GConfig.cells, GState.cells, GEntry.cells, GTenantState.cells, zeroE, noneE, hn, hn0, N1, N2, N3, hd, hkl, hx', hp, G1]
    (repeat refine ⟨⟨by kernel_rfl, by kernel_rfl⟩, ?_⟩)
    try simp [enSt, tapeO, cfgO, stO, entO, GConfig.cells, GState.cells, GEntry.cells, GTenantState.cells, GWindow.cells, zeroE, noneE, hn, hn0, N1, N2, N3, hd, hkl, hx', hp, hto, G1]
    rw [hr]
    refine ret_at [.inl 0] rfl ?_ ?_ (by simp) ?_ ?_ ?_ ?_ <;> simp [tapeO]
  · simp [enSt, tapeO, cfgO, stO, entO, GConfig.cells, GState.cells, GEntry.cells, GTenantState.cells, zeroE, noneE, hn, hn0, N1, N2, N3, hd, hkl, hx', hp, G1]
    (repeat refine ⟨⟨by kernel_rfl, by kernel_rfl⟩, ?_⟩)
    try simp [enSt, tapeO, cfgO, stO, entO, GConfig.cells, GState.cells, GEntry.cells, GTenantState.cells, GWindow.cells, zeroE, noneE, hn, hn0, N1, N2, N3, hd, hkl, hx', hp, hto, G1]
    rw [hr]
    refine ret_at [.inl 0] rfl ?_ ?_ (by simp) ?_ ?_ ?_ ?_ <;> simp [tapeO]
  · simp [enSt, tapeO, cfgO, stO, entO, GConfig.cells, GState.cells, GEntry.cells, GTenantState.cells, zeroE, noneE, hn, hn0, N1, N2, N3, hd, hkl, hx', hp, G1]
    (repeat refine ⟨⟨by kernel_rfl, by kernel_rfl⟩, ?_⟩)
    try simp [enSt, tapeO, cfgO, stO, entO, GConfig.cells, GState.cells, GEntry.cells, GTenantState.cells, GWindow.cells, zeroE, noneE, hn, hn0, N1, N2, N3, hd, hkl, hx', hp, hto, G1]
    rw [hr]
    refine ret_at [.inl 0] rfl ?_ ?_ (by simp) ?_ ?_ ?_ ?_ <;> simp [tapeO]
noncomputable def entryMSp := fam (fun i : (List Int) × Nat × GConfig × GState => [V.ptr 0 0 0, vConfig i.2.2.1, vState i.2.2.2]) (fun i : (List Int) × Nat × GConfig × GState => [tapeO i.1 i.2.1]) (fun i : (List Int) × Nat × GConfig × GState => (i.1.length ≤ 200) ∧ (i.2.1 ≤ 70000) ∧ (CfgOk i.2.2.1) ∧ (StOk i.2.2.1 i.2.2.2)) (fun i : (List Int) × Nat × GConfig × GState => ⟨vEntry (entryM i.2.2.1 i.2.2.2 i.1 i.2.1).1, [tapeO i.1 (entryM i.2.2.1 i.2.2.2 i.1 i.2.1).2]⟩)
@[simp] theorem entryMSp_eq {L : List Int} {j : Nat} {C : GConfig} {s : GState} (h1 : L.length ≤ 200) (h2 : j ≤ 70000) (h3 : CfgOk C) (h4 : StOk C s) : entryMSp ([V.ptr 0 0 0, vConfig C, vState s]) ([tapeO L j]) = some (⟨vEntry (entryM C s L j).1, [tapeO L (entryM C s L j).2]⟩) :=
  fam_eq (A := fun i : (List Int) × Nat × GConfig × GState => [V.ptr 0 0 0, vConfig i.2.2.1, vState i.2.2.2]) (O := fun i : (List Int) × Nat × GConfig × GState => [tapeO i.1 i.2.1]) (res := fun i : (List Int) × Nat × GConfig × GState => ⟨vEntry (entryM i.2.2.1 i.2.2.2 i.1 i.2.1).1, [tapeO i.1 (entryM i.2.2.1 i.2.2.2 i.1 i.2.1).2]⟩) (entryM_inj) (L, j, C, s) ⟨h1, h2, h3, h4⟩

set_option maxHeartbeats 4000000 in
theorem entryM_spec : Lift.Spec Tryd.prog 28 entryMSp := by
  refine spec_famS Tryd.func28 (by kernel_rfl) rfl ?_ types_ok
  rintro ⟨L, j, C, s⟩ ⟨h1, hj, c, hs⟩
  try simp only at h1 hj c hs
  refine ⟨Nat.le_of_ble_eq_true (by kernel_rfl), ?_⟩
  intro r hr
  refine sem_at (C := CME) types_ok CME_ok follows Tryd.f28 [] [1,1,1] (by simp only [bodyC, Tryd.f28, Option.getD_some, subC]; rfl) (by kernel_rfl) ?_
  have ht := hs.tick
  have N1 := nextSp_eq (L := L) (j := j) (n := 4) h1 (by omega) (by decide) (by decide)
  have N2 := yesSp_eq (L := L) (j := j + 1) (n := 20) h1 (by omega) (by decide) (by decide)
  simp only [tapeO] at N1 N2
  have d0 := dr_nonneg L j (show (0 : Int) < 4 by decide)
  have d1 := dr_lt L j (show (0 : Int) < 4 by decide)
  have w1 : IntKind.i64.wrap (s.Tick + dr L j 4) = s.Tick + dr L j 4 := wrap_i64_in (by omega) (by omega)
  have w2 : IntKind.i64.wrap (s.Tick - 1) = s.Tick - 1 := wrap_i64_in (by omega) (by omega)
  simp only [entryM] at hr
  by_cases hd : dr L (j + 1) 20 = 0
  · rw [if_pos hd] at hr
    have key := en_4 (j := j + 2) (tick := if 1 < s.Tick then s.Tick - 1 else 0) h1 (by omega) c hs (by split <;> omega) hr
    simp [tapeO, GConfig.cells, GState.cells, N1, N2, w1, w2, hd]
    (repeat refine ⟨⟨by kernel_rfl, by kernel_rfl⟩, ?_⟩)
    try simp [tapeO, GConfig.cells, GState.cells, GEntry.cells, N1, N2, w1, w2, hd]
    refine SemWp.weak ?_ key
    refine weak_at [.inl 0, .inr 4, .inr 5, .inr 6] ?_ ?_ ?_ ?_ <;> simp [tapeO, cfgO, stO, entO, GConfig.cells, GState.cells, GEntry.cells, zeroE]
  · rw [if_neg hd] at hr
    have key := en_4 (j := j + 2) (tick := s.Tick + dr L j 4) h1 (by omega) c hs (by omega) hr
    simp [tapeO, GConfig.cells, GState.cells, N1, N2, w1, hd]
    (repeat refine ⟨⟨by kernel_rfl, by kernel_rfl⟩, ?_⟩)
    try simp [tapeO, GConfig.cells, GState.cells, GEntry.cells, N1, N2, w1, w2, hd]
    refine SemWp.weak ?_ key
    refine weak_at [.inl 0, .inr 4, .inr 5, .inr 6] ?_ ?_ ?_ ?_ <;> simp [tapeO, cfgO, stO, entO, GConfig.cells, GState.cells, GEntry.cells, zeroE]
end Go.Proofs.YtegjhmhhbmnljaaDoor
