/-
  make: entries out of a tape: pick, none, platform.
-/
import Derived.Test.YtegjhmhhbmnljaaDoorSC
namespace Go.Proofs.YtegjhmhhbmnljaaDoor
open Go.Lift

theorem tape_eq {L L' : List Int} {j j' : Nat} (h : tapeO L j = tapeO L' j') : L = L' ∧ (L = [] ∨ j = j') := by
  simp [tapeO] at h
  obtain ⟨rfl, hp⟩ := h
  refine ⟨rfl, ?_⟩
  by_cases hL : L = []
  · exact .inl hL
  · simp [tpos, hL] at hp
    exact .inr (by omega)
theorem tape_nil (j : Nat) : tapeO [] j = tapeO [] 0 := by simp [tapeO, tpos]
theorem dr_nil (j : Nat) (n : Int) : dr [] j n = 0 := by simp [dr]

noncomputable def pickM (L : List Int) (j : Nat) (xs : List Int) : Int × Nat := if xs = [] then (-1, j) else (xs.getD (dr L j xs.length).toNat 0, j + 1)
theorem pick_inj : ∀ i j : List Int × Nat × List Int, [V.ptr 0 0 0, .sl 2 1 (intRow i.2.2)] = [V.ptr 0 0 0, .sl 2 1 (intRow j.2.2)] → [tapeO i.1 i.2.1] = [tapeO j.1 j.2.1] → (⟨.int .i64 (pickM i.1 i.2.1 i.2.2).1, [tapeO i.1 (pickM i.1 i.2.1 i.2.2).2]⟩ : CRes) = ⟨.int .i64 (pickM j.1 j.2.1 j.2.2).1, [tapeO j.1 (pickM j.1 j.2.1 j.2.2).2]⟩ := by
  rintro ⟨L, j, xs⟩ ⟨L', j', xs'⟩ h h'
  obtain ⟨rfl, h1⟩ := tape_eq (List.cons.inj h').1
  simp at h
  subst h
  rcases h1 with h1 | h1
  · simp only at h1
    subst h1
    simp only [pickM, dr_nil]
    split <;> simp [tape_nil j, tape_nil j', tape_nil (j + 1), tape_nil (j' + 1)]
  · simp only at h1
    subst h1; rfl
noncomputable def pickSp := fam (fun i : (List Int) × Nat × (List Int) => [V.ptr 0 0 0, .sl 2 1 (intRow i.2.2)]) (fun i : (List Int) × Nat × (List Int) => [tapeO i.1 i.2.1]) (fun i : (List Int) × Nat × (List Int) => (i.1.length ≤ 200) ∧ (i.2.1 ≤ 100000) ∧ (i.2.2.length ≤ 100000)) (fun i : (List Int) × Nat × (List Int) => ⟨.int .i64 (pickM i.1 i.2.1 i.2.2).1, [tapeO i.1 (pickM i.1 i.2.1 i.2.2).2]⟩)
@[simp] theorem pickSp_eq {L : List Int} {j : Nat} {xs : List Int} (h1 : L.length ≤ 200) (h2 : j ≤ 100000) (h3 : xs.length ≤ 100000) : pickSp ([V.ptr 0 0 0, .sl 2 1 (intRow xs)]) ([tapeO L j]) = some (⟨.int .i64 (pickM L j xs).1, [tapeO L (pickM L j xs).2]⟩) :=
  fam_eq (A := fun i : (List Int) × Nat × (List Int) => [V.ptr 0 0 0, .sl 2 1 (intRow i.2.2)]) (O := fun i : (List Int) × Nat × (List Int) => [tapeO i.1 i.2.1]) (res := fun i : (List Int) × Nat × (List Int) => ⟨.int .i64 (pickM i.1 i.2.1 i.2.2).1, [tapeO i.1 (pickM i.1 i.2.1 i.2.2).2]⟩) (pick_inj) (L, j, xs) ⟨h1, h2, h3⟩

theorem pick_spec : Lift.Spec Tryd.prog 44 pickSp := by
  refine spec_fam (C := CM3) types_ok CM3_ok follows Tryd.func44 (by kernel_rfl) rfl (by kernel_rfl) rfl ?_
  rintro ⟨L, j, xs⟩ ⟨h1, h2, h3⟩
  try simp only at h1 h2 h3
  refine ⟨by simp, ?_⟩
  intro r hr
  by_cases hx : xs = []
  · subst hx
    simp [tapeO]
    rw [hr]
    refine ret_at [.inl 0] rfl ?_ ?_ (by simp) ?_ ?_ ?_ ?_ <;> simp [tapeO, pickM]
  · have hp : 0 < xs.length := List.length_pos_iff.2 hx
    have h6 : (0 : Int) < xs.length := by omega
    have h7 : (xs.length : Int) ≤ 1099511627776 := by omega
    have h8 := dr_nonneg L j h6
    have h9 := dr_lt L j h6
    have hN := nextSp_eq h1 h2 h6 h7
    simp only [tapeO] at hN
    simp only [pickM, if_neg hx] at hr
    generalize dr L j (xs.length : Int) = d at *
    obtain ⟨k, rfl⟩ := Int.eq_ofNat_of_zero_le h8
    have hk : k < xs.length := by omega
    obtain ⟨y, hy, hy', _⟩ := get_of_lt hk
    simp [tapeO, hx, hN, hk, hy']
    rw [hr]
    refine ret_at [.inl 0] rfl ?_ ?_ (by simp) ?_ ?_ ?_ ?_ <;> simp [tapeO, hy]
def noneE (kind tick : Int) : GEntry := ⟨kind, tick, -1, -1, -1, 0, 0, 0, 0⟩
noncomputable def noneSp := fam (fun i : Int × Int => [.int .i64 i.1, .int .i64 i.2]) (fun _ : Int × Int => []) (fun _ : Int × Int => True) (fun i : Int × Int => ⟨vEntry (noneE i.1 i.2), []⟩)
@[simp] theorem noneSp_eq {kind : Int} {tick : Int}  : noneSp ([.int .i64 kind, .int .i64 tick]) ([]) = some (⟨vEntry (noneE kind tick), []⟩) :=
  fam_eq (A := fun i : Int × Int => [.int .i64 i.1, .int .i64 i.2]) (O := fun _ : Int × Int => []) (res := fun i : Int × Int => ⟨vEntry (noneE i.1 i.2), []⟩) (by rintro ⟨a0, a1⟩ ⟨b0, b1⟩ h h' <;> simp at h h' <;> simp_all) (kind, tick) trivial

theorem none_spec : Lift.Spec Tryd.prog 43 noneSp := by
  refine spec_fam (C := C0) types_ok C0_ok follows Tryd.func43 (by kernel_rfl) rfl (by kernel_rfl) rfl ?_
  rintro ⟨kind, tick⟩ _
  refine ⟨by simp, ?_⟩
  intro r hr
  simp [GEntry.cells]
  rw [hr]
  refine ret_closed rfl ?_ (vEntry_closed _)
  simp [noneE]
noncomputable def platM (C : GConfig) (s : GState) (tick : Int) (L : List Int) (j : Nat) : GEntry × Nat :=
  let k := dr L j C.Cells.length
  let d := dr L (j + 1) 12
  let e := noneE 16 tick
  if d = 0 then ({ e with Kind := 9, Cell := k, N := 1 + dr L (j + 2) 3 }, j + 3)
  else if d = 1 then ({ e with Kind := 9, Cell := k, N := 1 }, j + 2)
  else if d = 2 ∨ d = 3 ∨ d = 4 then ({ e with Kind := 10, Cell := k, N := dr L (j + 2) C.Versions.length }, j + 3)
  else if d = 5 ∨ d = 6 ∨ d = 7 then ({ e with Kind := 11, Cell := k, N := (cellSt s k).Wanted, Tick := tick + dr L (j + 2) C.Lease }, j + 3)
  else if d = 8 then ({ e with Kind := 12, N := (cellSt s k).Running, Tick := tick + dr L (j + 2) (C.Bake + 1) }, j + 3)
  else if d = 9 then ({ e with Kind := 13, Other := dr L (j + 2) C.Regions, N := if hasB s.Evacuating (dr L (j + 2) C.Regions) = true then 0 else 1 }, j + 3)
  else if d = 10 then ({ e with Kind := if s.Low < s.High then 15 else 14 }, j + 2)
  else ({ e with N := dr L (j + 2) 100 }, j + 3)
def posK (p : GEntry × Nat) (L : List Int) : GEntry × Int := (p.1, tpos L p.2)
theorem plat_nil (C : GConfig) (s : GState) (tick : Int) (j : Nat) : (platM C s tick [] j).1 = (platM C s tick [] 0).1 := by
  simp only [platM, dr_nil]
  rfl
theorem plat_inj : ∀ i j : List Int × Nat × GConfig × GState × Int, [V.ptr 0 0 0, vConfig i.2.2.1, vState i.2.2.2.1, .int .i64 i.2.2.2.2] = [V.ptr 0 0 0, vConfig j.2.2.1, vState j.2.2.2.1, .int .i64 j.2.2.2.2] → [tapeO i.1 i.2.1] = [tapeO j.1 j.2.1] → (⟨vEntry (platM i.2.2.1 i.2.2.2.1 i.2.2.2.2 i.1 i.2.1).1, [tapeO i.1 (platM i.2.2.1 i.2.2.2.1 i.2.2.2.2 i.1 i.2.1).2]⟩ : CRes) = ⟨vEntry (platM j.2.2.1 j.2.2.2.1 j.2.2.2.2 j.1 j.2.1).1, [tapeO j.1 (platM j.2.2.1 j.2.2.2.1 j.2.2.2.2 j.1 j.2.1).2]⟩ := by
  rintro ⟨L, j, C, s, k⟩ ⟨L', j', C', s', k'⟩ h h'
  obtain ⟨rfl, h1⟩ := tape_eq (List.cons.inj h').1
  simp at h
  obtain ⟨rfl, rfl, rfl⟩ := h
  rcases h1 with h1 | h1
  · simp only at h1
    subst h1
    simp only
    rw [plat_nil, plat_nil C s k j', tape_nil, tape_nil (platM C s k [] j').2]
  · simp only at h1
    subst h1; rfl
noncomputable def CMP := mkC [(39, nextSp), (40, rangeSp), (43, noneSp), (62, hasSp)]
theorem CMP_ok : SpecsOk Tryd.prog CMP := mkC_ok (all_cons next_spec (all_cons range_spec (all_cons none_spec (all_cons has_spec all_nil))))
@[simp] theorem CMP_1 : CMP 39 = nextSp := rfl
@[simp] theorem CMP_2 : CMP 40 = rangeSp := rfl
@[simp] theorem CMP_3 : CMP 43 = noneSp := rfl
@[simp] theorem CMP_4 : CMP 62 = hasSp := rfl

noncomputable def platSp := fam (fun i : (List Int) × Nat × GConfig × GState × Int => [V.ptr 0 0 0, vConfig i.2.2.1, vState i.2.2.2.1, .int .i64 i.2.2.2.2]) (fun i : (List Int) × Nat × GConfig × GState × Int => [tapeO i.1 i.2.1]) (fun i : (List Int) × Nat × GConfig × GState × Int => (i.1.length ≤ 200) ∧ (i.2.1 ≤ 90000) ∧ (CfgOk i.2.2.1) ∧ (StOk i.2.2.1 i.2.2.2.1) ∧ (0 ≤ i.2.2.2.2 ∧ i.2.2.2.2 ≤ 2147483648)) (fun i : (List Int) × Nat × GConfig × GState × Int => ⟨vEntry (platM i.2.2.1 i.2.2.2.1 i.2.2.2.2 i.1 i.2.1).1, [tapeO i.1 (platM i.2.2.1 i.2.2.2.1 i.2.2.2.2 i.1 i.2.1).2]⟩)
@[simp] theorem platSp_eq {L : List Int} {j : Nat} {C : GConfig} {s : GState} {tick : Int} (h1 : L.length ≤ 200) (h2 : j ≤ 90000) (h3 : CfgOk C) (h4 : StOk C s) (h5 : 0 ≤ tick ∧ tick ≤ 2147483648) : platSp ([V.ptr 0 0 0, vConfig C, vState s, .int .i64 tick]) ([tapeO L j]) = some (⟨vEntry (platM C s tick L j).1, [tapeO L (platM C s tick L j).2]⟩) :=
  fam_eq (A := fun i : (List Int) × Nat × GConfig × GState × Int => [V.ptr 0 0 0, vConfig i.2.2.1, vState i.2.2.2.1, .int .i64 i.2.2.2.2]) (O := fun i : (List Int) × Nat × GConfig × GState × Int => [tapeO i.1 i.2.1]) (res := fun i : (List Int) × Nat × GConfig × GState × Int => ⟨vEntry (platM i.2.2.1 i.2.2.2.1 i.2.2.2.2 i.1 i.2.1).1, [tapeO i.1 (platM i.2.2.1 i.2.2.2.1 i.2.2.2.2 i.1 i.2.1).2]⟩) (plat_inj) (L, j, C, s, tick) ⟨h1, h2, h3, h4, h5⟩

theorem below12 {d : Int} (h : 0 ≤ d) (h' : d < 12) : d = 0 ∨ d = 1 ∨ d = 2 ∨ d = 3 ∨ d = 4 ∨ d = 5 ∨ d = 6 ∨ d = 7 ∨ d = 8 ∨ d = 9 ∨ d = 10 ∨ d = 11 := by omega
set_option maxHeartbeats 4000000 in
theorem platform_spec : Lift.Spec Tryd.prog 42 platSp := by
  refine spec_fam (C := CMP) types_ok CMP_ok follows Tryd.func42 (by kernel_rfl) rfl (by kernel_rfl) rfl ?_
  rintro ⟨L, j, C, s, tick⟩ ⟨h1, h2, c, hs, ht⟩
  try simp only at h1 h2 c hs ht
  refine ⟨by simp, ?_⟩
  intro r hr
  have hN := hs.N
  have hcN := c.topo.N
  have hcV := c.topo.V
  have hcR := c.topo.R
  have hcL := c.topo.lease
  have hcB := c.topo.bake
  have g1 : (0 : Int) < C.Cells.length := by omega
  have g2 : (C.Cells.length : Int) ≤ 1099511627776 := by omega
  have g3 : (0 : Int) < C.Versions.length := by omega
  have g4 : (C.Versions.length : Int) ≤ 1099511627776 := by omega
  have g5 : (0 : Int) < C.Lease := by omega
  have g6 : C.Lease ≤ 1099511627776 := by omega
  have g7 : (0 : Int) < C.Bake + 1 := by omega
  have g8 : C.Bake + 1 ≤ 1099511627776 := by omega
  have g9 : (0 : Int) < C.Regions := by omega
  have g10 : C.Regions ≤ 1099511627776 := by omega
  have j0 : j ≤ 100000 := by omega
  have j1 : j + 1 ≤ 100000 := by omega
  have j2 : j + 2 ≤ 100000 := by omega
  have N1 := nextSp_eq h1 j0 g1 g2
  have N2 := nextSp_eq (n := 12) h1 j1 (by decide) (by decide)
  have N3 := rangeSp_eq (low := 1) (high := 3) h1 j2 (by decide) (by decide) (by decide)
  have N4 := nextSp_eq h1 j2 g3 g4
  have N5 := nextSp_eq h1 j2 g5 g6
  have N6 := nextSp_eq h1 j2 g7 g8
  have N7 := nextSp_eq h1 j2 g9 g10
  have N8 := nextSp_eq (n := 100) h1 j2 (by decide) (by decide)
  have d0 := dr_nonneg L j g1
  have d1 := dr_lt L j g1
  have p5 := dr_nonneg L (j + 2) g5
  have q5 := dr_lt L (j + 2) g5
  have p7 := dr_nonneg L (j + 2) g7
  have q7 := dr_lt L (j + 2) g7
  have w1 : IntKind.i64.wrap (tick + dr L (j + 2) C.Lease) = tick + dr L (j + 2) C.Lease := wrap_i64_in (by omega) (by omega)
  have w2 : IntKind.i64.wrap (tick + dr L (j + 2) (C.Bake + 1)) = tick + dr L (j + 2) (C.Bake + 1) := wrap_i64_in (by omega) (by omega)
  have w3 : IntKind.i64.wrap (C.Bake + 1) = C.Bake + 1 := wrap_i64_in (by omega) (by omega)
  have dd := below12 (dr_nonneg L (j + 1) (show (0 : Int) < 12 by decide)) (dr_lt L (j + 1) (show (0 : Int) < 12 by decide))
  simp only [platM] at hr
  simp only [tapeO] at N1 N2 N3 N4 N5 N6 N7 N8
  generalize hd : dr L (j + 1) 12 = d at *
  generalize hk : dr L j (C.Cells.length : Int) = k at *
  clear hk hd
  obtain ⟨k, rfl⟩ := Int.eq_ofNat_of_zero_le d0
  have hkl : k < s.Cells.length := by omega
  obtain ⟨x, hx, hx', _⟩ := get_of_lt hkl
  have hc : cellSt s k = x := by simp [cellSt, hx]
  rw [hc] at hr
  have hL2 : ∀ a b : Int, a < b ∨ ¬ a < b := fun a b => Decidable.em _
  have hz : hasB s.Evacuating (dr L (j + 2) C.Regions) = true ∨ hasB s.Evacuating (dr L (j + 2) C.Regions) = false := by cases hasB s.Evacuating (dr L (j + 2) C.Regions) <;> simp
  rcases dd with rfl | rfl | rfl | rfl | rfl | rfl | rfl | rfl | rfl | rfl | rfl | rfl
  · simp [tapeO, GConfig.cells, GState.cells, GCellState.cells, GEntry.cells, noneE, hkl, hx', N1, N2, N3]
    rw [hr]
    refine ret_at [.inl 0] rfl ?_ ?_ (by simp) ?_ ?_ ?_ ?_ <;> simp [tapeO, noneE]
  · simp [tapeO, GConfig.cells, GState.cells, GCellState.cells, GEntry.cells, noneE, hkl, hx', N1, N2]
    rw [hr]
    refine ret_at [.inl 0] rfl ?_ ?_ (by simp) ?_ ?_ ?_ ?_ <;> simp [tapeO, noneE]
  · simp [tapeO, GConfig.cells, GState.cells, GCellState.cells, GEntry.cells, noneE, hkl, hx', N1, N2, N4]
    rw [hr]
    refine ret_at [.inl 0] rfl ?_ ?_ (by simp) ?_ ?_ ?_ ?_ <;> simp [tapeO, noneE]
  · simp [tapeO, GConfig.cells, GState.cells, GCellState.cells, GEntry.cells, noneE, hkl, hx', N1, N2, N4]
    rw [hr]
    refine ret_at [.inl 0] rfl ?_ ?_ (by simp) ?_ ?_ ?_ ?_ <;> simp [tapeO, noneE]
  · simp [tapeO, GConfig.cells, GState.cells, GCellState.cells, GEntry.cells, noneE, hkl, hx', N1, N2, N4]
    rw [hr]
    refine ret_at [.inl 0] rfl ?_ ?_ (by simp) ?_ ?_ ?_ ?_ <;> simp [tapeO, noneE]
  · simp [tapeO, GConfig.cells, GState.cells, GCellState.cells, GEntry.cells, noneE, hkl, hx', N1, N2, N5, w1]
    refine ⟨⟨by kernel_rfl, by kernel_rfl⟩, ?_⟩
    try simp [tapeO, GConfig.cells, GState.cells, GCellState.cells, GEntry.cells, noneE, hkl, hx', N1, N2, N3, N4, N5, N6, N7, N8, w1, w2, w3]
    rw [hr]
    refine ret_at [.inl 0] rfl ?_ ?_ (by simp) ?_ ?_ ?_ ?_ <;> simp [tapeO, noneE]
  · simp [tapeO, GConfig.cells, GState.cells, GCellState.cells, GEntry.cells, noneE, hkl, hx', N1, N2, N5, w1]
    refine ⟨⟨by kernel_rfl, by kernel_rfl⟩, ?_⟩
    try simp [tapeO, GConfig.cells, GState.cells, GCellState.cells, GEntry.cells, noneE, hkl, hx', N1, N2, N3, N4, N5, N6, N7, N8, w1, w2, w3]
    rw [hr]
    refine ret_at [.inl 0] rfl ?_ ?_ (by simp) ?_ ?_ ?_ ?_ <;> simp [tapeO, noneE]
  · simp [tapeO, GConfig.cells, GState.cells, GCellState.cells, GEntry.cells, noneE, hkl, hx', N1, N2, N5, w1]
    refine ⟨⟨by kernel_rfl, by kernel_rfl⟩, ?_⟩
    try simp [tapeO, GConfig.cells, GState.cells, GCellState.cells, GEntry.cells, noneE, hkl, hx', N1, N2, N3, N4, N5, N6, N7, N8, w1, w2, w3]
    rw [hr]
    refine ret_at [.inl 0] rfl ?_ ?_ (by simp) ?_ ?_ ?_ ?_ <;> simp [tapeO, noneE]
  · simp [tapeO, GConfig.cells, GState.cells, GCellState.cells, GEntry.cells, noneE, hkl, hx', N1, N2, N6, w2, w3]
    refine ⟨⟨by kernel_rfl, by kernel_rfl⟩, ?_⟩
    try simp [tapeO, GConfig.cells, GState.cells, GCellState.cells, GEntry.cells, noneE, hkl, hx', N1, N2, N3, N4, N5, N6, N7, N8, w1, w2, w3]
    rw [hr]
    refine ret_at [.inl 0] rfl ?_ ?_ (by simp) ?_ ?_ ?_ ?_ <;> simp [tapeO, noneE]
  · rcases hz with hh | hh
    all_goals
      simp [tapeO, GConfig.cells, GState.cells, GCellState.cells, GEntry.cells, noneE, hkl, hx', N1, N2, N7, hh]
      rw [hr]
      refine ret_at [.inl 0] rfl ?_ ?_ (by simp) ?_ ?_ ?_ ?_ <;> simp [tapeO, noneE, hh]
  · rcases hL2 s.Low s.High with hh | hh
    all_goals
      simp [tapeO, GConfig.cells, GState.cells, GCellState.cells, GEntry.cells, noneE, hkl, hx', N1, N2, hh]
      rw [hr]
      refine ret_at [.inl 0] rfl ?_ ?_ (by simp) ?_ ?_ ?_ ?_ <;> simp [tapeO, noneE, hh]
  · simp [tapeO, GConfig.cells, GState.cells, GCellState.cells, GEntry.cells, noneE, hkl, hx', N1, N2, N8]
    rw [hr]
    refine ret_at [.inl 0] rfl ?_ ?_ (by simp) ?_ ?_ ?_ ?_ <;> simp [tapeO, noneE]
end Go.Proofs.YtegjhmhhbmnljaaDoor
