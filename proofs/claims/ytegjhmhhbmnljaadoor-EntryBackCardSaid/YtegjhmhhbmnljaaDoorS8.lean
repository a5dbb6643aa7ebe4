/-
  state: proved versions, schemas.
-/
import Derived.Test.YtegjhmhhbmnljaaDoorS7
namespace Go.Proofs.YtegjhmhhbmnljaaDoor
open Go.Lift

/-! ### Prove -/
noncomputable def orBit (p n : Int) : Int := iOr .i64 p (2 ^ n.toNat)
noncomputable def xorBit (p n : Int) : Int := iXor .i64 p (2 ^ n.toNat)
def bakedP (C : GConfig) (n tick : Int) (x : GCellState) : Bool := decide (¬ x.Mode = 3 ∧ x.Running = n ∧ x.Wanted = n ∧ C.Bake ≤ tick - x.Since)
noncomputable def proveF (C : GConfig) (s : GState) (e : GEntry) : GState × Int :=
  if provenB s e.N = true then (zeroS, 4)
  else if s.Cells.any (bakedP C e.N e.Tick) = true then ({ s with Proven := orBit s.Proven e.N }, 0)
  else (zeroS, 15)
theorem pow_bit {v : Nat} (h : v < 32) : (2 : Int) ^ v ≤ 2147483648 ∧ 0 < (2 : Int) ^ v := by
  have h1 : (2 : Int) ^ v = ((2 ^ v : Nat) : Int) := by simp
  have h2 : 2 ^ v ≤ 2 ^ 31 := Nat.pow_le_pow_right (by decide) (by omega)
  have h3 : 0 < 2 ^ v := Nat.pow_pos (by decide)
  rw [h1]
  have : (2 : Nat) ^ 31 = 2147483648 := by decide
  omega
def BakeOk (_ : GConfig) (s : GState) : Prop := ∀ x ∈ s.Cells, 0 ≤ x.Since ∧ x.Since ≤ 1073741824
noncomputable def proveSp := fam (fun i : GConfig × GState × GEntry => [vConfig i.1, wState i.2.1 0 1, vEntry i.2.2]) (fun i : GConfig × GState × GEntry => [tsO i.2.1.Tenants, csO i.2.1.Cells]) (fun i : GConfig × GState × GEntry => (¬ i.2.1.Cells = []) ∧ (i.2.1.Cells.length ≤ 16) ∧ (BakeOk i.1 i.2.1) ∧ (0 ≤ i.2.2.Tick ∧ i.2.2.Tick ≤ 1073741824) ∧ (0 ≤ i.2.2.N ∧ i.2.2.N < 32)) (fun i : GConfig × GState × GEntry => resW (proveF i.1 i.2.1 i.2.2))
@[simp] theorem proveSp_eq {C : GConfig} {s : GState} {e : GEntry} (h1 : ¬ s.Cells = []) (h2 : s.Cells.length ≤ 16) (h3 : BakeOk C s) (h4 : 0 ≤ e.Tick ∧ e.Tick ≤ 1073741824) (h5 : 0 ≤ e.N ∧ e.N < 32) : proveSp ([vConfig C, wState s 0 1, vEntry e]) ([tsO s.Tenants, csO s.Cells]) = some (resW (proveF C s e)) :=
  fam_eq (A := fun i : GConfig × GState × GEntry => [vConfig i.1, wState i.2.1 0 1, vEntry i.2.2]) (O := fun i : GConfig × GState × GEntry => [tsO i.2.1.Tenants, csO i.2.1.Cells]) (res := fun i : GConfig × GState × GEntry => resW (proveF i.1 i.2.1 i.2.2)) (by rintro ⟨C, s, e⟩ ⟨C', s', e'⟩ h h'; cases s; cases s'; simp at h h'; simp_all) (C, s, e) ⟨h1, h2, h3, h4, h5⟩
@[simp] theorem proveSp_none {c e : V} {s : GState} {os : List AObj} : proveSp [c, vState s, e] os = none := fam_none (fun i h _ => by simp only [vState, GState.cells, List.cons.injEq, V.agg.injEq, reduceCtorEq, false_and, and_false] at h)

def proveSt (C : GConfig) (s : GState) (e : GEntry) (i : Nat) : St := mkSt [(3, .ptr 2 0 0), (4, .ptr 3 0 0), (5, .ptr 4 0 0), (6, .ptr 5 0 0), (7, .int .i64 0), (8, .int .i64 i)] [(0, tsO s.Tenants), (1, csO s.Cells), (2, cfgO C), (3, boxW s), (4, entO e), (5, zsO)] 6
set_option maxHeartbeats 40000000 in
theorem prove_spec : Lift.Spec Tryd.prog 86 proveSp := by
  refine spec_fam (C := CZ7) types_ok CZ7_ok follows Tryd.func86 (by kernel_rfl) rfl (by kernel_rfl) rfl ?_
  rintro ⟨C, s, e⟩ ⟨hcn, hM, hB, e4, e6⟩
  try simp only at hcn hM hB e4 e6
  refine ⟨by simp, ?_⟩
  intro r hr
  obtain ⟨kd, tk, tn, ce, ot, ep, fr, un, n⟩ := e
  simp only at *
  obtain ⟨v, rfl⟩ := Int.eq_ofNat_of_zero_le e6.1
  have hv : v < 32 := by omega
  obtain ⟨p1, p2⟩ := pow_bit hv
  have b1 : IntKind.u64.wrap (v : Int) = (v : Int) := wrap_u64_in (by omega) (by omega)
  have b2 : min v 64 = v := by omega
  have b3 : IntKind.i64.wrap ((2 : Int) ^ v) = (2 : Int) ^ v := wrap_i64_in (by omega) (by omega)
  cases hp : provenB s v
  rotate_left
  · simp [GConfig.cells, GEntry.cells, hp]
    ((repeat refine ⟨⟨by kernel_rfl, by kernel_rfl⟩, ?_⟩); rw [hr]; refine retDead' rfl ?_ ?_ ⟨rfl, by decide⟩ ⟨rfl, by decide⟩ (by simp [stV_closed]) ?_ <;> simp [aliveG, proveF, hp])
  have hF : proveF C s ⟨kd, tk, tn, ce, ot, ep, fr, un, v⟩ = if s.Cells.any (bakedP C v tk) = true then ({ s with Proven := orBit s.Proven v }, 0) else (zeroS, 15) := by simp [proveF, hp]
  simp [GConfig.cells, GEntry.cells, hp]
  refine axwp_loop (proveSt C s ⟨kd, tk, tn, ce, ot, ep, fr, un, v⟩) (fun i => i ≤ s.Cells.length ∧ NoneTo (bakedP C v tk) s.Cells i) (fun i => s.Cells.length - i) 0 ?_ ⟨Nat.zero_le _, NoneTo.zero _ _⟩ ?_
  · refine weak_at2 [.inl 0, .inl 1, .inr 3, .inr 4, .inr 5, .inr 6] ?_ ?_ ?_ ?_ ?_ <;> simp [cfgO, entO, zsO, GConfig.cells, GEntry.cells]
  rintro i ⟨hi, hnone⟩
  by_cases hik : i < s.Cells.length
  · have w4 : IntKind.i64.wrap ((i : Int) + 1) = (i : Int) + 1 := wrap_i64_in (by omega) (by omega)
    obtain ⟨x, hx, hx', hxm⟩ := get_of_lt hik
    have hsn := hB x hxm
    have w5 : IntKind.i64.wrap (tk - x.Since) = tk - x.Since := wrap_i64_in (by omega) (by omega)
    have next : bakedP C v tk x = false → i + 1 ≤ s.Cells.length ∧ NoneTo (bakedP C v tk) s.Cells (i + 1) := fun h => ⟨hik, hnone.succ hx h⟩
    have ha : bakedP C v tk x = true → s.Cells.any (bakedP C v tk) = true := fun h => any_at hx h
    by_cases g1 : x.Mode = 3
    · simp [proveSt, cfgO, entO, zsO, GConfig.cells, GEntry.cells, GCellState.cells, hik, hx', g1]
      refine Again.mk (i + 1) (next (by simp [bakedP, g1])) (by omega) ?_
      refine weak_at2 [.inl 0, .inl 1, .inr 3, .inr 4, .inr 5, .inr 6] ?_ ?_ ?_ ?_ ?_ <;> simp [cfgO, entO, zsO, GConfig.cells, GEntry.cells, w4]
    by_cases g2 : x.Running = (v : Int)
    rotate_left
    · simp [proveSt, cfgO, entO, zsO, GConfig.cells, GEntry.cells, GCellState.cells, hik, hx', g1, g2]
      refine Again.mk (i + 1) (next (by simp [bakedP, g2])) (by omega) ?_
      refine weak_at2 [.inl 0, .inl 1, .inr 3, .inr 4, .inr 5, .inr 6] ?_ ?_ ?_ ?_ ?_ <;> simp [cfgO, entO, zsO, GConfig.cells, GEntry.cells, w4]
    by_cases g3 : x.Wanted = (v : Int)
    rotate_left
    · simp [proveSt, cfgO, entO, zsO, GConfig.cells, GEntry.cells, GCellState.cells, hik, hx', g1, g2, g3]
      refine Again.mk (i + 1) (next (by simp [bakedP, g3])) (by omega) ?_
      refine weak_at2 [.inl 0, .inl 1, .inr 3, .inr 4, .inr 5, .inr 6] ?_ ?_ ?_ ?_ ?_ <;> simp [cfgO, entO, zsO, GConfig.cells, GEntry.cells, w4]
    by_cases g4 : C.Bake ≤ tk - x.Since
    rotate_left
    · simp [proveSt, cfgO, entO, zsO, GConfig.cells, GEntry.cells, GCellState.cells, hik, hx', g1, g2, g3, w5, g4]
      refine Again.mk (i + 1) (next (by simp [bakedP, g4])) (by omega) ?_
      refine weak_at2 [.inl 0, .inl 1, .inr 3, .inr 4, .inr 5, .inr 6] ?_ ?_ ?_ ?_ ?_ <;> simp [cfgO, entO, zsO, GConfig.cells, GEntry.cells, w4]
    have hall := ha (by simp [bakedP, g1, g2, g3, g4])
    simp [proveSt, cfgO, entO, zsO, GConfig.cells, GEntry.cells, GCellState.cells, hik, hx', g1, g2, g3, w5, g4, b1, b2, b3]
    ((repeat refine ⟨⟨by kernel_rfl, by kernel_rfl⟩, ?_⟩); rw [hr]; refine retDead' rfl ?_ ?_ ⟨rfl, by decide⟩ ⟨rfl, by decide⟩ (by simp [stV_closed]) ?_ <;> simp [aliveG, hF, hall, orBit])
  · have e : i = s.Cells.length := by omega
    subst e
    have ha := hnone.whole
    simp [proveSt, cfgO, entO, zsO, GConfig.cells, GEntry.cells]
    ((repeat refine ⟨⟨by kernel_rfl, by kernel_rfl⟩, ?_⟩); rw [hr]; refine retDead' rfl ?_ ?_ ⟨rfl, by decide⟩ ⟨rfl, by decide⟩ (by simp [stV_closed]) ?_ <;> simp [aliveG, hF, ha])

/-! ### Expand -/
def lowP (C : GConfig) (s : GState) (x : GCellState) : Bool := decide ((verAt C x.Running).High ≤ s.High ∨ (verAt C x.Wanted).High ≤ s.High)
def expandF (C : GConfig) (s : GState) : GState × Int :=
  if s.Low < s.High then (zeroS, 4)
  else if 30 ≤ s.High then (zeroS, 2)
  else if s.Cells.any (lowP C s) = true then (zeroS, 13)
  else ({ s with High := s.High + 1 }, 0)
def VerOk (C : GConfig) (s : GState) : Prop := ∀ x ∈ s.Cells, (0 ≤ x.Running ∧ x.Running < C.Versions.length) ∧ 0 ≤ x.Wanted ∧ x.Wanted < C.Versions.length
noncomputable def expandSp := fam (fun i : GConfig × GState => [vConfig i.1, wState i.2 0 1]) (fun i : GConfig × GState => [tsO i.2.Tenants, csO i.2.Cells]) (fun i : GConfig × GState => (¬ i.2.Cells = []) ∧ (i.2.Cells.length ≤ 16) ∧ (VerOk i.1 i.2) ∧ (0 ≤ i.2.High ∧ i.2.High ≤ 30)) (fun i : GConfig × GState => resW (expandF i.1 i.2))
@[simp] theorem expandSp_eq {C : GConfig} {s : GState} (h1 : ¬ s.Cells = []) (h2 : s.Cells.length ≤ 16) (h3 : VerOk C s) (h4 : 0 ≤ s.High ∧ s.High ≤ 30) : expandSp ([vConfig C, wState s 0 1]) ([tsO s.Tenants, csO s.Cells]) = some (resW (expandF C s)) :=
  fam_eq (A := fun i : GConfig × GState => [vConfig i.1, wState i.2 0 1]) (O := fun i : GConfig × GState => [tsO i.2.Tenants, csO i.2.Cells]) (res := fun i : GConfig × GState => resW (expandF i.1 i.2)) (by rintro ⟨C, s⟩ ⟨C', s'⟩ h h'; cases s; cases s'; simp at h h'; simp_all) (C, s) ⟨h1, h2, h3, h4⟩
@[simp] theorem expandSp_none {c : V} {s : GState} {os : List AObj} : expandSp [c, vState s] os = none := fam_none (fun i h _ => by simp only [vState, GState.cells, List.cons.injEq, V.agg.injEq, reduceCtorEq, false_and, and_false] at h)

def expandSt (C : GConfig) (s : GState) (i : Nat) : St := mkSt [(2, .ptr 2 0 0), (3, .ptr 3 0 0), (4, .ptr 4 0 0), (5, .int .i64 0), (6, .int .i64 i)] [(0, tsO s.Tenants), (1, csO s.Cells), (2, cfgO C), (3, boxW s), (4, zsO)] 5
set_option maxHeartbeats 40000000 in
theorem expand_spec : Lift.Spec Tryd.prog 87 expandSp := by
  refine spec_fam (C := CZ7) types_ok CZ7_ok follows Tryd.func87 (by kernel_rfl) rfl (by kernel_rfl) rfl ?_
  rintro ⟨C, s⟩ ⟨hcn, hM, hV, hH⟩
  try simp only at hcn hM hV hH
  refine ⟨by simp, ?_⟩
  intro r hr
  by_cases g1 : s.Low < s.High
  · simp [GConfig.cells, g1]
    ((repeat refine ⟨⟨by kernel_rfl, by kernel_rfl⟩, ?_⟩); rw [hr]; refine retDead' rfl ?_ ?_ ⟨rfl, by decide⟩ ⟨rfl, by decide⟩ (by simp [stV_closed]) ?_ <;> simp [aliveG, expandF, g1])
  by_cases g2 : 30 ≤ s.High
  · simp [GConfig.cells, g1, g2]
    ((repeat refine ⟨⟨by kernel_rfl, by kernel_rfl⟩, ?_⟩); rw [hr]; refine retDead' rfl ?_ ?_ ⟨rfl, by decide⟩ ⟨rfl, by decide⟩ (by simp [stV_closed]) ?_ <;> simp [aliveG, expandF, g1, g2])
  have hF : expandF C s = if s.Cells.any (lowP C s) = true then (zeroS, 13) else ({ s with High := s.High + 1 }, 0) := by simp [expandF, g1, g2]
  have wH : IntKind.i64.wrap (s.High + 1) = s.High + 1 := wrap_i64_in (by omega) (by omega)
  simp [GConfig.cells, g1, g2]
  refine axwp_loop (expandSt C s) (fun i => i ≤ s.Cells.length ∧ NoneTo (lowP C s) s.Cells i) (fun i => s.Cells.length - i) 0 ?_ ⟨Nat.zero_le _, NoneTo.zero _ _⟩ ?_
  · refine weak_at2 [.inl 0, .inl 1, .inr 2, .inr 3, .inr 4] ?_ ?_ ?_ ?_ ?_ <;> simp [cfgO, zsO, GConfig.cells]
  rintro i ⟨hi, hnone⟩
  by_cases hik : i < s.Cells.length
  · have w4 : IntKind.i64.wrap ((i : Int) + 1) = (i : Int) + 1 := wrap_i64_in (by omega) (by omega)
    obtain ⟨x, hx, hx', hxm⟩ := get_of_lt hik
    obtain ⟨⟨r0, r1⟩, u0, u1⟩ := hV x hxm
    obtain ⟨a, ha⟩ := Int.eq_ofNat_of_zero_le r0
    obtain ⟨b, hb⟩ := Int.eq_ofNat_of_zero_le u0
    have hal : a < C.Versions.length := by omega
    have hbl : b < C.Versions.length := by omega
    obtain ⟨va, hva, hva', _⟩ := get_of_lt hal
    obtain ⟨vb, hvb, hvb', _⟩ := get_of_lt hbl
    have ea : verAt C a = va := by simp [verAt, hva]
    have eb : verAt C b = vb := by simp [verAt, hvb]
    have hP : lowP C s x = decide (va.High ≤ s.High ∨ vb.High ≤ s.High) := by simp only [lowP, ha, hb, ea, eb]
    by_cases h1 : va.High ≤ s.High
    · have hall : s.Cells.any (lowP C s) = true := any_at hx (by rw [hP]; simp [h1])
      simp [expandSt, cfgO, zsO, GConfig.cells, GCellState.cells, hik, hx', ha, hb, hal, hva', GVersion.cells, h1]
      ((repeat refine ⟨⟨by kernel_rfl, by kernel_rfl⟩, ?_⟩); rw [hr]; refine retDead' rfl ?_ ?_ ⟨rfl, by decide⟩ ⟨rfl, by decide⟩ (by simp [stV_closed]) ?_ <;> simp [aliveG, hF, hall])
    by_cases h2 : vb.High ≤ s.High
    · have hall : s.Cells.any (lowP C s) = true := any_at hx (by rw [hP]; simp [h2])
      simp [expandSt, cfgO, zsO, GConfig.cells, GCellState.cells, hik, hx', ha, hb, hal, hbl, hva', hvb', GVersion.cells, h1, h2]
      ((repeat refine ⟨⟨by kernel_rfl, by kernel_rfl⟩, ?_⟩); rw [hr]; refine retDead' rfl ?_ ?_ ⟨rfl, by decide⟩ ⟨rfl, by decide⟩ (by simp [stV_closed]) ?_ <;> simp [aliveG, hF, hall])
    simp [expandSt, cfgO, zsO, GConfig.cells, GCellState.cells, hik, hx', ha, hb, hal, hbl, hva', hvb', GVersion.cells, h1, h2]
    (repeat refine ⟨⟨by kernel_rfl, by kernel_rfl⟩, ?_⟩)
    refine Again.mk (i + 1) ⟨hik, hnone.succ hx (by rw [hP]; simp [h1, h2])⟩ (by omega) ?_
    refine weak_at2 [.inl 0, .inl 1, .inr 2, .inr 3, .inr 4] ?_ ?_ ?_ ?_ ?_ <;> simp [cfgO, zsO, GConfig.cells, w4]
  · have e : i = s.Cells.length := by omega
    subst e
    have ha := hnone.whole
    simp [expandSt, cfgO, zsO, GConfig.cells, wH]
    ((repeat refine ⟨⟨by kernel_rfl, by kernel_rfl⟩, ?_⟩); rw [hr]; refine retDead' rfl ?_ ?_ ⟨rfl, by decide⟩ ⟨rfl, by decide⟩ (by simp [stV_closed]) ?_ <;> simp [aliveG, hF, ha])
end Go.Proofs.YtegjhmhhbmnljaaDoor
