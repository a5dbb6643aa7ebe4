/-
  make: configurations.
-/
import Derived.Test.YtegjhmhhbmnljaaDoorM1
import Derived.Test.YtegjhmhhbmnljaaDoorPLC
namespace Go.Proofs.YtegjhmhhbmnljaaDoor
open Go.Lift

noncomputable def zGo (L : List Int) (R : Int) : Nat → Nat → Nat → Nat × Nat
  | 0, i, j => (i, j)
  | f + 1, i, j => if (i : Int) < R then zGo L R f (i + 1) j else if dr L j 3 = 0 ∧ i < 6 then zGo L R f (i + 1) (j + 1) else (i, j + 1)
def zonesTo (R : Int) (i : Nat) : List GZone := (List.range i).map fun (k : Nat) => ⟨(k : Int).tmod R⟩
noncomputable def cGo (L : List Int) (m : Nat) : Nat → Nat → Nat → List GCell → List GCell × Nat
  | 0, _, j, acc => (acc, j)
  | f + 1, i, j, acc => if i < m then cGo L m f (i + 1) (j + 1) (acc ++ [⟨(i : Int).tmod m, (1 + dr L j 4) * 10⟩])
    else if dr L j 2 = 0 ∧ i < 7 then cGo L m f (i + 1) (j + 2) (acc ++ [⟨(i : Int).tmod m, (1 + dr L (j + 1) 4) * 10⟩]) else (acc, j + 1)
noncomputable def tenAt (L : List Int) (R : Int) (j : Nat) : GTenant :=
  ⟨1 + dr L j 12, dr L (j + 1) (1 + dr L j 12 + 1), dr L (j + 2) 4, -1 + dr L (j + 3) 5, if dr L (j + 6) 4 = 0 then 1 + dr L (j + 7) (2 ^ R.toNat - 1) else 2 ^ R.toNat - 1, dr L (j + 4) 3, decide (dr L (j + 5) 4 = 0)⟩
noncomputable def tGo (L : List Int) (R : Int) : Nat → Nat → List GTenant → List GTenant × Nat
  | 0, j, acc => (acc, j)
  | c + 1, j, acc => tGo L R c (if dr L (j + 6) 4 = 0 then j + 8 else j + 7) (acc ++ [tenAt L R j])
noncomputable def vGo (L : List Int) : Nat → Nat → List GVersion → List GVersion × Nat
  | 0, j, acc => (acc, j)
  | c + 1, j, acc => vGo L c (j + 2) (acc ++ [⟨dr L j 2, dr L j 2 + dr L (j + 1) 3⟩])
noncomputable def rGo (L : List Int) (m : Nat) : Nat → Nat → List Int → List Int × Nat
  | 0, j, acc => (acc, j)
  | c + 1, j, acc => rGo L m c (j + 1) (acc ++ [dr L j m])

def zonesO (zs : List GZone) : AObj := ⟨78, 1, GZone.row zs, false, 2, .rw⟩
def cellsO (zs : List GCell) : AObj := ⟨80, 2, GCell.row zs, false, 2, .rw⟩
def tenantsO (zs : List GTenant) : AObj := ⟨83, 7, GTenant.row zs, false, 2, .rw⟩
def versionsO (zs : List GVersion) : AObj := ⟨85, 2, GVersion.row zs, false, 2, .rw⟩
/-- A configuration in the making. -/
def mkO (C : GConfig) : AObj := ⟨32, 10, [[.int .i64 C.Regions, .own 2 0 C.Zones.length, .own 3 0 C.Cells.length, .own 4 0 C.Tenants.length, .own 5 0 C.Versions.length, .own 6 0 C.Replicas.length, .own 7 0 C.Observers.length, .int .i64 C.Blast, .int .i64 C.Lease, .int .i64 C.Bake]], true, 0, .rw⟩
def zeroO : AObj := ⟨32, 10, [[.int .i64 0, .sl 0 1 [], .sl 0 1 [], .sl 0 1 [], .sl 0 1 [], .sl 0 1 [], .sl 0 1 [], .int .i64 0, .int .i64 0, .int .i64 0]], true, 2, .rw⟩
def cfSt (s : Nat) (v : Int) (L : List Int) (C : GConfig) (j : Nat) : St :=
  mkSt [(s, .int .i64 v), (2, .ptr 8 0 0), (3, .ptr 0 0 0), (4, .ptr 1 0 0)] [(0, tapeO L j), (1, mkO C), (2, zonesO C.Zones), (3, cellsO C.Cells), (4, tenantsO C.Tenants), (5, versionsO C.Versions), (6, intsO C.Replicas), (7, intsO C.Observers), (8, zeroO)] 9

noncomputable def hd (L : List Int) : GConfig := ⟨1 + (dr L 0 5 + 1) % 3, [], [], [], [], [], [], 1 + dr L 1 3, 2 + dr L 2 11, dr L 3 9⟩

noncomputable def zSt (L : List Int) (i : Nat × Nat) : St := cfSt 5 i.1 L { hd L with Zones := zonesTo (hd L).Regions i.1 } i.2
noncomputable def cSt (L : List Int) (C : GConfig) (i : Nat × Nat × List GCell) : St := cfSt 6 i.1 L { C with Cells := i.2.2 } i.2.1
noncomputable def tSt (L : List Int) (C : GConfig) (i : Nat × Nat × List GTenant) : St := cfSt 7 i.1 L { C with Tenants := i.2.2 } i.2.1
noncomputable def vSt (L : List Int) (C : GConfig) (i : Nat × Nat × List GVersion) : St := cfSt 10 i.1 L { C with Versions := i.2.2 } i.2.1
noncomputable def pSt (L : List Int) (C : GConfig) (i : Nat × Nat × List Int) : St := cfSt 12 i.1 L { C with Replicas := i.2.2 } i.2.1
noncomputable def oSt (L : List Int) (C : GConfig) (i : Nat × Nat × List Int) : St := cfSt 13 i.1 L { C with Observers := i.2.2 } i.2.1

noncomputable def CM4 := mkC [(29, newTSp), (31, modSp), (15, betweenSp), (39, nextSp), (40, rangeSp), (41, yesSp)]
theorem CM4_ok : SpecsOk Tryd.prog CM4 := mkC_ok (all_cons newT_spec (all_cons mod_spec (all_cons between_spec (all_cons next_spec (all_cons range_spec (all_cons yes_spec all_nil))))))
@[simp] theorem CM4_1 : CM4 29 = newTSp := rfl
@[simp] theorem CM4_2 : CM4 31 = modSp := rfl
@[simp] theorem CM4_3 : CM4 15 = betweenSp := rfl
@[simp] theorem CM4_4 : CM4 39 = nextSp := rfl
@[simp] theorem CM4_5 : CM4 40 = rangeSp := rfl
@[simp] theorem CM4_6 : CM4 41 = yesSp := rfl

/-- The configuration that a list of numbers makes. -/
noncomputable def cfgF (L : List Int) (m : Nat) (cs : List GCell) (ts : List GTenant) (vs : List GVersion) (rs : List Int) (o : List Int × Nat) : GConfig :=
  ⟨(hd L).Regions, zonesTo (hd L).Regions m, cs, ts, vs, rs, o.1, (hd L).Blast, (hd L).Lease, (hd L).Bake⟩
noncomputable def cfgE (L : List Int) (m : Nat) (cs : List GCell) (ts : List GTenant) (vs : List GVersion) (p : List Int × Nat) : GConfig := cfgF L m cs ts vs p.1 (rGo L m (1 + dr L p.2 4).toNat (p.2 + 1) [])
noncomputable def cfgD (L : List Int) (m : Nat) (cs : List GCell) (ts : List GTenant) (v : List GVersion × Nat) : GConfig := cfgE L m cs ts v.1 (rGo L m (2 * dr L v.2 2 + 1).toNat (v.2 + 1) [])
noncomputable def cfgC (L : List Int) (m : Nat) (cs : List GCell) (t : List GTenant × Nat) : GConfig := cfgD L m cs t.1 (vGo L (dr L (t.2 + 1) 3).toNat (t.2 + 2) [⟨0, dr L t.2 3⟩])
noncomputable def cfgB (L : List Int) (m : Nat) (c : List GCell × Nat) : GConfig := cfgC L m c.1 (tGo L (hd L).Regions (dr L c.2 6).toNat (c.2 + 1) [])
noncomputable def cfgA (L : List Int) (z : Nat × Nat) : GConfig := cfgB L z.1 (cGo L z.1 8 0 z.2 [])
noncomputable def cfgOf0 (L : List Int) : GConfig := cfgA L (zGo L (hd L).Regions 7 0 4)
theorem cfgA_mk (L : List Int) (m j : Nat) : cfgA L (m, j) = cfgB L m (cGo L m 8 0 j []) := rfl
theorem cfgB_mk (L : List Int) (m j : Nat) (cs : List GCell) : cfgB L m (cs, j) = cfgC L m cs (tGo L (hd L).Regions (dr L j 6).toNat (j + 1) []) := rfl
theorem cfgC_mk (L : List Int) (m j : Nat) (cs : List GCell) (ts : List GTenant) : cfgC L m cs (ts, j) = cfgD L m cs ts (vGo L (dr L (j + 1) 3).toNat (j + 2) [⟨0, dr L j 3⟩]) := rfl
theorem cfgD_mk (L : List Int) (m j : Nat) (cs : List GCell) (ts : List GTenant) (vs : List GVersion) : cfgD L m cs ts (vs, j) = cfgE L m cs ts vs (rGo L m (2 * dr L j 2 + 1).toNat (j + 1) []) := rfl
theorem cfgE_mk (L : List Int) (m j : Nat) (cs : List GCell) (ts : List GTenant) (vs : List GVersion) (rs : List Int) : cfgE L m cs ts vs (rs, j) = cfgF L m cs ts vs rs (rGo L m (1 + dr L j 4).toNat (j + 1) []) := rfl
theorem cfgF_mk (L : List Int) (m j : Nat) (cs : List GCell) (ts : List GTenant) (vs : List GVersion) (rs os : List Int) : cfgF L m cs ts vs rs (os, j) = ⟨(hd L).Regions, zonesTo (hd L).Regions m, cs, ts, vs, rs, os, (hd L).Blast, (hd L).Lease, (hd L).Bake⟩ := rfl
theorem cfgOf0_eq (L : List Int) : cfgOf0 L = cfgA L (zGo L (hd L).Regions 7 0 4) := by unfold cfgOf0; rfl
noncomputable def cfgOf : List Int → GConfig := hush cfgOf0
theorem cfgOf_eq (L : List Int) : cfgOf L = cfgOf0 L := by unfold cfgOf; rw [hush_eq]

noncomputable def configSp := fam (fun i : List Int => [V.sl 2 1 (intRow i)]) (fun _ : List Int => []) (fun i : List Int => (i.length ≤ 200)) (fun i : List Int => ⟨vConfig (cfgOf i), []⟩)
@[simp] theorem configSp_eq {L : List Int} (h1 : L.length ≤ 200) : configSp ([V.sl 2 1 (intRow L)]) ([]) = some (⟨vConfig (cfgOf L), []⟩) :=
  fam_eq (A := fun i : List Int => [V.sl 2 1 (intRow i)]) (O := fun _ : List Int => []) (res := fun i : List Int => ⟨vConfig (cfgOf i), []⟩) (by intro a b h h' <;> simp at h h' <;> simp_all) L h1

theorem nextR {L : List Int} {j : Nat} {n : Int} (h1 : L.length ≤ 200) (h2 : j ≤ 100000) (h3 : 0 < n) (h4 : n ≤ 1099511627776) : nextSp [V.ptr 0 0 0, .int .i64 n] [⟨97, 2, [[.sl 2 1 (intRow L), .int .i64 (tpos L j)]], true, 1, .rw⟩] = some ⟨.int .i64 (dr L j n), [tapeO L (j + 1)]⟩ := nextSp_eq h1 h2 h3 h4
theorem rangeR {L : List Int} {j : Nat} {low high : Int} (h1 : L.length ≤ 200) (h2 : j ≤ 100000) (h3 : low ≤ high) (h4 : -1000000000 ≤ low) (h5 : high ≤ 1000000000) : rangeSp [V.ptr 0 0 0, .int .i64 low, .int .i64 high] [⟨97, 2, [[.sl 2 1 (intRow L), .int .i64 (tpos L j)]], true, 1, .rw⟩] = some ⟨.int .i64 (low + dr L j (high - low + 1)), [tapeO L (j + 1)]⟩ := rangeSp_eq h1 h2 h3 h4 h5
theorem yesR {L : List Int} {j : Nat} {n : Int} (h1 : L.length ≤ 200) (h2 : j ≤ 100000) (h3 : 0 < n) (h4 : n ≤ 1099511627776) : yesSp [V.ptr 0 0 0, .int .i64 n] [⟨97, 2, [[.sl 2 1 (intRow L), .int .i64 (tpos L j)]], true, 1, .rw⟩] = some ⟨.bool (decide (dr L j n = 0)), [tapeO L (j + 1)]⟩ := yesSp_eq h1 h2 h3 h4


/-! Each loop is a text of its own: what stands behind it is what the next one needs. -/
noncomputable def cfgCode : Code := bodyC Tryd.f27
abbrev atC (p : List Nat) (Q : Exit → St → Prop) (st : St) : Prop := axwp T CM4 0 (subC p cfgCode) (contC T CM4 0 p cfgCode Q) st

theorem seg_o (L : List Int) (hL : L.length ≤ 200) (C : GConfig) (m u : Nat) (hz : C.Zones.length = m) (hm : 1 ≤ m ∧ m ≤ 6) (_ht : C.Observers = []) (hu : u ≤ 90) (os : List Int) (j6 : Nat) (ho : rGo L m (1 + dr L u 4).toNat (u + 1) [] = (os, j6)) (r : CRes) (hr : r = ⟨vConfig { C with Observers := os }, []⟩) :
    atC [1,1,1,1,1,1,1,1,1,0,1,0] (Ret T Tryd.f27.results.toList r 0) (oSt L C ((1 + dr L u 4).toNat, u + 1, [])) := by
  simp only [atC, cfgCode, bodyC, Tryd.f27, Option.getD_some, subC, contC, if_true, one_ne_zero', if_false, axwp_wpL]
  have f4 := dr_nonneg L u (show (0 : Int) < 4 by decide)
  have f5 := dr_lt L u (show (0 : Int) < 4 by decide)
  have hm0' : (0 : Int) < (m : Int) := by omega
  have hm0'' : 0 < m := by omega
  have hmb : (m : Int) ≤ 1099511627776 := by omega
  refine axwp_loop (oSt L C) (fun i => i.1 + i.2.2.length ≤ 4 ∧ i.2.1 + i.1 ≤ u + 5 ∧ rGo L m i.1 i.2.1 i.2.2 = (os, j6)) (fun i => i.1) ((1 + dr L u 4).toNat, u + 1, []) (Weak.refl _ _) ⟨by simp; omega, by simp only; omega, ho⟩ ?_
  rintro ⟨c, x, acc⟩ ⟨hc, hx, hgo⟩
  simp only at hc hx hgo
  have hx0 : x ≤ 100000 := by omega
  cases c with
  | zero =>
    have hmi : acc = os ∧ x = j6 := by simpa [rGo] using hgo
    obtain ⟨rfl, rfl⟩ := hmi
    simp [oSt, cfSt, mkO, zeroO, tapeO, zonesO, cellsO, tenantsO, versionsO, intsO]
    rw [hr]
    refine retData [181] ?_ rfl (vConfig_closed _) ?_
    · simp
    · simp [vConfig, GConfig.cells]
  | succ c =>
    have w7 : IntKind.i64.wrap (c : Int) = (c : Int) := wrap_i64_in (by omega) (by omega)
    have q1 : (acc.length : Int) + 1 ≤ 140737488355328 := by omega
    have q2 : ((acc.length : Int) + 1) * 8 ≤ 140737488355328 := by omega
    have hir : ∀ x : Int, intRow (acc ++ [x]) = intRow acc ++ [[.int .i64 x]] := by simp [intRow]
    rw [rGo] at hgo
    simp [oSt, cfSt, mkO, zeroO, tapeO, zonesO, cellsO, tenantsO, versionsO, intsO, nextR, hL, hx0, hz, hm0'', hmb, q1, q2]
    refine ⟨⟨by kernel_rfl, by kernel_rfl⟩, ?_⟩
    refine Again.mk (c, x + 1, acc ++ [dr L x m]) ⟨?_, ?_, hgo⟩ ?_ ?_
    · show c + (acc ++ [_]).length ≤ 4; simp; omega
    · show x + 1 + c ≤ u + 5; omega
    · show c < c + 1; omega
    · refine weak_at [.inr 3, .inr 4, .inl 2, .inl 3, .inl 4, .inl 5, .inl 6, .inr 179, .inr 2] ?_ ?_ ?_ ?_ <;> simp [mkO, zeroO, tapeO, zonesO, cellsO, tenantsO, versionsO, intsO, hir, hz, w7]

theorem seg_r (Q : Exit → St → Prop) (L : List Int) (hL : L.length ≤ 200) (C : GConfig) (m k : Nat) (hz : C.Zones.length = m) (hm : 1 ≤ m ∧ m ≤ 6) (ht : C.Replicas = [] ∧ C.Observers = []) (hk : k ≤ 80) (rs : List Int) (j5 : Nat) (hp : rGo L m (2 * dr L k 2 + 1).toNat (k + 1) [] = (rs, j5))
    (hnext : j5 ≤ 90 → rs.length ≤ 3 → atC [1,1,1,1,1,1,1,1,1,0,1,0] Q (oSt L { C with Replicas := rs } ((1 + dr L j5 4).toNat, j5 + 1, []))) :
    atC [1,1,1,1,1,1,1,1,0,1,0] Q (pSt L C ((2 * dr L k 2 + 1).toNat, k + 1, [])) := by
  simp only [atC, cfgCode, bodyC, Tryd.f27, Option.getD_some, subC, contC, if_true, one_ne_zero', if_false, axwp_wpL] at hnext ⊢
  have f4 := dr_nonneg L k (show (0 : Int) < 2 by decide)
  have f5 := dr_lt L k (show (0 : Int) < 2 by decide)
  have hm0' : (0 : Int) < (m : Int) := by omega
  have hm0'' : 0 < m := by omega
  have hmb : (m : Int) ≤ 1099511627776 := by omega
  refine axwp_loop (pSt L C) (fun i => i.1 + i.2.2.length ≤ 3 ∧ i.2.1 + i.1 ≤ k + 4 ∧ rGo L m i.1 i.2.1 i.2.2 = (rs, j5)) (fun i => i.1) ((2 * dr L k 2 + 1).toNat, k + 1, []) (Weak.refl _ _) ⟨by simp; omega, by simp only; omega, hp⟩ ?_
  rintro ⟨c, x, acc⟩ ⟨hc, hx, hgo⟩
  simp only at hc hx hgo
  have hx0 : x ≤ 100000 := by omega
  cases c with
  | zero =>
    have hmi : acc = rs ∧ x = j5 := by simpa [rGo] using hgo
    obtain ⟨rfl, rfl⟩ := hmi
    have e4 := dr_nonneg L x (show (0 : Int) < 4 by decide)
    have f6 : (((1 + dr L x 4).toNat : Nat) : Int) = 1 + dr L x 4 := by omega
    replace hnext := hnext (by omega) (by omega)
    simp [pSt, cfSt, mkO, zeroO, tapeO, zonesO, cellsO, tenantsO, versionsO, intsO, rangeR, hL, hx0]
    refine wpL_weak (st0 := oSt L { C with Replicas := acc } ((1 + dr L x 4).toNat, x + 1, [])) ?_ hnext
    refine weak_mk id ?_ ?_ ?_ ?_ <;> simp [mkO, zeroO, tapeO, zonesO, cellsO, tenantsO, versionsO, intsO, f6, ht]
  | succ c =>
    have w7 : IntKind.i64.wrap (c : Int) = (c : Int) := wrap_i64_in (by omega) (by omega)
    have q1 : (acc.length : Int) + 1 ≤ 140737488355328 := by omega
    have q2 : ((acc.length : Int) + 1) * 8 ≤ 140737488355328 := by omega
    have hir : ∀ x : Int, intRow (acc ++ [x]) = intRow acc ++ [[.int .i64 x]] := by simp [intRow]
    rw [rGo] at hgo
    simp [pSt, cfSt, mkO, zeroO, tapeO, zonesO, cellsO, tenantsO, versionsO, intsO, nextR, hL, hx0, hz, hm0'', hmb, q1, q2]
    refine ⟨⟨by kernel_rfl, by kernel_rfl⟩, ?_⟩
    refine Again.mk (c, x + 1, acc ++ [dr L x m]) ⟨?_, ?_, hgo⟩ ?_ ?_
    · show c + (acc ++ [_]).length ≤ 3; simp; omega
    · show x + 1 + c ≤ k + 4; omega
    · show c < c + 1; omega
    · refine weak_at [.inr 3, .inr 4, .inl 2, .inl 3, .inl 4, .inl 5, .inr 163, .inl 7, .inr 2] ?_ ?_ ?_ ?_ <;> simp [mkO, zeroO, tapeO, zonesO, cellsO, tenantsO, versionsO, intsO, hir, hz, w7]

theorem seg_v (Q : Exit → St → Prop) (L : List Int) (hL : L.length ≤ 200) (C : GConfig) (j : Nat) (ht : C.Replicas = [] ∧ C.Observers = []) (hj : j ≤ 70) (vs : List GVersion) (j4 : Nat) (hv : vGo L (dr L (j + 1) 3).toNat (j + 2) [⟨0, dr L j 3⟩] = (vs, j4))
    (hnext : j4 ≤ 80 → vs.length ≤ 3 → atC [1,1,1,1,1,1,1,1,0,1,0] Q (pSt L { C with Versions := vs } ((2 * dr L j4 2 + 1).toNat, j4 + 1, []))) :
    atC [1,1,1,1,1,1,1,0,1,0] Q (vSt L C ((dr L (j + 1) 3).toNat, j + 2, [⟨0, dr L j 3⟩])) := by
  simp only [atC, cfgCode, bodyC, Tryd.f27, Option.getD_some, subC, contC, if_true, one_ne_zero', if_false, axwp_wpL] at hnext ⊢
  have e3 := dr_nonneg L (j + 1) (show (0 : Int) < 3 by decide)
  have e3' := dr_lt L (j + 1) (show (0 : Int) < 3 by decide)
  refine axwp_loop (vSt L C) (fun i => i.1 + i.2.2.length ≤ 3 ∧ i.2.1 + 2 * i.1 ≤ j + 6 ∧ vGo L i.1 i.2.1 i.2.2 = (vs, j4)) (fun i => i.1) ((dr L (j + 1) 3).toNat, j + 2, [⟨0, dr L j 3⟩]) (Weak.refl _ _) ⟨by simp; omega, by simp only; omega, hv⟩ ?_
  rintro ⟨c, k, acc⟩ ⟨hc, hk, hgo⟩
  simp only at hc hk hgo
  have hk0 : k ≤ 100000 := by omega
  have hk1 : k + 1 ≤ 100000 := by omega
  have f1 := dr_nonneg L k (show (0 : Int) < 2 by decide)
  have f2 := dr_lt L k (show (0 : Int) < 2 by decide)
  cases c with
  | zero =>
    have hmi : acc = vs ∧ k = j4 := by simpa [vGo] using hgo
    obtain ⟨rfl, rfl⟩ := hmi
    have f3 : (((2 * dr L k 2 + 1).toNat : Nat) : Int) = 2 * dr L k 2 + 1 := by omega
    have w5 : IntKind.i64.wrap (2 * dr L k 2) = 2 * dr L k 2 := wrap_i64_in (by omega) (by omega)
    have w6 : IntKind.i64.wrap (2 * dr L k 2 + 1) = 2 * dr L k 2 + 1 := wrap_i64_in (by omega) (by omega)
    replace hnext := hnext (by omega) (by omega)
    simp [vSt, cfSt, mkO, zeroO, tapeO, zonesO, cellsO, tenantsO, versionsO, intsO, nextR, hL, hk0, w5, w6]
    refine wpL_weak (st0 := pSt L { C with Versions := acc } ((2 * dr L k 2 + 1).toNat, k + 1, [])) ?_ hnext
    refine weak_mk id ?_ ?_ ?_ ?_ <;> simp [mkO, zeroO, tapeO, zonesO, cellsO, tenantsO, versionsO, intsO, f3, ht]
  | succ c =>
    have f3 := dr_nonneg L (k + 1) (show (0 : Int) < 3 by decide)
    have f4 := dr_lt L (k + 1) (show (0 : Int) < 3 by decide)
    have w5 : IntKind.i64.wrap (dr L k 2 + dr L (k + 1) 3) = dr L k 2 + dr L (k + 1) 3 := wrap_i64_in (by omega) (by omega)
    have w7 : IntKind.i64.wrap (c : Int) = (c : Int) := wrap_i64_in (by omega) (by omega)
    have q1 : (acc.length : Int) + 1 ≤ 140737488355328 := by omega
    have q2 : ((acc.length : Int) + 1) * 16 ≤ 140737488355328 := by omega
    have hvr : ∀ x : GVersion, GVersion.row (acc ++ [x]) = GVersion.row acc ++ [[.int .i64 x.Low, .int .i64 x.High]] := by simp [GVersion.row, GVersion.cells]
    rw [vGo] at hgo
    simp [vSt, cfSt, mkO, zeroO, tapeO, zonesO, cellsO, tenantsO, versionsO, intsO, nextR, hL, hk0, hk1, w5, q1, q2]
    refine ⟨⟨by kernel_rfl, by kernel_rfl⟩, ?_⟩
    refine Again.mk (c, k + 2, acc ++ [⟨dr L k 2, dr L k 2 + dr L (k + 1) 3⟩]) ⟨?_, ?_, hgo⟩ ?_ ?_
    · show c + (acc ++ [_]).length ≤ 3; simp; omega
    · show k + 2 + 2 * c ≤ j + 6; omega
    · show c < c + 1; omega
    · refine weak_at [.inr 3, .inr 4, .inl 2, .inl 3, .inl 4, .inr 145, .inl 6, .inl 7, .inr 2] ?_ ?_ ?_ ?_ <;> simp [mkO, zeroO, tapeO, zonesO, cellsO, tenantsO, versionsO, intsO, hvr, w7]

theorem seg_t (Q : Exit → St → Prop) (L : List Int) (hL : L.length ≤ 200) (C : GConfig) (J : Nat) (hR : 1 ≤ C.Regions ∧ C.Regions ≤ 3) (ht : C.Versions = [] ∧ C.Replicas = [] ∧ C.Observers = []) (hJ : J ≤ 27) (ts : List GTenant) (j3 : Nat) (hT : tGo L C.Regions (dr L J 6).toNat (J + 1) [] = (ts, j3))
    (hnext : j3 ≤ 70 → ts.length ≤ 5 → atC [1,1,1,1,1,1,1,0,1,0] Q (vSt L { C with Tenants := ts } ((dr L (j3 + 1) 3).toNat, j3 + 2, [⟨0, dr L j3 3⟩]))) :
    atC [1,1,1,1,1,0,1,0] Q (tSt L C ((dr L J 6).toNat, J + 1, [])) := by
  simp only [atC, cfgCode, bodyC, Tryd.f27, Option.getD_some, subC, contC, if_true, one_ne_zero', if_false, axwp_wpL] at hnext ⊢
  have e6 := dr_nonneg L J (show (0 : Int) < 6 by decide)
  have e6' := dr_lt L J (show (0 : Int) < 6 by decide)
  refine axwp_loop (tSt L C) (fun i => i.1 + i.2.2.length ≤ 5 ∧ i.2.1 + 8 * i.1 ≤ J + 41 ∧ tGo L C.Regions i.1 i.2.1 i.2.2 = (ts, j3)) (fun i => i.1) ((dr L J 6).toNat, J + 1, []) (Weak.refl _ _) ⟨by simp; omega, by simp only; omega, hT⟩ ?_
  rintro ⟨c, j, acc⟩ ⟨hc5, hj, hgo⟩
  simp only at hc5 hj hgo
  cases c with
  | zero =>
    have hmi : acc = ts ∧ j = j3 := by simpa [tGo] using hgo
    obtain ⟨rfl, rfl⟩ := hmi
    have hj0 : j ≤ 100000 := by omega
    have hj1 : j + 1 ≤ 100000 := by omega
    have e3 := dr_nonneg L (j + 1) (show (0 : Int) < 3 by decide)
    have e3' := dr_lt L (j + 1) (show (0 : Int) < 3 by decide)
    have e3t : (((dr L (j + 1) 3).toNat : Nat) : Int) = dr L (j + 1) 3 := by omega
    replace hnext := hnext (by omega) (by omega)
    simp [tSt, cfSt, mkO, zeroO, tapeO, zonesO, cellsO, tenantsO, versionsO, intsO, nextR, hL, hj0, hj1]
    refine wpL_weak (st0 := vSt L { C with Tenants := acc } ((dr L (j + 1) 3).toNat, j + 2, [⟨0, dr L j 3⟩])) ?_ hnext
    refine (weak_tight 49 ⟨85, 2, [[.int .i64 0, .int .i64 (dr L j 3)]], true, 2, .rw⟩ ?_).trans (weak_at [.inl 0, .inl 1, .inl 2, .inl 3, .inl 4, .inl 49, .inl 6, .inl 7, .inl 8] ?_ ?_ ?_ ?_)
    · simp
    all_goals simp [mkO, zeroO, tapeO, zonesO, cellsO, tenantsO, versionsO, intsO, GVersion.row, GVersion.cells, e3t, ht]
  | succ c =>
    obtain ⟨ρ, hρ⟩ : ∃ ρ : Int, ρ = 2 ^ C.Regions.toNat := ⟨_, rfl⟩
    have hρ2 : 2 ≤ ρ ∧ ρ ≤ 8 := by
      obtain ⟨n, hn⟩ : ∃ n : Nat, C.Regions.toNat = n := ⟨_, rfl⟩
      rw [hn] at hρ
      have : n = 1 ∨ n = 2 ∨ n = 3 := by omega
      rcases this with rfl | rfl | rfl <;> rw [hρ] <;> decide
    have wR : IntKind.u64.wrap C.Regions = C.Regions := wrap_u64_in (by omega) (by omega)
    have hmin : min C.Regions.toNat 64 = C.Regions.toNat := by omega
    have hRn : ¬ C.Regions < 0 := by omega
    have wρ : IntKind.i64.wrap ρ = ρ := wrap_i64_in (by omega) (by omega)
    have wρ1 : IntKind.i64.wrap (ρ - 1) = ρ - 1 := wrap_i64_in (by omega) (by omega)
    have eρ : ρ - 1 - 1 + 1 = ρ - 1 := by omega
    have lρ : 1 ≤ ρ - 1 := by omega
    have lρ2 : ρ - 1 ≤ 1000000000 := by omega
    have hjs : ∀ n, n ≤ 8 → j + n ≤ 100000 := by intro n hn; omega
    have hj0 : j ≤ 100000 := by omega
    have hj1 := hjs 1 (by omega)
    have hj2 := hjs 2 (by omega)
    have hj3 := hjs 3 (by omega)
    have hj4 := hjs 4 (by omega)
    have hj5 := hjs 5 (by omega)
    have hj6 := hjs 6 (by omega)
    have hj7 := hjs 7 (by omega)
    have d1 := dr_nonneg L j (show (0 : Int) < 12 by decide)
    have d2 := dr_lt L j (show (0 : Int) < 12 by decide)
    have l1 : 0 < 1 + dr L j 12 + 1 := by omega
    have l2 : 1 + dr L j 12 + 1 ≤ 1099511627776 := by omega
    have w1 : IntKind.i64.wrap (1 + dr L j 12 + 1) = 1 + dr L j 12 + 1 := wrap_i64_in (by omega) (by omega)
    have w2 : IntKind.i64.wrap (c : Int) = (c : Int) := wrap_i64_in (by omega) (by omega)
    have q1 : (acc.length : Int) + 1 ≤ 140737488355328 := by omega
    have q2 : ((acc.length : Int) + 1) * 56 ≤ 140737488355328 := by omega
    have htr : ∀ x : GTenant, GTenant.row (acc ++ [x]) = GTenant.row acc ++ [[.int .i64 x.Load, .int .i64 x.Shadow, .int .i64 x.Priority, .int .i64 x.Lag, .int .i64 x.Allowed, .int .i64 x.Group, .bool x.Noisy]] := by simp [GTenant.row, GTenant.cells]
    rw [tGo] at hgo
    by_cases hy : dr L (j + 6) 4 = 0
    · rw [if_pos hy] at hgo
      simp [tSt, cfSt, mkO, zeroO, tapeO, zonesO, cellsO, tenantsO, versionsO, intsO, nextR, rangeR, yesR, hL, hj0, hj1, hj2, hj3, hj4, hj5, hj6, hj7, l1, l2, w1, q1, q2, wR, hmin, hRn, ← hρ, wρ, wρ1, lρ, lρ2, eρ, hy]
      refine ⟨⟨by kernel_rfl, by kernel_rfl⟩, ?_⟩
      refine Again.mk (c, j + 8, acc ++ [tenAt L C.Regions j]) ⟨?_, ?_, hgo⟩ ?_ ?_
      · show c + (acc ++ [_]).length ≤ 5; simp; omega
      · show j + 8 + 8 * c ≤ J + 41; omega
      · show c < c + 1; omega
      · refine weak_at [.inr 3, .inr 4, .inl 2, .inl 3, .inr 121, .inl 5, .inl 6, .inl 7, .inr 2] ?_ ?_ ?_ ?_ <;> simp [mkO, zeroO, tapeO, zonesO, cellsO, tenantsO, versionsO, intsO, htr, tenAt, ← hρ, hy, w2]
    · rw [if_neg hy] at hgo
      simp [tSt, cfSt, mkO, zeroO, tapeO, zonesO, cellsO, tenantsO, versionsO, intsO, nextR, rangeR, yesR, hL, hj0, hj1, hj2, hj3, hj4, hj5, hj6, l1, l2, w1, q1, q2, wR, hmin, hRn, ← hρ, wρ, wρ1, hy]
      refine ⟨⟨by kernel_rfl, by kernel_rfl⟩, ?_⟩
      refine Again.mk (c, j + 7, acc ++ [tenAt L C.Regions j]) ⟨?_, ?_, hgo⟩ ?_ ?_
      · show c + (acc ++ [_]).length ≤ 5; simp; omega
      · show j + 7 + 8 * c ≤ J + 41; omega
      · show c < c + 1; omega
      · refine weak_at [.inr 3, .inr 4, .inl 2, .inl 3, .inr 121, .inl 5, .inl 6, .inl 7, .inr 2] ?_ ?_ ?_ ?_ <;> simp [mkO, zeroO, tapeO, zonesO, cellsO, tenantsO, versionsO, intsO, htr, tenAt, ← hρ, hy, w2]

theorem seg_c (Q : Exit → St → Prop) (L : List Int) (hL : L.length ≤ 200) (C : GConfig) (m j1 : Nat) (hz : C.Zones.length = m) (hm : 1 ≤ m ∧ m ≤ 6) (ht : C.Tenants = [] ∧ C.Versions = [] ∧ C.Replicas = [] ∧ C.Observers = []) (hj1 : j1 ≤ 11) (cs : List GCell) (j2 : Nat) (hc : cGo L m 8 0 j1 [] = (cs, j2))
    (hnext : j2 ≤ 27 → cs.length ≤ 7 → atC [1,1,1,1,1,0,1,0] Q (tSt L { C with Cells := cs } ((dr L j2 6).toNat, j2 + 1, []))) :
    atC [1,1,1,1,0,1,0] Q (cSt L C (0, j1, [])) := by
  simp only [atC, cfgCode, bodyC, Tryd.f27, Option.getD_some, subC, contC, if_true, one_ne_zero', if_false, axwp_wpL] at hnext ⊢
  refine axwp_loop (cSt L C) (fun i => i.1 ≤ 7 ∧ i.2.1 ≤ j1 + 2 * i.1 ∧ i.2.2.length = i.1 ∧ cGo L m (8 - i.1) i.1 i.2.1 i.2.2 = (cs, j2)) (fun i => 8 - i.1) (0, j1, []) (Weak.refl _ _) ⟨Nat.zero_le _, by simp, rfl, hc⟩ ?_
  rintro ⟨i, j, acc⟩ ⟨hi, hj, hacc, hgo⟩
  simp only at hi hj hacc hgo
  have w1 : IntKind.i64.wrap ((i : Int) + 1) = (i : Int) + 1 := wrap_i64_in (by omega) (by omega)
  have hj' : j ≤ 100000 := by omega
  have hj'' : j + 1 ≤ 100000 := by omega
  have hm0 : ¬ m = 0 := by omega
  have q1 : (i : Int) + 1 ≤ 140737488355328 := by omega
  have q2 : ((i : Int) + 1) * 16 ≤ 140737488355328 := by omega
  have hcr : ∀ x : GCell, GCell.row (acc ++ [x]) = GCell.row acc ++ [[.int .i64 x.Zone, .int .i64 x.Capacity]] := by simp [GCell.row, GCell.cells]
  rw [show 8 - i = (7 - i) + 1 by omega, cGo] at hgo
  by_cases him : i < m
  · rw [if_pos him] at hgo
    have d1 := dr_nonneg L j (show (0 : Int) < 4 by decide)
    have d2 := dr_lt L j (show (0 : Int) < 4 by decide)
    have w2 : IntKind.i64.wrap ((1 + dr L j 4) * 10) = (1 + dr L j 4) * 10 := wrap_i64_in (by omega) (by omega)
    simp [cSt, cfSt, mkO, zeroO, tapeO, zonesO, cellsO, tenantsO, versionsO, intsO, hz, hacc, him, hm0, q1, q2, rangeR, hL, hj', w2]
    refine ⟨⟨by kernel_rfl, by kernel_rfl⟩, ?_⟩
    refine Again.mk (i + 1, j + 1, acc ++ [⟨(i : Int).tmod m, (1 + dr L j 4) * 10⟩]) ⟨?_, ?_, ?_, ?_⟩ ?_ ?_
    · show i + 1 ≤ 7; omega
    · show j + 1 ≤ j1 + 2 * (i + 1); omega
    · show (acc ++ [_]).length = i + 1; simp [hacc]
    · rw [← hgo]; show cGo L m (8 - (i + 1)) _ _ _ = _; congr 1; omega
    · show 8 - (i + 1) < 8 - i; omega
    · refine weak_at [.inr 3, .inr 4, .inl 2, .inr 78, .inl 4, .inl 5, .inl 6, .inl 7, .inr 2] ?_ ?_ ?_ ?_ <;> simp [mkO, zeroO, tapeO, zonesO, cellsO, tenantsO, versionsO, intsO, hcr, hz, hacc, w1]
  · rw [if_neg him] at hgo
    by_cases hy : dr L j 2 = 0 ∧ i < 7
    · rw [if_pos hy] at hgo
      obtain ⟨hy, h7⟩ := hy
      have h7' : (i : Int) < 7 := by omega
      have d3 := dr_nonneg L (j + 1) (show (0 : Int) < 4 by decide)
      have d4 := dr_lt L (j + 1) (show (0 : Int) < 4 by decide)
      have w3 : IntKind.i64.wrap ((1 + dr L (j + 1) 4) * 10) = (1 + dr L (j + 1) 4) * 10 := wrap_i64_in (by omega) (by omega)
      simp [cSt, cfSt, mkO, zeroO, tapeO, zonesO, cellsO, tenantsO, versionsO, intsO, hz, hacc, him, hm0, q1, q2, rangeR, yesR, hL, hj', hj'', w3, hy, h7']
      refine ⟨⟨by kernel_rfl, by kernel_rfl⟩, ?_⟩
      refine Again.mk (i + 1, j + 2, acc ++ [⟨(i : Int).tmod m, (1 + dr L (j + 1) 4) * 10⟩]) ⟨?_, ?_, ?_, ?_⟩ ?_ ?_
      · show i + 1 ≤ 7; omega
      · show j + 2 ≤ j1 + 2 * (i + 1); omega
      · show (acc ++ [_]).length = i + 1; simp [hacc]
      · rw [← hgo]; show cGo L m (8 - (i + 1)) _ _ _ = _; congr 1; omega
      · show 8 - (i + 1) < 8 - i; omega
      · refine weak_at [.inr 3, .inr 4, .inl 2, .inr 78, .inl 4, .inl 5, .inl 6, .inl 7, .inr 2] ?_ ?_ ?_ ?_ <;> simp [mkO, zeroO, tapeO, zonesO, cellsO, tenantsO, versionsO, intsO, hcr, hz, hacc, w1]
    · rw [if_neg hy] at hgo
      have hmi : acc = cs ∧ j + 1 = j2 := by simpa using hgo
      obtain ⟨rfl, rfl⟩ := hmi
      have e6 := dr_nonneg L (j + 1) (show (0 : Int) < 6 by decide)
      have e6' := dr_lt L (j + 1) (show (0 : Int) < 6 by decide)
      have e6t : (((dr L (j + 1) 6).toNat : Nat) : Int) = dr L (j + 1) 6 := by omega
      replace hnext := hnext (by omega) (by omega)
      by_cases hy0 : dr L j 2 = 0
      · have h7' : ¬ (i : Int) < 7 := by omega
        simp [cSt, cfSt, mkO, zeroO, tapeO, zonesO, cellsO, tenantsO, versionsO, intsO, hz, hacc, him, yesR, nextR, hL, hj', hj'', hy0, h7']
        refine wpL_weak (st0 := tSt L { C with Cells := acc } ((dr L (j + 1) 6).toNat, j + 2, [])) ?_ hnext
        refine weak_mk id ?_ ?_ ?_ ?_ <;> simp [mkO, zeroO, tapeO, zonesO, cellsO, tenantsO, versionsO, intsO, ht, e6t, hacc, hz]
      · simp [cSt, cfSt, mkO, zeroO, tapeO, zonesO, cellsO, tenantsO, versionsO, intsO, hz, hacc, him, yesR, nextR, hL, hj', hj'', hy0]
        refine wpL_weak (st0 := tSt L { C with Cells := acc } ((dr L (j + 1) 6).toNat, j + 2, [])) ?_ hnext
        refine weak_mk id ?_ ?_ ?_ ?_ <;> simp [mkO, zeroO, tapeO, zonesO, cellsO, tenantsO, versionsO, intsO, ht, e6t, hacc, hz]

theorem seg_z (Q : Exit → St → Prop) (L : List Int) (hL : L.length ≤ 200) (m j1 : Nat) (hgo0 : zGo L (hd L).Regions 7 0 4 = (m, j1))
    (hnext : j1 ≤ 11 → 1 ≤ m ∧ m ≤ 6 → atC [1,1,1,1,0,1,0] Q (cSt L { hd L with Zones := zonesTo (hd L).Regions m } (0, j1, []))) :
    atC [1,1,1,0,1,0] Q (zSt L (0, 4)) := by
  simp only [atC, cfgCode, bodyC, Tryd.f27, Option.getD_some, subC, contC, if_true, one_ne_zero', if_false, axwp_wpL] at hnext ⊢
  refine axwp_loop (zSt L) (fun i => i.1 ≤ 6 ∧ i.2 ≤ 4 + i.1 ∧ zGo L (hd L).Regions (7 - i.1) i.1 i.2 = (m, j1)) (fun i => 7 - i.1) (0, 4) (Weak.refl _ _) ⟨by decide, by decide, hgo0⟩ ?_
  rintro ⟨i, j⟩ ⟨hi, hj, hgo⟩
  simp only at hi hj hgo
  have r0 := dr_nonneg L 0 (show (0 : Int) < 5 by decide)
  have w1 : IntKind.i64.wrap ((i : Int) + 1) = (i : Int) + 1 := wrap_i64_in (by omega) (by omega)
  have hRp : 1 ≤ (hd L).Regions ∧ (hd L).Regions ≤ 3 := by simp only [hd]; omega
  have hR0 : ¬ (hd L).Regions = 0 := by omega
  have hzr : GZone.row (zonesTo (hd L).Regions (i + 1)) = GZone.row (zonesTo (hd L).Regions i) ++ [[.int .i64 ((i : Int).tmod (hd L).Regions)]] := by simp [zonesTo, List.range_succ, GZone.row, GZone.cells]
  have hzl : ∀ i, (zonesTo (hd L).Regions i).length = i := by simp [zonesTo]
  have q1 : (i : Int) + 1 ≤ 140737488355328 := by omega
  have q2 : ((i : Int) + 1) * 8 ≤ 140737488355328 := by omega
  have hj' : j ≤ 100000 := by omega
  rw [show 7 - i = (6 - i) + 1 by omega, zGo] at hgo
  by_cases hir : (i : Int) < (hd L).Regions
  · rw [if_pos hir] at hgo
    simp [zSt, cfSt, mkO, zeroO, tapeO, zonesO, cellsO, tenantsO, versionsO, intsO, hir, hR0, q1, q2, hzl]
    refine ⟨⟨by kernel_rfl, by kernel_rfl⟩, ?_⟩
    refine Again.mk (i + 1, j) ⟨?_, ?_, ?_⟩ ?_ ?_
    · show i + 1 ≤ 6; omega
    · show j ≤ 4 + (i + 1); omega
    · rw [← hgo]; show zGo L _ (7 - (i + 1)) _ _ = _; congr 1; omega
    · show 7 - (i + 1) < 7 - i; omega
    · refine weak_at [.inr 3, .inr 4, .inr 49, .inl 3, .inl 4, .inl 5, .inl 6, .inl 7, .inr 2] ?_ ?_ ?_ ?_ <;> simp [mkO, zeroO, tapeO, zonesO, cellsO, tenantsO, versionsO, intsO, hzr, hzl, w1]
  · rw [if_neg hir] at hgo
    by_cases hy : dr L j 3 = 0 ∧ i < 6
    · rw [if_pos hy] at hgo
      obtain ⟨hy, h6⟩ := hy
      have h6' : (i : Int) < 6 := by omega
      simp [zSt, cfSt, mkO, zeroO, tapeO, zonesO, cellsO, tenantsO, versionsO, intsO, hir, hR0, q1, q2, hzl, yesR, hL, hj', hy, h6']
      refine ⟨⟨by kernel_rfl, by kernel_rfl⟩, ?_⟩
      refine Again.mk (i + 1, j + 1) ⟨?_, ?_, ?_⟩ ?_ ?_
      · show i + 1 ≤ 6; omega
      · show j + 1 ≤ 4 + (i + 1); omega
      · rw [← hgo]; show zGo L _ (7 - (i + 1)) _ _ = _; congr 1; omega
      · show 7 - (i + 1) < 7 - i; omega
      · refine weak_at [.inr 3, .inr 4, .inr 49, .inl 3, .inl 4, .inl 5, .inl 6, .inl 7, .inr 2] ?_ ?_ ?_ ?_ <;> simp [mkO, zeroO, tapeO, zonesO, cellsO, tenantsO, versionsO, intsO, hzr, hzl, w1]
    · rw [if_neg hy] at hgo
      have hmi : i = m ∧ j + 1 = j1 := by simpa using hgo
      obtain ⟨rfl, rfl⟩ := hmi
      replace hnext := hnext (by omega) (by omega)
      by_cases hy0 : dr L j 3 = 0
      · have h6' : ¬ (i : Int) < 6 := by omega
        simp [zSt, cfSt, mkO, zeroO, tapeO, zonesO, cellsO, tenantsO, versionsO, intsO, hir, yesR, hL, hj', hy0, h6']
        refine wpL_weak (st0 := cSt L { hd L with Zones := zonesTo (hd L).Regions i } (0, j + 1, [])) ?_ hnext
        refine weak_mk id ?_ ?_ ?_ ?_ <;> simp [mkO, zeroO, tapeO, zonesO, cellsO, tenantsO, versionsO, intsO, hd]
      · simp [zSt, cfSt, mkO, zeroO, tapeO, zonesO, cellsO, tenantsO, versionsO, intsO, hir, yesR, hL, hj', hy0]
        refine wpL_weak (st0 := cSt L { hd L with Zones := zonesTo (hd L).Regions i } (0, j + 1, [])) ?_ hnext
        refine weak_mk id ?_ ?_ ?_ ?_ <;> simp [mkO, zeroO, tapeO, zonesO, cellsO, tenantsO, versionsO, intsO, hd]

theorem config_spec : Lift.Spec Tryd.prog 27 configSp := by
  refine spec_fam (C := CM4) types_ok CM4_ok follows Tryd.func27 (by kernel_rfl) rfl (by kernel_rfl) rfl ?_
  rintro L hL
  try simp only at hL
  refine ⟨by simp, ?_⟩
  intro r hr
  have r0 := dr_nonneg L 0 (show (0 : Int) < 5 by decide)
  have r1 := dr_lt L 0 (show (0 : Int) < 5 by decide)
  have w0 : IntKind.i64.wrap (dr L 0 5 + 1) = dr L 0 5 + 1 := wrap_i64_in (by omega) (by omega)
  have hRp : 1 ≤ (hd L).Regions ∧ (hd L).Regions ≤ 3 := by simp only [hd]; omega
  obtain ⟨⟨m, j1⟩, hz⟩ : ∃ zz, zGo L (hd L).Regions 7 0 4 = zz := ⟨_, rfl⟩
  obtain ⟨⟨cs, j2⟩, hc⟩ : ∃ zz, cGo L m 8 0 j1 [] = zz := ⟨_, rfl⟩
  obtain ⟨⟨ts, j3⟩, ht⟩ : ∃ zz, tGo L (hd L).Regions (dr L j2 6).toNat (j2 + 1) [] = zz := ⟨_, rfl⟩
  obtain ⟨⟨vs, j4⟩, hv⟩ : ∃ zz, vGo L (dr L (j3 + 1) 3).toNat (j3 + 2) [⟨0, dr L j3 3⟩] = zz := ⟨_, rfl⟩
  obtain ⟨⟨rs, j5⟩, hp⟩ : ∃ zz, rGo L m (2 * dr L j4 2 + 1).toNat (j4 + 1) [] = zz := ⟨_, rfl⟩
  obtain ⟨⟨os, j6⟩, ho⟩ : ∃ zz, rGo L m (1 + dr L j5 4).toNat (j5 + 1) [] = zz := ⟨_, rfl⟩
  have hfin : cfgOf L = ⟨(hd L).Regions, zonesTo (hd L).Regions m, cs, ts, vs, rs, os, (hd L).Blast, (hd L).Lease, (hd L).Bake⟩ := by
    rw [cfgOf_eq, cfgOf0_eq, hz, cfgA_mk, hc, cfgB_mk, ht, cfgC_mk, hv, cfgD_mk, hp, cfgE_mk, ho, cfgF_mk]
  have hzl : (zonesTo (hd L).Regions m).length = m := by simp [zonesTo]
  have key : atC [1,1,1,0,1,0] (Ret T Tryd.f27.results.toList r 0) (zSt L (0, 4)) :=
    seg_z _ L hL m j1 hz fun hj1 hm => seg_c _ L hL _ m j1 hzl hm ⟨rfl, rfl, rfl, rfl⟩ hj1 cs j2 hc fun hj2 _ => seg_t _ L hL _ j2 hRp ⟨rfl, rfl, rfl⟩ hj2 ts j3 ht fun hj3 _ =>
      seg_v _ L hL _ j3 ⟨rfl, rfl⟩ hj3 vs j4 hv fun hj4 _ => seg_r _ L hL _ m j4 hzl hm ⟨rfl, rfl⟩ hj4 rs j5 hp fun hj5 _ => seg_o L hL _ m j5 hzl hm rfl hj5 os j6 ho r (by rw [hr]; simp only [hfin])
  simp only [atC, cfgCode, bodyC, Tryd.f27, Option.getD_some, subC, contC, if_true, one_ne_zero', if_false, axwp_wpL] at key
  simp [tapeO, nextR, rangeR, hL, w0]
  refine wpL_weak (st0 := zSt L (0, 4)) ?_ key
  refine (weak_nilRow 120 500 ⟨32, 10, [[.int .i64 (hd L).Regions, .sl 0 1 [], .sl 0 1 [], .sl 0 1 [], .sl 0 1 [], .sl 0 1 [], .sl 0 1 [], .int .i64 (hd L).Blast, .int .i64 (hd L).Lease, .int .i64 (hd L).Bake]], true, 2, .rw⟩ _ [zonesO [], cellsO [], tenantsO [], versionsO [], intsO [], intsO []] ?_ rfl (by decide) ?_ ?_ rfl).trans (weak_at [.inr 3, .inr 4, .inl 500, .inl 501, .inl 502, .inl 503, .inl 504, .inl 505, .inr 2] ?_ ?_ ?_ ?_)
  · simp [hd]
  · simp [zonesO, cellsO, tenantsO, versionsO, intsO]
  · intro i hi
    simp at hi
    simp [show ¬ 500 + i = 120 by omega, show ¬ 500 + i = 16 by omega]
  all_goals simp [mkO, zeroO, tapeO, zonesO, cellsO, tenantsO, versionsO, intsO, hd, zonesTo]
end Go.Proofs.YtegjhmhhbmnljaaDoor
