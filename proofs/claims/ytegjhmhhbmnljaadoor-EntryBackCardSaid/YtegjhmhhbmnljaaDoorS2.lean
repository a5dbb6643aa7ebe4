/-
  state: what is booked.
-/
import Derived.Test.YtegjhmhhbmnljaaDoorS1
namespace Go.Proofs.YtegjhmhhbmnljaaDoor
open Go.Lift

def addL (L : List Int) (i x : Int) : List Int := if 0 ≤ i ∧ i < L.length then L.set i.toNat (L.getD i.toNat 0 + x) else L
theorem addL_len (L : List Int) (i x : Int) : (addL L i x).length = L.length := by unfold addL; split <;> simp
theorem addL_bound {L : List Int} {i x A B : Int} (h : ∀ v ∈ L, 0 ≤ v ∧ v ≤ A) (h0 : 0 ≤ x) (hx : x ≤ B) : ∀ v ∈ addL L i x, 0 ≤ v ∧ v ≤ A + B := by
  unfold addL
  split
  · rename_i hi
    intro v hv
    rcases List.mem_or_eq_of_mem_set hv with h1 | h1
    · have := h v h1; omega
    · have hk : i.toNat < L.length := by omega
      have := h (L.getD i.toNat 0) (by rw [List.getD_eq_getElem?_getD, List.getElem?_eq_getElem hk]; exact List.getElem_mem hk)
      omega
  · intro v hv
    have := h v hv; omega
abbrev numO (L : List Int) : AObj := ⟨3, 1, intRow L, true, 2, .rw⟩
def Small1 (L : List Int) : Prop := ∀ v ∈ L, 0 ≤ v ∧ v ≤ 2305843009213693952
noncomputable def addLSp := fam (fun i : (List Int) × Nat × Int × Int => [V.own 0 0 i.2.1, .int .i64 i.2.2.1, .int .i64 i.2.2.2]) (fun i : (List Int) × Nat × Int × Int => [numO i.1]) (fun i : (List Int) × Nat × Int × Int => (i.2.1 = i.1.length) ∧ (Small1 i.1) ∧ (0 ≤ i.2.2.2 ∧ i.2.2.2 ≤ 2305843009213693952)) (fun i : (List Int) × Nat × Int × Int => ⟨.tup [], [numO (addL i.1 i.2.2.1 i.2.2.2)]⟩)
@[simp] theorem addLSp_eq {L : List Int} {n : Nat} {i : Int} {x : Int} (h1 : n = L.length) (h2 : Small1 L) (h3 : 0 ≤ x ∧ x ≤ 2305843009213693952) : addLSp ([V.own 0 0 n, .int .i64 i, .int .i64 x]) ([numO L]) = some (⟨.tup [], [numO (addL L i x)]⟩) :=
  fam_eq (A := fun i : (List Int) × Nat × Int × Int => [V.own 0 0 i.2.1, .int .i64 i.2.2.1, .int .i64 i.2.2.2]) (O := fun i : (List Int) × Nat × Int × Int => [numO i.1]) (res := fun i : (List Int) × Nat × Int × Int => ⟨.tup [], [numO (addL i.1 i.2.2.1 i.2.2.2)]⟩) (by rintro ⟨L, n, i, x⟩ ⟨L', n', i', x'⟩ h h'; simp at h h'; obtain ⟨rfl, rfl, rfl⟩ := h; rw [h']) (L, n, i, x) ⟨h1, h2, h3⟩
@[simp] theorem addLSp_none {a b : Nat} {c : List (List V)} {v w : V} {os : List AObj} : addLSp [V.sl a b c, v, w] os = none := fam_none (fun i h _ => by simp at h)

theorem addL_spec : Lift.Spec Tryd.prog 99 addLSp := by
  refine spec_fam (C := C0) types_ok C0_ok follows Tryd.func99 (by kernel_rfl) rfl (by kernel_rfl) rfl ?_
  rintro ⟨L, n, i, x⟩ ⟨hn, hL, hx⟩
  try simp only at hn hL hx
  refine ⟨by simp, ?_⟩
  intro r hr
  subst hn
  by_cases h0 : 0 ≤ i
  · by_cases h1 : i < L.length
    · obtain ⟨k, rfl⟩ := Int.eq_ofNat_of_zero_le h0
      have hk : k < L.length := by omega
      obtain ⟨y, hy, hy', hm⟩ := get_of_lt hk
      have hyb := hL y hm
      have w : IntKind.i64.wrap (y + x) = y + x := wrap_i64_in (by omega) (by omega)
      have ha : addL L k x = L.set k (y + x) := by simp [addL, hk, hy']
      simp [hk, hy', w, intRow_set]
      rw [hr]
      refine ret_at [.inl 0] rfl ?_ ?_ (by simp) ?_ ?_ ?_ ?_ <;> simp [ha]
    · have ha : addL L i x = L := by simp [addL, h1]
      simp [h0, h1]
      rw [hr]
      refine ret_at [.inl 0] rfl ?_ ?_ (by simp) ?_ ?_ ?_ ?_ <;> simp [ha]
  · have ha : addL L i x = L := by simp [addL, h0]
    simp [h0]
    rw [hr]
    refine ret_at [.inl 0] rfl ?_ ?_ (by simp) ?_ ?_ ?_ ?_ <;> simp [ha]

/-- What the tenants book, one by one. -/
def bkOne (t : GTenantState) (d : GTenant) (L : List Int) : List Int :=
  if t.Placed = true then addL (addL (if t.Shed = true then L else addL (addL L t.Home d.Load) t.Target d.Load) t.Standby d.Shadow) t.Next d.Shadow else L
def bkTo (C : GConfig) (s : GState) : Nat → List Int
  | 0 => List.replicate C.Cells.length 0
  | i + 1 => bkOne (tenSt s i) (C.Tenants.getD i ⟨0, 0, 0, 0, 0, 0, false⟩) (bkTo C s i)
noncomputable def booked (C : GConfig) (s : GState) : List Int := hush (bkTo C s s.Tenants.length)
theorem booked_eq (C : GConfig) (s : GState) : booked C s = bkTo C s s.Tenants.length := hush_eq _
/-- Loads are small. -/
structure SmallT (C : GConfig) : Prop where
  N : C.Tenants.length ≤ 32
  M : C.Cells.length ≤ 16
  b : ∀ t ∈ C.Tenants, (0 ≤ t.Load ∧ t.Load ≤ 65536) ∧ 0 ≤ t.Shadow ∧ t.Shadow ≤ 65536
theorem bkOne_len (t : GTenantState) (d : GTenant) (L : List Int) : (bkOne t d L).length = L.length := by
  unfold bkOne
  repeat' split
  all_goals simp [addL_len]
theorem bkTo_len (C : GConfig) (s : GState) : ∀ i, (bkTo C s i).length = C.Cells.length
  | 0 => by simp [bkTo]
  | i + 1 => by rw [bkTo, bkOne_len, bkTo_len C s i]
theorem SmallT.at {C : GConfig} (h : SmallT C) (i : Nat) : (0 ≤ (C.Tenants.getD i ⟨0, 0, 0, 0, 0, 0, false⟩).Load ∧ (C.Tenants.getD i ⟨0, 0, 0, 0, 0, 0, false⟩).Load ≤ 65536) ∧ 0 ≤ (C.Tenants.getD i ⟨0, 0, 0, 0, 0, 0, false⟩).Shadow ∧ (C.Tenants.getD i ⟨0, 0, 0, 0, 0, 0, false⟩).Shadow ≤ 65536 := by
  rw [List.getD_eq_getElem?_getD]
  cases hx : C.Tenants[i]? with
  | none => simp
  | some x => exact h.b x (List.mem_of_getElem? hx)
theorem addL_b {L : List Int} {i x A : Int} (h : ∀ v ∈ L, 0 ≤ v ∧ v ≤ A) (h0 : 0 ≤ x) (hx : x ≤ 65536) : ∀ v ∈ addL L i x, 0 ≤ v ∧ v ≤ A + 65536 := addL_bound h h0 hx
theorem bkOne_b {t : GTenantState} {d : GTenant} {L : List Int} {A : Int} (hd : (0 ≤ d.Load ∧ d.Load ≤ 65536) ∧ 0 ≤ d.Shadow ∧ d.Shadow ≤ 65536) (h : ∀ v ∈ L, 0 ≤ v ∧ v ≤ A) : ∀ v ∈ bkOne t d L, 0 ≤ v ∧ v ≤ A + 262144 := by
  obtain ⟨⟨d1, d2⟩, d3, d4⟩ := hd
  unfold bkOne
  repeat' split
  · intro v hv
    have := addL_b (addL_b h d3 d4) d3 d4 v hv
    omega
  · intro v hv
    have := addL_b (addL_b (addL_b (addL_b h d1 d2) d1 d2) d3 d4) d3 d4 v hv
    omega
  · intro v hv
    have := h v hv
    omega
theorem bkTo_b {C : GConfig} (h : SmallT C) (s : GState) : ∀ i : Nat, ∀ v ∈ bkTo C s i, 0 ≤ v ∧ v ≤ 262144 * (i : Int)
  | 0 => by
    intro v hv
    simp [bkTo] at hv
    omega
  | i + 1 => by
    intro v hv
    have := bkOne_b (h.at i) (bkTo_b h s i) v hv
    omega

noncomputable def CZ3 := mkC [(99, addLSp)]
theorem CZ3_ok : SpecsOk Tryd.prog CZ3 := mkC_ok (all_cons addL_spec all_nil)
@[simp] theorem CZ3_1 : CZ3 99 = addLSp := rfl

noncomputable def bookedSp := fam (fun i : GConfig × GState => [vConfig i.1, vState i.2]) (fun _ : GConfig × GState => []) (fun i : GConfig × GState => (SmallT i.1) ∧ (i.2.Tenants.length = i.1.Tenants.length) ∧ (1 ≤ i.1.Cells.length)) (fun i : GConfig × GState => ⟨.sl 2 1 (intRow (booked i.1 i.2)), []⟩)
@[simp] theorem bookedSp_eq {C : GConfig} {s : GState} (h1 : SmallT C) (h2 : s.Tenants.length = C.Tenants.length) (h3 : 1 ≤ C.Cells.length) : bookedSp ([vConfig C, vState s]) ([]) = some (⟨.sl 2 1 (intRow (booked C s)), []⟩) :=
  fam_eq (A := fun i : GConfig × GState => [vConfig i.1, vState i.2]) (O := fun _ : GConfig × GState => []) (res := fun i : GConfig × GState => ⟨.sl 2 1 (intRow (booked i.1 i.2)), []⟩) (by rintro ⟨a0, a1⟩ ⟨b0, b1⟩ h h' <;> simp at h h' <;> simp_all) (C, s) ⟨h1, h2, h3⟩

def stO (s : GState) : AObj := ⟨59, 8, [GState.cells s], true, if s.Tenants = [] ∧ s.Cells = [] then 2 else 1, .rw⟩
def bkS (C : GConfig) (s : GState) (i : Nat × List Int) : St := mkSt [(2, .ptr 0 0 0), (3, .ptr 1 0 0), (5, .own 2 0 C.Cells.length), (6, .int .i64 i.1)] [(0, cfgO C), (1, stO s), (2, numO i.2)] 3
theorem small_of {L : List Int} {A : Int} (h : ∀ v ∈ L, 0 ≤ v ∧ v ≤ A) (hA : A ≤ 2305843009213693952) : Small1 L := fun v hv => by have := h v hv; omega
theorem zeroRow (n : Nat) : List.replicate n [V.int .i64 0] = intRow (List.replicate n 0) := by simp [intRow]
theorem booked_spec : Lift.Spec Tryd.prog 98 bookedSp := by
  refine spec_fam (C := CZ3) types_ok CZ3_ok follows Tryd.func98 (by kernel_rfl) rfl (by kernel_rfl) rfl ?_
  rintro ⟨C, s⟩ ⟨h, hn, hc⟩
  try simp only at h hn hc
  refine ⟨by simp, ?_⟩
  intro r hr
  have hM := h.M
  have hN := h.N
  have q1 : (C.Cells.length : Int) ≤ 140737488351232 := by omega
  have q2 : 8 * (C.Cells.length : Int) ≤ 140737488355328 := by omega
  simp [GConfig.cells, GState.cells, q1, q2]
  refine axwp_loop (bkS C s) (fun i => i.1 ≤ s.Tenants.length ∧ i.2 = bkTo C s i.1) (fun i => s.Tenants.length - i.1) (0, bkTo C s 0) ?_ ⟨Nat.zero_le _, rfl⟩ ?_
  · refine weak_at [.inr 2, .inr 3, .inr 5] ?_ ?_ ?_ ?_ <;> simp [cfgO, stO, GConfig.cells, GState.cells, bkTo, zeroRow]
  · rintro ⟨i, L⟩ ⟨hi, hL⟩
    simp only at hi hL
    have hlen : L.length = C.Cells.length := by rw [hL]; exact bkTo_len C s i
    by_cases hik : i < s.Tenants.length
    · have w4 : IntKind.i64.wrap ((i : Int) + 1) = (i : Int) + 1 := wrap_i64_in (by omega) (by omega)
      obtain ⟨x, hx, hx', _⟩ := get_of_lt hik
      obtain ⟨d, hd, hd', hdm⟩ := get_of_lt (l := C.Tenants) (k := i) (by omega)
      have hic : i < C.Tenants.length := by omega
      have hb := bkTo_b h s i
      rw [← hL] at hb
      obtain ⟨⟨d1, d2⟩, d3, d4⟩ := h.b d hdm
      have hstep : bkTo C s (i + 1) = bkOne x d L := by rw [bkTo, ← hL]; simp [tenSt, hx, hd]
      have b1 : 0 ≤ d.Load ∧ d.Load ≤ 2305843009213693952 := by omega
      have b2 : 0 ≤ d.Shadow ∧ d.Shadow ≤ 2305843009213693952 := by omega
      have s0 : Small1 L := small_of hb (by omega)
      have s1 : ∀ a, Small1 (addL L a d.Load) := fun a => small_of (addL_b hb d1 d2) (by omega)
      have s2 : ∀ a b, Small1 (addL (addL L a d.Load) b d.Load) := fun a b => small_of (addL_b (addL_b hb d1 d2) d1 d2) (by omega)
      have s3 : ∀ a, Small1 (addL L a d.Shadow) := fun a => small_of (addL_b hb d3 d4) (by omega)
      have s4 : ∀ a b c, Small1 (addL (addL (addL L a d.Load) b d.Load) c d.Shadow) := fun a b c => small_of (addL_b (addL_b (addL_b hb d1 d2) d1 d2) d3 d4) (by omega)
      clear hb hL
      cases hp : x.Placed
      · simp [bkS, cfgO, stO, GConfig.cells, GState.cells, hik, hic, hx', hd', GTenantState.cells, GTenant.cells, hp]
        refine ⟨⟨by kernel_rfl, by kernel_rfl⟩, ?_⟩
        refine Again.mk (i + 1, L) ⟨hik, by rw [hstep]; simp [bkOne, hp]⟩ (by show s.Tenants.length - (i + 1) < s.Tenants.length - i; omega) ?_
        refine weak_at [.inr 2, .inr 3, .inr 5] ?_ ?_ ?_ ?_ <;> simp [cfgO, stO, GConfig.cells, GState.cells, w4]
      · cases hsd : x.Shed
        · simp [bkS, cfgO, stO, GConfig.cells, GState.cells, hik, hic, hx', hd', GTenantState.cells, GTenant.cells, hp, hsd, b1, b2, s0, s1, s2, s4, addL_len, hlen]
          refine ⟨⟨by kernel_rfl, by kernel_rfl⟩, ?_⟩
          refine Again.mk (i + 1, bkOne x d L) ⟨hik, hstep.symm⟩ (by show s.Tenants.length - (i + 1) < s.Tenants.length - i; omega) ?_
          refine weak_at [.inr 2, .inr 3, .inr 5] ?_ ?_ ?_ ?_ <;> simp [cfgO, stO, GConfig.cells, GState.cells, w4, bkOne, hp, hsd]
        · simp [bkS, cfgO, stO, GConfig.cells, GState.cells, hik, hic, hx', hd', GTenantState.cells, GTenant.cells, hp, hsd, b2, s0, s3, addL_len, hlen]
          refine ⟨⟨by kernel_rfl, by kernel_rfl⟩, ?_⟩
          refine Again.mk (i + 1, bkOne x d L) ⟨hik, hstep.symm⟩ (by show s.Tenants.length - (i + 1) < s.Tenants.length - i; omega) ?_
          refine weak_at [.inr 2, .inr 3, .inr 5] ?_ ?_ ?_ ?_ <;> simp [cfgO, stO, GConfig.cells, GState.cells, w4, bkOne, hp, hsd]
    · have e : i = s.Tenants.length := by omega
      subst e
      simp [bkS, cfgO, stO, GConfig.cells, GState.cells]
      rw [hr]
      rw [← booked_eq] at hL
      refine retData [4] ?_ rfl (by simp) ?_
      · simp
      · have htk : L.take C.Cells.length = L := by rw [← hlen, List.take_length]
        have hge : C.Cells.length ≤ L.length := by omega
        simp [← hL, hge, htk]

noncomputable def overP (C : GConfig) (s : GState) : Nat → Bool := fun k => decide ((C.Cells.getD k ⟨0, 0⟩).Capacity < (booked C s).getD k 0)
noncomputable def overL (C : GConfig) (s : GState) : List Int := idxTo (overP C s) C.Cells.length
noncomputable def CZ4 := mkC [(98, bookedSp)]
theorem CZ4_ok : SpecsOk Tryd.prog CZ4 := mkC_ok (all_cons booked_spec all_nil)
@[simp] theorem CZ4_1 : CZ4 98 = bookedSp := rfl

noncomputable def overSp := fam (fun i : GConfig × GState => [vConfig i.1, vState i.2]) (fun _ : GConfig × GState => []) (fun i : GConfig × GState => (SmallT i.1) ∧ (i.2.Tenants.length = i.1.Tenants.length) ∧ (1 ≤ i.1.Cells.length)) (fun i : GConfig × GState => ⟨.sl 2 1 (intRow (overL i.1 i.2)), []⟩)
@[simp] theorem overSp_eq {C : GConfig} {s : GState} (h1 : SmallT C) (h2 : s.Tenants.length = C.Tenants.length) (h3 : 1 ≤ C.Cells.length) : overSp ([vConfig C, vState s]) ([]) = some (⟨.sl 2 1 (intRow (overL C s)), []⟩) :=
  fam_eq (A := fun i : GConfig × GState => [vConfig i.1, vState i.2]) (O := fun _ : GConfig × GState => []) (res := fun i : GConfig × GState => ⟨.sl 2 1 (intRow (overL i.1 i.2)), []⟩) (by rintro ⟨a0, a1⟩ ⟨b0, b1⟩ h h' <;> simp at h h' <;> simp_all) (C, s) ⟨h1, h2, h3⟩

noncomputable def ovS (C : GConfig) (s : GState) (L : List Int) (i : Nat) : St := mkSt [(2, .ptr 0 0 0), (5, .own 1 0 (idxTo (overP C s) i).length), (6, .sl 2 1 (intRow L)), (7, .int .i64 i)] [(0, cfgO C), (1, intsO (idxTo (overP C s) i))] 2
theorem over_spec : Lift.Spec Tryd.prog 97 overSp := by
  refine spec_fam (C := CZ4) types_ok CZ4_ok follows Tryd.func97 (by kernel_rfl) rfl (by kernel_rfl) rfl ?_
  rintro ⟨C, s⟩ ⟨h, hn, hc⟩
  try simp only at h hn hc
  refine ⟨by simp, ?_⟩
  intro r hr
  have hM := h.M
  have hlen : (booked C s).length = C.Cells.length := by rw [booked_eq]; exact bkTo_len C s _
  have hop : ∀ k, overP C s k = decide ((C.Cells.getD k ⟨0, 0⟩).Capacity < (booked C s).getD k 0) := fun k => rfl
  simp [GConfig.cells, GState.cells, h, hn, hc]
  generalize booked C s = L at *
  refine axwp_loop (ovS C s L) (fun i => i ≤ C.Cells.length) (fun i => C.Cells.length - i) 0 ?_ (Nat.zero_le _) ?_
  · refine (weak_nil 5 999 (sz := 1) (intsO []) ?_ ?_ ?_).trans (weak_at [.inr 2, .inr 5] ?_ ?_ ?_ ?_) <;> simp [intsO, cfgO, idxTo_zero, GConfig.cells]
  · intro i hi
    obtain ⟨q1, q2⟩ := push_ok (idxTo_len (overP C s) i) (by omega)
    by_cases hik : i < C.Cells.length
    · have w4 : IntKind.i64.wrap ((i : Int) + 1) = (i : Int) + 1 := wrap_i64_in (by omega) (by omega)
      obtain ⟨x, hx, hx', _⟩ := get_of_lt hik
      obtain ⟨y, hy, hy', _⟩ := get_of_lt (l := L) (k := i) (by omega)
      have hil : i < L.length := by omega
      have hp := hop i
      rw [show C.Cells.getD i ⟨0, 0⟩ = x by simp [hx], show L.getD i 0 = y by simp [hy]] at hp
      by_cases hlt : x.Capacity < y
      · have hp1 : overP C s i = true := by rw [hp]; exact decide_eq_true hlt
        simp [ovS, cfgO, intsO, GConfig.cells, hlen, hik, hx', hy', GCell.cells, hlt, q1, q2]
        refine ⟨⟨by kernel_rfl, by kernel_rfl⟩, ?_⟩
        refine Again.mk (i + 1) hik (by omega) ?_
        refine weak_at [.inl 0, .inr 5] ?_ ?_ ?_ ?_ <;> simp [cfgO, intsO, GConfig.cells, w4, idxTo_t hp1, intRow_push]
      · have hp1 : overP C s i = false := by rw [hp]; exact decide_eq_false hlt
        simp [ovS, cfgO, intsO, GConfig.cells, hlen, hik, hx', hy', GCell.cells, hlt]
        refine ⟨⟨by kernel_rfl, by kernel_rfl⟩, ?_⟩
        refine Again.mk (i + 1) hik (by omega) ?_
        refine weak_at [.inl 0, .inr 5] ?_ ?_ ?_ ?_ <;> simp [cfgO, intsO, GConfig.cells, w4, idxTo_f hp1]
    · have e : i = C.Cells.length := by omega
      subst e
      simp [ovS, cfgO, intsO, GConfig.cells, hlen]
      rw [hr]
      refine retData [4] ?_ rfl (by simp) ?_
      · simp
      · simp [overL]

noncomputable def fitB (C : GConfig) (s : GState) : Bool := decide (overL C s = [])
def zeroS : GState := ⟨0, 0, [], [], 0, 0, 0, 0⟩
/-- The state that stands beside an error. -/
abbrev zrV : V := .agg [.int .i64 0, .int .i64 0, .sl 0 1 [], .sl 0 1 [], .int .i64 0, .int .i64 0, .int .i64 0, .int .i64 0]
def stV (x : GState × Int) : V := if x.2 = 0 then vState x.1 else zrV
theorem stV_ok (s : GState) : stV (s, 0) = vState s := rfl
theorem stV_err {s : GState} {e : Int} (h : ¬ e = 0) : stV (s, e) = zrV := if_neg h
theorem stV_closed (x : GState × Int) : (stV x).closed = true := by unfold stV; split; exact vState_closed _; rfl
/-- A state, or the error of capacity. -/
noncomputable def fitF (C : GConfig) (s : GState) : GState × Int := if fitB C s = true then (s, 0) else (zeroS, 10)
abbrev resS (x : GState × Int) : CRes := ⟨.tup [stV x, .int .i64 x.2], []⟩
noncomputable def CZ5 := mkC [(97, overSp)]
theorem CZ5_ok : SpecsOk Tryd.prog CZ5 := mkC_ok (all_cons over_spec all_nil)
@[simp] theorem CZ5_1 : CZ5 97 = overSp := rfl

noncomputable def fitSp := fam (fun i : GConfig × GState => [vConfig i.1, vState i.2]) (fun _ : GConfig × GState => []) (fun i : GConfig × GState => (SmallT i.1) ∧ (i.2.Tenants.length = i.1.Tenants.length) ∧ (1 ≤ i.1.Cells.length)) (fun i : GConfig × GState => resS (fitF i.1 i.2))
@[simp] theorem fitSp_eq {C : GConfig} {s : GState} (h1 : SmallT C) (h2 : s.Tenants.length = C.Tenants.length) (h3 : 1 ≤ C.Cells.length) : fitSp ([vConfig C, vState s]) ([]) = some (resS (fitF C s)) :=
  fam_eq (A := fun i : GConfig × GState => [vConfig i.1, vState i.2]) (O := fun _ : GConfig × GState => []) (res := fun i : GConfig × GState => resS (fitF i.1 i.2)) (by rintro ⟨a0, a1⟩ ⟨b0, b1⟩ h h' <;> simp at h h' <;> simp_all) (C, s) ⟨h1, h2, h3⟩

theorem fit_spec : Lift.Spec Tryd.prog 92 fitSp := by
  refine spec_fam (C := CZ5) types_ok CZ5_ok follows Tryd.func92 (by kernel_rfl) rfl (by kernel_rfl) rfl ?_
  rintro ⟨C, s⟩ ⟨h, hn, hc⟩
  try simp only at h hn hc
  refine ⟨by simp, ?_⟩
  intro r hr
  by_cases ho : overL C s = []
  · have hF : fitF C s = (s, 0) := by simp [fitF, fitB, ho]
    simp [GConfig.cells, GState.cells, h, hn, hc, ho]
    rw [hr]; refine ret_closed rfl ?_ (by simp [stV_closed])
    simp [hF, stV_ok]
  · have hF : fitF C s = (zeroS, 10) := by simp [fitF, fitB, ho]
    have hpos : 0 < (overL C s).length := List.length_pos_iff.2 ho
    simp [GConfig.cells, GState.cells, h, hn, hc, hpos]
    rw [hr]
    refine ret_closed rfl ?_ (by simp [stV_closed])
    simp [hF, stV_err]
noncomputable def noSp := fam (fun i : Int => [V.int .i64 i]) (fun _ : Int => []) (fun _ : Int => True) (fun i : Int => ⟨.tup [zrV, .int .i64 i], []⟩)
@[simp] theorem noSp_eq {e : Int}  : noSp ([V.int .i64 e]) ([]) = some (⟨.tup [zrV, .int .i64 e], []⟩) :=
  fam_eq (A := fun i : Int => [V.int .i64 i]) (O := fun _ : Int => []) (res := fun i : Int => ⟨.tup [zrV, .int .i64 i], []⟩) (by intro a b h h' <;> simp at h h' <;> simp_all) e trivial

theorem no_spec : Lift.Spec Tryd.prog 74 noSp := by
  refine spec_fam (C := C0) types_ok C0_ok follows Tryd.func74 (by kernel_rfl) rfl (by kernel_rfl) rfl ?_
  rintro e _
  refine ⟨by simp, ?_⟩
  intro r hr
  simp
  ((repeat refine ⟨⟨by kernel_rfl, by kernel_rfl⟩, ?_⟩); rw [hr]; refine ret_closed rfl ?_ rfl; simp)
end Go.Proofs.YtegjhmhhbmnljaaDoor
