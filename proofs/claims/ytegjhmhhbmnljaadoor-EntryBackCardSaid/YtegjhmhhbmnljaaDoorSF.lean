/-
  make: grant.
-/
import Derived.Test.YtegjhmhhbmnljaaDoorSD
namespace Go.Proofs.YtegjhmhhbmnljaaDoor
open Go.Lift

def mx (a b : Int) : Int := if a < b then b else a
theorem mx_in {a b n : Int} (ha : 0 ≤ a ∧ a ≤ n) (hb : 0 ≤ b ∧ b ≤ n) : 0 ≤ mx a b ∧ mx a b ≤ n := by
  unfold mx; split <;> assumption
noncomputable def g15 (C : GConfig) (s : GState) (L : List Int) (j : Nat) (e : GEntry) : GEntry × Nat :=
  let u := e.From + (1 + dr L j C.Lease)
  let n := (cellSt s e.Cell).Running
  if dr L (j + 1) 15 = 0 then ({ e with From := if 1 < e.From then e.From - 1 else 0, Until := u + dr L (j + 2) 30, N := n }, j + 3)
  else ({ e with Until := u, N := n }, j + 2)
noncomputable def g12 (C : GConfig) (s : GState) (x : GTenantState) (L : List Int) (j : Nat) (e : GEntry) : GEntry × Nat :=
  if dr L j 5 = 0 then g15 C s L (j + 2) { e with From := mx e.Tick x.Window.Until + dr L (j + 1) 3 }
  else g15 C s L (j + 1) { e with From := mx e.Tick x.Window.Until }
noncomputable def g10 (C : GConfig) (s : GState) (x : GTenantState) (L : List Int) (j : Nat) (e : GEntry) : GEntry × Nat :=
  if e.Cell = x.Home then g12 C s x L j e
  else if 0 < dr L j 4 then g12 C s x L (j + 1) { e with Tick := mx e.Tick x.Window.Until }
  else g12 C s x L (j + 1) e
noncomputable def g7 (C : GConfig) (s : GState) (x : GTenantState) (L : List Int) (j : Nat) (e : GEntry) : GEntry × Nat :=
  if ¬ e.Cell = x.Home ∨ x.Epoch = 0 then g10 C s x L j { e with Epoch := x.Epoch + 1 }
  else if dr L j 4 = 0 then g10 C s x L (j + 1) { e with Epoch := x.Epoch + 1 }
  else g10 C s x L (j + 1) { e with Epoch := x.Epoch }
noncomputable def g5 (C : GConfig) (s : GState) (x : GTenantState) (L : List Int) (j : Nat) (e : GEntry) : GEntry × Nat :=
  if x.Standby < 0 then g7 C s x L j { e with Cell := x.Home }
  else if dr L j 5 = 0 ∨ x.Shed = true then g7 C s x L (j + 1) { e with Cell := x.Standby }
  else g7 C s x L (j + 1) { e with Cell := x.Home }
noncomputable def grantM (C : GConfig) (s : GState) (e : GEntry) (L : List Int) (j : Nat) : GEntry × Nat :=
  if (tenSt s e.Tenant).Target < 0 then g5 C s (tenSt s e.Tenant) L j e
  else if dr L j 2 = 0 then g7 C s (tenSt s e.Tenant) L (j + 1) { e with Cell := (tenSt s e.Tenant).Target }
  else g5 C s (tenSt s e.Tenant) L (j + 1) e
section
variable (C : GConfig) (s : GState) (x : GTenantState) (e : GEntry) (j i : Nat)
theorem g15_nil : (g15 C s [] j e).1 = (g15 C s [] i e).1 := by
  simp only [g15, dr_nil]
  rfl
theorem g12_nil : (g12 C s x [] j e).1 = (g12 C s x [] i e).1 := by
  simp only [g12, dr_nil, if_true]
  apply g15_nil
theorem g10_nil : (g10 C s x [] j e).1 = (g10 C s x [] i e).1 := by
  simp only [g10, dr_nil]
  by_cases h : e.Cell = x.Home
  · simp only [h, if_true]; apply g12_nil
  · simp only [h, if_false, Int.lt_irrefl]; apply g12_nil
theorem g7_nil : (g7 C s x [] j e).1 = (g7 C s x [] i e).1 := by
  simp only [g7, dr_nil]
  by_cases h : ¬ e.Cell = x.Home ∨ x.Epoch = 0
  · rw [if_pos h, if_pos h]; apply g10_nil
  · rw [if_neg h, if_neg h]; simp only [if_true]; apply g10_nil
theorem g5_nil : (g5 C s x [] j e).1 = (g5 C s x [] i e).1 := by
  simp only [g5, dr_nil]
  by_cases h : x.Standby < 0
  · rw [if_pos h, if_pos h]; apply g7_nil
  · rw [if_neg h, if_neg h]; simp only [true_or, if_true]; apply g7_nil
theorem grant_nil : (grantM C s e [] j).1 = (grantM C s e [] i).1 := by
  simp only [grantM, dr_nil]
  by_cases h : (tenSt s e.Tenant).Target < 0
  · rw [if_pos h, if_pos h]; apply g5_nil
  · rw [if_neg h, if_neg h]; simp only [if_true]; apply g7_nil
end
theorem grantM_inj : ∀ i j : List Int × Nat × GConfig × GState × GEntry, [V.ptr 0 0 0, vConfig i.2.2.1, vState i.2.2.2.1, vEntry i.2.2.2.2] = [V.ptr 0 0 0, vConfig j.2.2.1, vState j.2.2.2.1, vEntry j.2.2.2.2] → [tapeO i.1 i.2.1] = [tapeO j.1 j.2.1] → (⟨vEntry (grantM i.2.2.1 i.2.2.2.1 i.2.2.2.2 i.1 i.2.1).1, [tapeO i.1 (grantM i.2.2.1 i.2.2.2.1 i.2.2.2.2 i.1 i.2.1).2]⟩ : CRes) = ⟨vEntry (grantM j.2.2.1 j.2.2.2.1 j.2.2.2.2 j.1 j.2.1).1, [tapeO j.1 (grantM j.2.2.1 j.2.2.2.1 j.2.2.2.2 j.1 j.2.1).2]⟩ := by
  rintro ⟨L, j, C, s, e⟩ ⟨L', j', C', s', e'⟩ h h'
  obtain ⟨rfl, h1⟩ := tape_eq (List.cons.inj h').1
  simp at h
  obtain ⟨rfl, rfl, rfl⟩ := h
  rcases h1 with h1 | h1
  · simp only at h1
    subst h1
    simp only
    rw [grant_nil C s e j j', tape_nil, tape_nil (grantM C s e [] j').2]
  · simp only at h1
    subst h1; rfl
noncomputable def CMG := mkC [(39, nextSp), (40, rangeSp), (41, yesSp)]
theorem CMG_ok : SpecsOk Tryd.prog CMG := mkC_ok (all_cons next_spec (all_cons range_spec (all_cons yes_spec all_nil)))
@[simp] theorem CMG_1 : CMG 39 = nextSp := rfl
@[simp] theorem CMG_2 : CMG 40 = rangeSp := rfl
@[simp] theorem CMG_3 : CMG 41 = yesSp := rfl

abbrev tenO (x : GTenantState) : AObj := ⟨90, 12, [GTenantState.cells x], true, 2, .rw⟩
def grSt (C : GConfig) (s : GState) (x : GTenantState) (L : List Int) (j : Nat) (e : GEntry) : St := mkSt [(0, .ptr 0 0 0), (5, .ptr 1 0 0), (6, .ptr 2 0 0), (7, .ptr 3 0 0), (8, .ptr 4 0 0), (9, .ptr 5 0 0)] [(0, tapeO L j), (1, cfgO C), (2, stO s), (3, entO e), (4, entO zeroE), (5, tenO x)] 6
structure GrOk (b : Nat) (C : GConfig) (s : GState) (x : GTenantState) (L : List Int) (j : Nat) (e : GEntry) : Prop where
  l : L.length ≤ 200
  j : j ≤ b
  c : CfgOk C
  st : StOk C s
  x : TenOk C x
  cell : 0 ≤ e.Cell ∧ e.Cell < s.Cells.length
  tick : 0 ≤ e.Tick ∧ e.Tick ≤ 2147483648
  from_ : -4 ≤ e.From ∧ e.From ≤ 4294967296

set_option maxHeartbeats 4000000 in
theorem gr_15 {C : GConfig} {s : GState} {x : GTenantState} {L : List Int} {j : Nat} {e : GEntry} (h : GrOk 99020 C s x L j e) {r : CRes} (hr : r = ⟨vEntry (g15 C s L j e).1, [tapeO L (g15 C s L j e).2]⟩) : SemWp Tryd.prog Tryd.f47.ntmps 1 (restC Tryd.f47 [1,1,1,1,1,1,1,1,1]) (Ret T Tryd.f47.results.toList r 1) (grSt C s x L j e) := by
  refine sem_end (C := CMG) types_ok CMG_ok follows Tryd.f47 [1,1,1,1,1,1,1,1,1] (by simp only [bodyC, Tryd.f47, Option.getD_some, subC, one_ne_zero', if_false]; rfl) (by kernel_rfl) ?_
  have N1 := rangeSp_eq (L := L) (j := j) (low := 1) (high := C.Lease) h.l (by have := h.j; omega) (by have := h.c.topo.lease; omega) (by decide) (by have := h.c.topo.lease; omega)
  have N2 := yesSp_eq (L := L) (j := (j + 1)) (n := 15) h.l (by have := h.j; omega) (by decide) (by decide)
  have N3 := nextSp_eq (L := L) (j := (j + 2)) (n := 30) h.l (by have := h.j; omega) (by decide) (by decide)
  simp only [tapeO] at N1 N2 N3
  have hN := h.st.N
  have hl := h.c.topo.lease
  have a0 := dr_nonneg L j (show (0 : Int) < C.Lease by omega)
  have a1 := dr_lt L j (show (0 : Int) < C.Lease by omega)
  have b0 := dr_nonneg L (j + 2) (show (0 : Int) < 30 by decide)
  have b1 := dr_lt L (j + 2) (show (0 : Int) < 30 by decide)
  have hc := h.cell
  have hf := h.from_
  have w1 : IntKind.i64.wrap (e.From + (1 + dr L j C.Lease)) = e.From + (1 + dr L j C.Lease) := wrap_i64_in (by omega) (by omega)
  have w2 : IntKind.i64.wrap (e.From - 1) = e.From - 1 := wrap_i64_in (by omega) (by omega)
  have w3 : IntKind.i64.wrap (e.From + (1 + dr L j C.Lease) + dr L (j + 2) 30) = e.From + (1 + dr L j C.Lease) + dr L (j + 2) 30 := wrap_i64_in (by omega) (by omega)
  simp only [g15] at hr
  clear h a0 a1 b0 b1 hf
  obtain ⟨kd, tk, tn, ce, ot, ep, fr, un, n⟩ := e
  simp only at hc hr w1 w2 w3
  obtain ⟨k, rfl⟩ := Int.eq_ofNat_of_zero_le hc.1
  have hkl : k < s.Cells.length := by omega
  obtain ⟨y, hy, hy', _⟩ := get_of_lt hkl
  have hcs : cellSt s k = y := by simp [cellSt, hy]
  rw [hcs] at hr
  by_cases hz : dr L (j + 1) 15 = 0
  · simp [grSt, tapeO, cfgO, stO, entO, GConfig.cells, GState.cells, GCellState.cells, GEntry.cells, zeroE, hkl, hy', N1, N2, N3, w1, w2, w3, hz]
    (repeat refine ⟨⟨by kernel_rfl, by kernel_rfl⟩, ?_⟩)
    try simp [grSt, tapeO, cfgO, stO, entO, mx, GConfig.cells, GState.cells, GCellState.cells, GEntry.cells, GTenantState.cells, GWindow.cells, zeroE, hkl, hy', N1, N2, N3, w1, w2, w3, hz]
    (repeat refine ⟨⟨by kernel_rfl, by kernel_rfl⟩, ?_⟩)
    try simp [grSt, tapeO, cfgO, stO, entO, mx, GConfig.cells, GState.cells, GCellState.cells, GEntry.cells, GTenantState.cells, GWindow.cells, zeroE, hkl, hy', N1, N2, N3, w1, w2, w3, hz]
    rw [hr]
    refine ret_at [.inl 0] rfl ?_ ?_ (by simp) ?_ ?_ ?_ ?_ <;> simp [tapeO, hz]
  · simp [grSt, tapeO, cfgO, stO, entO, GConfig.cells, GState.cells, GCellState.cells, GEntry.cells, zeroE, hkl, hy', N1, N2, w1, hz]
    (repeat refine ⟨⟨by kernel_rfl, by kernel_rfl⟩, ?_⟩)
    try simp [grSt, tapeO, cfgO, stO, entO, mx, GConfig.cells, GState.cells, GCellState.cells, GEntry.cells, GTenantState.cells, GWindow.cells, zeroE, hkl, hy', N1, N2, N3, w1, w2, w3, hz]
    rw [hr]
    refine ret_at [.inl 0] rfl ?_ ?_ (by simp) ?_ ?_ ?_ ?_ <;> simp [tapeO, hz]
set_option maxHeartbeats 4000000 in
theorem gr_12 {C : GConfig} {s : GState} {x : GTenantState} {L : List Int} {j : Nat} {e : GEntry} (h : GrOk 99010 C s x L j e) {r : CRes} (hr : r = ⟨vEntry (g12 C s x L j e).1, [tapeO L (g12 C s x L j e).2]⟩) : SemWp Tryd.prog Tryd.f47.ntmps 1 (restC Tryd.f47 [1,1,1,1,1,1,1]) (Ret T Tryd.f47.results.toList r 1) (grSt C s x L j e) := by
  refine sem_at (C := CMG) types_ok CMG_ok follows Tryd.f47 [1,1,1,1,1,1,1] [1,1] (by simp only [bodyC, Tryd.f47, Option.getD_some, subC, one_ne_zero', if_false]; rfl) (by kernel_rfl) ?_
  have N1 := yesSp_eq (L := L) (j := j) (n := 5) h.l (by have := h.j; omega) (by decide) (by decide)
  have N2 := nextSp_eq (L := L) (j := (j + 1)) (n := 3) h.l (by have := h.j; omega) (by decide) (by decide)
  simp only [tapeO] at N1 N2
  have hj := h.j
  have hx := h.x.until_
  have ht := h.tick
  have hm := mx_in (n := 2147483648) ht (by omega : 0 ≤ x.Window.Until ∧ x.Window.Until ≤ 2147483648)
  have b0 := dr_nonneg L (j + 1) (show (0 : Int) < 3 by decide)
  have b1 := dr_lt L (j + 1) (show (0 : Int) < 3 by decide)
  have w1 : IntKind.i64.wrap (mx e.Tick x.Window.Until + dr L (j + 1) 3) = mx e.Tick x.Window.Until + dr L (j + 1) 3 := wrap_i64_in (by omega) (by omega)
  simp only [mx] at w1
  simp only [g12] at hr
  by_cases hz : dr L j 5 = 0
  · rw [if_pos hz] at hr
    have key := gr_15 (e := { e with From := mx e.Tick x.Window.Until + dr L (j + 1) 3 }) (j := j + 2) (h := { h with j := by omega, from_ := by simp only; omega }) hr
    simp [grSt, tapeO, cfgO, stO, entO, GConfig.cells, GState.cells, GEntry.cells, GTenantState.cells, zeroE, N1, N2, w1, hz]
    (repeat refine ⟨⟨by kernel_rfl, by kernel_rfl⟩, ?_⟩)
    try simp [grSt, tapeO, cfgO, stO, entO, mx, GConfig.cells, GState.cells, GCellState.cells, GEntry.cells, GTenantState.cells, GWindow.cells, zeroE, N1, N2, w1, hz]
    refine SemWp.weak ?_ key
    refine weak_at [.inl 0, .inr 5, .inr 6, .inr 7, .inr 8, .inr 9] ?_ ?_ ?_ ?_ <;> simp [tapeO, cfgO, stO, entO, mx, GConfig.cells, GState.cells, GEntry.cells, GTenantState.cells, zeroE]
  · rw [if_neg hz] at hr
    have key := gr_15 (e := { e with From := mx e.Tick x.Window.Until }) (j := j + 1) (h := { h with j := by omega, from_ := by simp only; omega }) hr
    simp [grSt, tapeO, cfgO, stO, entO, GConfig.cells, GState.cells, GEntry.cells, GTenantState.cells, zeroE, N1, hz]
    refine SemWp.weak ?_ key
    refine weak_at [.inl 0, .inr 5, .inr 6, .inr 7, .inr 8, .inr 9] ?_ ?_ ?_ ?_ <;> simp [tapeO, cfgO, stO, entO, mx, GConfig.cells, GState.cells, GEntry.cells, GTenantState.cells, zeroE]
set_option maxHeartbeats 4000000 in
theorem gr_10 {C : GConfig} {s : GState} {x : GTenantState} {L : List Int} {j : Nat} {e : GEntry} (h : GrOk 99005 C s x L j e) {r : CRes} (hr : r = ⟨vEntry (g10 C s x L j e).1, [tapeO L (g10 C s x L j e).2]⟩) : SemWp Tryd.prog Tryd.f47.ntmps 1 (restC Tryd.f47 [1,1,1,1,1,1]) (Ret T Tryd.f47.results.toList r 1) (grSt C s x L j e) := by
  refine sem_at (C := CMG) types_ok CMG_ok follows Tryd.f47 [1,1,1,1,1,1] [1] (by simp only [bodyC, Tryd.f47, Option.getD_some, subC, one_ne_zero', if_false]; rfl) (by kernel_rfl) ?_
  have N1 := nextSp_eq (L := L) (j := j) (n := 4) h.l (by have := h.j; omega) (by decide) (by decide)
  simp only [tapeO] at N1
  have hj := h.j
  have hx := h.x.until_
  have ht := h.tick
  have hm := mx_in (n := 2147483648) ht (by omega : 0 ≤ x.Window.Until ∧ x.Window.Until ≤ 2147483648)
  simp only [g10] at hr
  by_cases hz : e.Cell = x.Home
  · rw [if_pos hz] at hr
    have key := gr_12 (e := e) (j := j) (h := { h with j := by omega }) hr
    simp [grSt, tapeO, cfgO, stO, entO, GConfig.cells, GState.cells, GEntry.cells, GTenantState.cells, zeroE, hz]
    refine SemWp.weak ?_ key
    refine weak_at [.inl 0, .inr 5, .inr 6, .inr 7, .inr 8, .inr 9] ?_ ?_ ?_ ?_ <;> simp [tapeO, cfgO, stO, entO, GConfig.cells, GState.cells, GEntry.cells, GTenantState.cells, zeroE, hz]
  rw [if_neg hz] at hr
  by_cases hy : 0 < dr L j 4
  · rw [if_pos hy] at hr
    have key := gr_12 (e := { e with Tick := mx e.Tick x.Window.Until }) (j := j + 1) (h := { h with j := by omega, tick := hm }) hr
    simp [grSt, tapeO, cfgO, stO, entO, GConfig.cells, GState.cells, GEntry.cells, GTenantState.cells, zeroE, N1, hz, hy]
    refine SemWp.weak ?_ key
    refine weak_at [.inl 0, .inr 5, .inr 6, .inr 7, .inr 8, .inr 9] ?_ ?_ ?_ ?_ <;> simp [tapeO, cfgO, stO, entO, mx, GConfig.cells, GState.cells, GEntry.cells, GTenantState.cells, zeroE]
  · rw [if_neg hy] at hr
    have key := gr_12 (e := e) (j := j + 1) (h := { h with j := by omega }) hr
    simp [grSt, tapeO, cfgO, stO, entO, GConfig.cells, GState.cells, GEntry.cells, GTenantState.cells, zeroE, N1, hz, hy]
    refine SemWp.weak ?_ key
    refine weak_at [.inl 0, .inr 5, .inr 6, .inr 7, .inr 8, .inr 9] ?_ ?_ ?_ ?_ <;> simp [tapeO, cfgO, stO, entO, GConfig.cells, GState.cells, GEntry.cells, GTenantState.cells, zeroE]
set_option maxHeartbeats 4000000 in
theorem gr_7 {C : GConfig} {s : GState} {x : GTenantState} {L : List Int} {j : Nat} {e : GEntry} (h : GrOk 99003 C s x L j e) {r : CRes} (hr : r = ⟨vEntry (g7 C s x L j e).1, [tapeO L (g7 C s x L j e).2]⟩) : SemWp Tryd.prog Tryd.f47.ntmps 1 (restC Tryd.f47 [1,1,1,1]) (Ret T Tryd.f47.results.toList r 1) (grSt C s x L j e) := by
  refine sem_at (C := CMG) types_ok CMG_ok follows Tryd.f47 [1,1,1,1] [1,1] (by simp only [bodyC, Tryd.f47, Option.getD_some, subC, one_ne_zero', if_false]; rfl) (by kernel_rfl) ?_
  have N1 := yesSp_eq (L := L) (j := j) (n := 4) h.l (by have := h.j; omega) (by decide) (by decide)
  simp only [tapeO] at N1
  have hj := h.j
  have hp := h.x.epoch
  have w1 : IntKind.i64.wrap (x.Epoch + 1) = x.Epoch + 1 := wrap_i64_in (by omega) (by omega)
  simp only [g7] at hr
  by_cases hz : e.Cell = x.Home
  · by_cases hy : x.Epoch = 0
    · rw [if_pos (.inr hy)] at hr
      have key := gr_10 (e := { e with Epoch := x.Epoch + 1 }) (j := j) (h := { h with j := by omega }) hr
      simp [grSt, tapeO, cfgO, stO, entO, GConfig.cells, GState.cells, GEntry.cells, GTenantState.cells, zeroE, hz, hy]
      refine SemWp.weak ?_ key
      refine weak_at [.inl 0, .inr 5, .inr 6, .inr 7, .inr 8, .inr 9] ?_ ?_ ?_ ?_ <;> simp [tapeO, cfgO, stO, entO, GConfig.cells, GState.cells, GEntry.cells, GTenantState.cells, zeroE, hz, hy]
    rw [if_neg (fun q => q.elim (fun q => q hz) hy)] at hr
    by_cases hd : dr L j 4 = 0
    · rw [if_pos hd] at hr
      have key := gr_10 (e := { e with Epoch := x.Epoch + 1 }) (j := j + 1) (h := { h with j := by omega }) hr
      simp [grSt, tapeO, cfgO, stO, entO, GConfig.cells, GState.cells, GEntry.cells, GTenantState.cells, zeroE, N1, w1, hz, hy, hd]
      refine SemWp.weak ?_ key
      refine weak_at [.inl 0, .inr 5, .inr 6, .inr 7, .inr 8, .inr 9] ?_ ?_ ?_ ?_ <;> simp [tapeO, cfgO, stO, entO, GConfig.cells, GState.cells, GEntry.cells, GTenantState.cells, zeroE, hz]
    · rw [if_neg hd] at hr
      have key := gr_10 (e := { e with Epoch := x.Epoch }) (j := j + 1) (h := { h with j := by omega }) hr
      simp [grSt, tapeO, cfgO, stO, entO, GConfig.cells, GState.cells, GEntry.cells, GTenantState.cells, zeroE, N1, hz, hy, hd]
      refine SemWp.weak ?_ key
      refine weak_at [.inl 0, .inr 5, .inr 6, .inr 7, .inr 8, .inr 9] ?_ ?_ ?_ ?_ <;> simp [tapeO, cfgO, stO, entO, GConfig.cells, GState.cells, GEntry.cells, GTenantState.cells, zeroE, hz]
  · rw [if_pos (.inl hz)] at hr
    have key := gr_10 (e := { e with Epoch := x.Epoch + 1 }) (j := j) (h := { h with j := by omega }) hr
    simp [grSt, tapeO, cfgO, stO, entO, GConfig.cells, GState.cells, GEntry.cells, GTenantState.cells, zeroE, w1, hz]
    refine SemWp.weak ?_ key
    refine weak_at [.inl 0, .inr 5, .inr 6, .inr 7, .inr 8, .inr 9] ?_ ?_ ?_ ?_ <;> simp [tapeO, cfgO, stO, entO, GConfig.cells, GState.cells, GEntry.cells, GTenantState.cells, zeroE]
noncomputable def grantMSp := fam (fun i : (List Int) × Nat × GConfig × GState × GEntry => [V.ptr 0 0 0, vConfig i.2.2.1, vState i.2.2.2.1, vEntry i.2.2.2.2]) (fun i : (List Int) × Nat × GConfig × GState × GEntry => [tapeO i.1 i.2.1]) (fun i : (List Int) × Nat × GConfig × GState × GEntry => (i.1.length ≤ 200) ∧ (i.2.1 ≤ 99000) ∧ (CfgOk i.2.2.1) ∧ (StOk i.2.2.1 i.2.2.2.1) ∧ (0 ≤ i.2.2.2.2.Tenant ∧ i.2.2.2.2.Tenant < i.2.2.2.1.Tenants.length) ∧ (0 ≤ (tenSt i.2.2.2.1 i.2.2.2.2.Tenant).Home) ∧ (0 ≤ i.2.2.2.2.Tick ∧ i.2.2.2.2.Tick ≤ 2147483648) ∧ (-4 ≤ i.2.2.2.2.From ∧ i.2.2.2.2.From ≤ 4294967296)) (fun i : (List Int) × Nat × GConfig × GState × GEntry => ⟨vEntry (grantM i.2.2.1 i.2.2.2.1 i.2.2.2.2 i.1 i.2.1).1, [tapeO i.1 (grantM i.2.2.1 i.2.2.2.1 i.2.2.2.2 i.1 i.2.1).2]⟩)
@[simp] theorem grantMSp_eq {L : List Int} {j : Nat} {C : GConfig} {s : GState} {e : GEntry} (h1 : L.length ≤ 200) (h2 : j ≤ 99000) (h3 : CfgOk C) (h4 : StOk C s) (h5 : 0 ≤ e.Tenant ∧ e.Tenant < s.Tenants.length) (h6 : 0 ≤ (tenSt s e.Tenant).Home) (h7 : 0 ≤ e.Tick ∧ e.Tick ≤ 2147483648) (h8 : -4 ≤ e.From ∧ e.From ≤ 4294967296) : grantMSp ([V.ptr 0 0 0, vConfig C, vState s, vEntry e]) ([tapeO L j]) = some (⟨vEntry (grantM C s e L j).1, [tapeO L (grantM C s e L j).2]⟩) :=
  fam_eq (A := fun i : (List Int) × Nat × GConfig × GState × GEntry => [V.ptr 0 0 0, vConfig i.2.2.1, vState i.2.2.2.1, vEntry i.2.2.2.2]) (O := fun i : (List Int) × Nat × GConfig × GState × GEntry => [tapeO i.1 i.2.1]) (res := fun i : (List Int) × Nat × GConfig × GState × GEntry => ⟨vEntry (grantM i.2.2.1 i.2.2.2.1 i.2.2.2.2 i.1 i.2.1).1, [tapeO i.1 (grantM i.2.2.1 i.2.2.2.1 i.2.2.2.2 i.1 i.2.1).2]⟩) (grantM_inj) (L, j, C, s, e) ⟨h1, h2, h3, h4, h5, h6, h7, h8⟩

set_option maxHeartbeats 4000000 in
theorem grantM_spec : Lift.Spec Tryd.prog 47 grantMSp := by
  refine spec_famS Tryd.func47 (by kernel_rfl) rfl ?_ types_ok
  rintro ⟨L, j, C, s, e⟩ ⟨h1, hj, c, hs, htn, hho, htk, hfr⟩
  try simp only at h1 hj c hs htn hho htk hfr
  refine ⟨Nat.le_of_ble_eq_true (by kernel_rfl), ?_⟩
  intro r hr
  refine sem_at (C := CMG) types_ok CMG_ok follows Tryd.f47 [] [1,1,1,1] (by simp only [bodyC, Tryd.f47, Option.getD_some, subC]; rfl) (by kernel_rfl) ?_
  have N1 := yesSp_eq (L := L) (j := j) (n := 2) h1 (by omega) (by decide) (by decide)
  have N2 := yesSp_eq (L := L) (j := j) (n := 5) h1 (by omega) (by decide) (by decide)
  have N3 := yesSp_eq (L := L) (j := j + 1) (n := 5) h1 (by omega) (by decide) (by decide)
  simp only [tapeO] at N1 N2 N3
  obtain ⟨kd, tk, tn, ce, ot, ep, fr, un, n⟩ := e
  simp only at htn hho htk hfr
  obtain ⟨k, rfl⟩ := Int.eq_ofNat_of_zero_le htn.1
  have hkl : k < s.Tenants.length := by omega
  obtain ⟨x, hx, hx', hmem⟩ := get_of_lt hkl
  have htk' : tenSt s k = x := by simp [tenSt, hx]
  have hX := hs.ten x hmem
  have hNN := hs.N
  have hho1 := hX.home
  have hst1 := hX.stand
  have htg1 := hX.target
  simp only [grantM, g5, htk'] at hr hho
  have G : ∀ (j' : Nat) (c' : Int), j' ≤ 99003 → 0 ≤ c' ∧ c' < s.Cells.length → GrOk 99003 C s x L j' ⟨kd, tk, k, c', ot, ep, fr, un, n⟩ := fun j' c' hj' hc' => ⟨h1, hj', c, hs, hX, hc', htk, hfr⟩
  by_cases hT : x.Target < 0
  · rw [if_pos hT] at hr
    have hT' : ¬ 0 ≤ x.Target := by omega
    by_cases hS : x.Standby < 0
    · have hS' : ¬ 0 ≤ x.Standby := by omega
      rw [if_pos hS] at hr
      have key := gr_7 (h := G (j) x.Home (by omega) (by omega)) hr
      simp [tapeO, GConfig.cells, GState.cells, GEntry.cells, GTenantState.cells, hkl, hx', hT', hS']
      refine SemWp.weak ?_ key
      refine weak_at [.inl 0, .inr 5, .inr 6, .inr 7, .inr 8, .inr 9] ?_ ?_ ?_ ?_ <;> simp [tapeO, cfgO, stO, entO, GConfig.cells, GState.cells, GEntry.cells, GTenantState.cells, zeroE]
    rw [if_neg hS] at hr
    have hS' : 0 ≤ x.Standby := by omega
    by_cases hd : dr L (j) 5 = 0
    ·
      rw [if_pos (.inl hd)] at hr
      have key := gr_7 (h := G (j + 1) x.Standby (by omega) (by omega)) hr
      simp [tapeO, GConfig.cells, GState.cells, GEntry.cells, GTenantState.cells, hkl, hx', N2, hT', hS', hd]
      refine SemWp.weak ?_ key
      refine weak_at [.inl 0, .inr 5, .inr 6, .inr 7, .inr 8, .inr 9] ?_ ?_ ?_ ?_ <;> simp [tapeO, cfgO, stO, entO, GConfig.cells, GState.cells, GEntry.cells, GTenantState.cells, zeroE]
    cases hsd : x.Shed
    ·
      rw [if_neg (fun q => q.elim hd (by simp [hsd]))] at hr
      have key := gr_7 (h := G (j + 1) x.Home (by omega) (by omega)) hr
      simp [tapeO, GConfig.cells, GState.cells, GEntry.cells, GTenantState.cells, hkl, hx', N2, hT', hS', hd, hsd]
      refine SemWp.weak ?_ key
      refine weak_at [.inl 0, .inr 5, .inr 6, .inr 7, .inr 8, .inr 9] ?_ ?_ ?_ ?_ <;> simp [tapeO, cfgO, stO, entO, GConfig.cells, GState.cells, GEntry.cells, GTenantState.cells, zeroE, hsd]
    ·
      rw [if_pos (.inr hsd)] at hr
      have key := gr_7 (h := G (j + 1) x.Standby (by omega) (by omega)) hr
      simp [tapeO, GConfig.cells, GState.cells, GEntry.cells, GTenantState.cells, hkl, hx', N2, hT', hS', hd, hsd]
      refine SemWp.weak ?_ key
      refine weak_at [.inl 0, .inr 5, .inr 6, .inr 7, .inr 8, .inr 9] ?_ ?_ ?_ ?_ <;> simp [tapeO, cfgO, stO, entO, GConfig.cells, GState.cells, GEntry.cells, GTenantState.cells, zeroE, hsd]
  rw [if_neg hT] at hr
  have hT' : 0 ≤ x.Target := by omega
  by_cases h2 : dr L j 2 = 0
  · rw [if_pos h2] at hr
    have key := gr_7 (h := G (j + 1) x.Target (by omega) (by omega)) hr
    simp [tapeO, GConfig.cells, GState.cells, GEntry.cells, GTenantState.cells, hkl, hx', N1, hT', h2]
    refine SemWp.weak ?_ key
    refine weak_at [.inl 0, .inr 5, .inr 6, .inr 7, .inr 8, .inr 9] ?_ ?_ ?_ ?_ <;> simp [tapeO, cfgO, stO, entO, GConfig.cells, GState.cells, GEntry.cells, GTenantState.cells, zeroE]
  · rw [if_neg h2] at hr
    by_cases hS : x.Standby < 0
    · have hS' : ¬ 0 ≤ x.Standby := by omega
      rw [if_pos hS] at hr
      have key := gr_7 (h := G (j + 1) x.Home (by omega) (by omega)) hr
      simp [tapeO, GConfig.cells, GState.cells, GEntry.cells, GTenantState.cells, hkl, hx', N1, hT', h2, hS']
      refine SemWp.weak ?_ key
      refine weak_at [.inl 0, .inr 5, .inr 6, .inr 7, .inr 8, .inr 9] ?_ ?_ ?_ ?_ <;> simp [tapeO, cfgO, stO, entO, GConfig.cells, GState.cells, GEntry.cells, GTenantState.cells, zeroE]
    rw [if_neg hS] at hr
    have hS' : 0 ≤ x.Standby := by omega
    by_cases hd : dr L (j + 1) 5 = 0
    ·
      rw [if_pos (.inl hd)] at hr
      have key := gr_7 (h := G (j + 1 + 1) x.Standby (by omega) (by omega)) hr
      simp [tapeO, GConfig.cells, GState.cells, GEntry.cells, GTenantState.cells, hkl, hx', N1, N3, hT', h2, hS', hd]
      refine SemWp.weak ?_ key
      refine weak_at [.inl 0, .inr 5, .inr 6, .inr 7, .inr 8, .inr 9] ?_ ?_ ?_ ?_ <;> simp [tapeO, cfgO, stO, entO, GConfig.cells, GState.cells, GEntry.cells, GTenantState.cells, zeroE]
    cases hsd : x.Shed
    ·
      rw [if_neg (fun q => q.elim hd (by simp [hsd]))] at hr
      have key := gr_7 (h := G (j + 1 + 1) x.Home (by omega) (by omega)) hr
      simp [tapeO, GConfig.cells, GState.cells, GEntry.cells, GTenantState.cells, hkl, hx', N1, N3, hT', h2, hS', hd, hsd]
      refine SemWp.weak ?_ key
      refine weak_at [.inl 0, .inr 5, .inr 6, .inr 7, .inr 8, .inr 9] ?_ ?_ ?_ ?_ <;> simp [tapeO, cfgO, stO, entO, GConfig.cells, GState.cells, GEntry.cells, GTenantState.cells, zeroE, hsd]
    ·
      rw [if_pos (.inr hsd)] at hr
      have key := gr_7 (h := G (j + 1 + 1) x.Standby (by omega) (by omega)) hr
      simp [tapeO, GConfig.cells, GState.cells, GEntry.cells, GTenantState.cells, hkl, hx', N1, N3, hT', h2, hS', hd, hsd]
      refine SemWp.weak ?_ key
      refine weak_at [.inl 0, .inr 5, .inr 6, .inr 7, .inr 8, .inr 9] ?_ ?_ ?_ ?_ <;> simp [tapeO, cfgO, stO, entO, GConfig.cells, GState.cells, GEntry.cells, GTenantState.cells, zeroE, hsd]
end Go.Proofs.YtegjhmhhbmnljaaDoor
