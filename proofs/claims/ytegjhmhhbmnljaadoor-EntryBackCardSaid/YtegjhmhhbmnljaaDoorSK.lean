/-
  make: the numbers of a made entry fit.
-/
import Derived.Test.YtegjhmhhbmnljaaDoorSI
namespace Go.Proofs.YtegjhmhhbmnljaaDoor
open Go.Lift

structure Bd (e : GEntry) : Prop where
  k : -8589934592 ≤ e.Kind ∧ e.Kind ≤ 8589934592
  t : -8589934592 ≤ e.Tick ∧ e.Tick ≤ 8589934592
  te : -8589934592 ≤ e.Tenant ∧ e.Tenant ≤ 8589934592
  c : -8589934592 ≤ e.Cell ∧ e.Cell ≤ 8589934592
  o : -8589934592 ≤ e.Other ∧ e.Other ≤ 8589934592
  ep : -8589934592 ≤ e.Epoch ∧ e.Epoch ≤ 8589934592
  f : -8589934592 ≤ e.From ∧ e.From ≤ 8589934592
  u : -8589934592 ≤ e.Until ∧ e.Until ≤ 8589934592
  n : -8589934592 ≤ e.N ∧ e.N ≤ 8589934592
theorem Bd.ok {e : GEntry} (h : Bd e) : GEntry.ok e := by
  obtain ⟨h1, h2, h3, h4, h5, h6, h7, h8, h9⟩ := h
  refine ⟨?_, ?_, ?_, ?_, ?_, ?_, ?_, ?_, ?_⟩ <;> exact ⟨by omega, by omega⟩
theorem none_bd {k t : Int} (hk : 0 ≤ k ∧ k ≤ 20) (ht : 0 ≤ t ∧ t ≤ 2147483648) : Bd (noneE k t) := by
  constructor <;> simp only [noneE] <;> omega
section
variable {C : GConfig} {s : GState} {x : GTenantState} {e : GEntry} {t i : Int} {L : List Int} {j b : Nat}
theorem cell_run (hs : StOk C s) (hv : C.Versions.length ≤ 30) (hi : 0 ≤ i ∧ i < s.Cells.length) : (0 ≤ (cellSt s i).Running ∧ (cellSt s i).Running ≤ 30) ∧ 0 ≤ (cellSt s i).Wanted ∧ (cellSt s i).Wanted ≤ 30 := by
  obtain ⟨k, rfl⟩ := Int.eq_ofNat_of_zero_le hi.1
  obtain ⟨y, hy, _, hm⟩ := get_of_lt (l := s.Cells) (k := k) (by omega)
  have hc : cellSt s k = y := by simp [cellSt, hy]
  have h := hs.cel y hm
  have h1 := h.runs
  have h2 := h.want
  rw [hc]
  omega
theorem plat_bd (c : CfgOk C) (hs : StOk C s) (ht : 0 ≤ t ∧ t ≤ 2147483648) : Bd (platM C s t L j).1 := by
  have hN := hs.N
  have hcN := c.topo.N
  have hcV := c.topo.V
  have hcR := c.topo.R
  have hcL := c.topo.lease
  have hcB := c.topo.bake
  have a0 := dr_nonneg L j (show (0 : Int) < C.Cells.length by omega)
  have a1 := dr_lt L j (show (0 : Int) < C.Cells.length by omega)
  have b0 := dr_nonneg L (j + 2) (show (0 : Int) < 3 by omega)
  have b1 := dr_lt L (j + 2) (show (0 : Int) < 3 by omega)
  have c0 := dr_nonneg L (j + 2) (show (0 : Int) < C.Versions.length by omega)
  have c1 := dr_lt L (j + 2) (show (0 : Int) < C.Versions.length by omega)
  have d0 := dr_nonneg L (j + 2) (show (0 : Int) < C.Lease by omega)
  have d1 := dr_lt L (j + 2) (show (0 : Int) < C.Lease by omega)
  have e0 := dr_nonneg L (j + 2) (show (0 : Int) < C.Bake + 1 by omega)
  have e1 := dr_lt L (j + 2) (show (0 : Int) < C.Bake + 1 by omega)
  have f0 := dr_nonneg L (j + 2) (show (0 : Int) < C.Regions by omega)
  have f1 := dr_lt L (j + 2) (show (0 : Int) < C.Regions by omega)
  have g0 := dr_nonneg L (j + 2) (show (0 : Int) < 100 by omega)
  have g1 := dr_lt L (j + 2) (show (0 : Int) < 100 by omega)
  have hr := cell_run hs hcV.2 (i := dr L j C.Cells.length) (by omega)
  simp only [platM]
  repeat' split
  all_goals constructor <;> simp only [noneE] <;> (try split) <;> omega
theorem g15_bd (h : GrOk b C s x L j e) (he : Bd e) : Bd (g15 C s L j e).1 := by
  have hl := h.c.topo.lease
  have a0 := dr_nonneg L j (show (0 : Int) < C.Lease by omega)
  have a1 := dr_lt L j (show (0 : Int) < C.Lease by omega)
  have b0 := dr_nonneg L (j + 2) (show (0 : Int) < 30 by decide)
  have b1 := dr_lt L (j + 2) (show (0 : Int) < 30 by decide)
  have hf := h.from_
  have hr := cell_run h.st h.c.topo.V.2 h.cell
  simp only [g15]
  split
  · exact { he with f := by simp only; split <;> omega, u := by simp only; omega, n := by simp only; omega }
  · exact { he with u := by simp only; omega, n := by simp only; omega }
theorem g12_bd (h : GrOk b C s x L j e) (he : Bd e) : Bd (g12 C s x L j e).1 := by
  have hx := h.x.until_
  have ht := h.tick
  have hm := mx_in (n := 2147483648) ht (by omega : 0 ≤ x.Window.Until ∧ x.Window.Until ≤ 2147483648)
  have b0 := dr_nonneg L (j + 1) (show (0 : Int) < 3 by decide)
  have b1 := dr_lt L (j + 1) (show (0 : Int) < 3 by decide)
  have hj := h.j
  simp only [g12]
  split
  · exact g15_bd (b := b + 2) (x := x) { h with j := by omega, from_ := by simp only; omega } { he with f := by simp only; omega }
  · exact g15_bd (b := b + 2) (x := x) { h with j := by omega, from_ := by simp only; omega } { he with f := by simp only; omega }
theorem g10_bd (h : GrOk b C s x L j e) (he : Bd e) : Bd (g10 C s x L j e).1 := by
  have hx := h.x.until_
  have ht := h.tick
  have hm := mx_in (n := 2147483648) ht (by omega : 0 ≤ x.Window.Until ∧ x.Window.Until ≤ 2147483648)
  have hj := h.j
  simp only [g10]
  repeat' split
  · exact g12_bd h he
  · exact g12_bd (b := b + 2) { h with j := by omega, tick := hm } { he with t := by simp only; omega }
  · exact g12_bd (b := b + 2) { h with j := by omega } he
theorem g7_bd (h : GrOk b C s x L j e) (he : Bd e) : Bd (g7 C s x L j e).1 := by
  have hp := h.x.epoch
  have hj := h.j
  simp only [g7]
  repeat' split
  · exact g10_bd { h with } { he with ep := by simp only; omega }
  · exact g10_bd (b := b + 2) { h with j := by omega } { he with ep := by simp only; omega }
  · exact g10_bd (b := b + 2) { h with j := by omega } { he with ep := by simp only; omega }
theorem grant_bd (l : L.length ≤ 200) (c : CfgOk C) (hs : StOk C s) (hX : TenOk C (tenSt s e.Tenant)) (hh : 0 ≤ (tenSt s e.Tenant).Home) (htk : 0 ≤ e.Tick ∧ e.Tick ≤ 2147483648) (hfr : -4 ≤ e.From ∧ e.From ≤ 4294967296) (he : Bd e) : Bd (grantM C s e L j).1 := by
  have hN := hs.N
  have hcN := c.topo.N
  have h1 := hX.home
  have h2 := hX.stand
  have h3 := hX.target
  have G : ∀ (j' : Nat) (c' : Int), 0 ≤ c' ∧ c' < s.Cells.length → Bd (g7 C s (tenSt s e.Tenant) L j' { e with Cell := c' }).1 := fun j' c' hc' =>
    g7_bd (b := j') ⟨l, Nat.le_refl _, c, hs, hX, hc', htk, hfr⟩ { he with c := by simp only; omega }
  simp only [grantM, g5]
  repeat' split
  all_goals first | exact G _ _ (by omega) | skip
theorem pick_bd {xs : List Int} {n : Int} (hn : 0 ≤ n) (h : ∀ y ∈ xs, 0 ≤ y ∧ y ≤ n) : -1 ≤ (pickM L j xs).1 ∧ (pickM L j xs).1 ≤ n := by
  unfold pickM
  split
  · exact ⟨by simp only; omega, by simp only; omega⟩
  · simp only
    rw [List.getD_eq_getElem?_getD]
    cases hx : xs[(dr L j xs.length).toNat]? with
    | none => simp only [Option.getD_none]; omega
    | some y => have := h y (List.mem_of_getElem? hx); simp only [Option.getD_some]; omega
theorem homes_bd (h : TopoOk C) (k : Int) : ∀ y ∈ homesL C k, 0 ≤ y ∧ y ≤ 16 := fun y hy => by
  obtain ⟨m, rfl, hm, _⟩ := idxTo_mem hy
  have := h.N
  omega
theorem standbys_bd (h : TopoOk C) (k a : Int) : ∀ y ∈ standbysL C k a, 0 ≤ y ∧ y ≤ 16 := fun y hy => by
  obtain ⟨m, rfl, hm, _⟩ := idxTo_mem hy
  have := h.N
  omega
theorem eT_bd (l : L.length ≤ 200) (c : CfgOk C) (hs : StOk C s) (ht : 0 ≤ t ∧ t ≤ 2147483648) : Bd (eT C s L j t).1 := by
  have hT := hs.T
  have hcT := c.topo.T
  have hcN := c.topo.N
  simp only [eT]
  split
  · exact plat_bd c hs ht
  split
  · exact plat_bd c hs ht
  rename_i hn _
  have hn0 : C.Tenants.length ≠ 0 := by simpa using hn
  have d0 := dr_nonneg L (j + 1) (show (0 : Int) < C.Tenants.length by omega)
  have d1 := dr_lt L (j + 1) (show (0 : Int) < C.Tenants.length by omega)
  generalize hk : dr L (j + 1) (C.Tenants.length : Int) = k at *
  clear hk
  obtain ⟨k, rfl⟩ := Int.eq_ofNat_of_zero_le d0
  obtain ⟨x, hx, _, hmem⟩ := get_of_lt (l := s.Tenants) (k := k) (by omega)
  have hc : tenSt s k = x := by simp [tenSt, hx]
  have hX := hs.ten x hmem
  have hH := homes_bd c.topo k
  have q1 := hX.next
  have q2 := hX.epoch
  split
  · simp only [placeE]
    have p1 := pick_bd (L := L) (j := j + 2) (by decide : (0 : Int) ≤ 16) hH
    generalize pickM L (j + 2) (homesL C k) = p at *
    generalize hcc : (if 0 < p.1 then p.1 else 0) = cc at *
    have hcb : 0 ≤ cc ∧ cc ≤ 16 := by rw [← hcc]; split <;> omega
    have p2 := pick_bd (L := L) (j := p.2) (by decide : (0 : Int) ≤ 16) (standbys_bd c.topo k cc)
    exact { none_bd (k := 1) (by decide) ht with te := by simp only; omega, c := by simp only; omega, o := by simp only; omega }
  · rename_i hp
    have hp' : x.Placed = true := by rw [hc] at hp; simpa using hp
    have hho := hX.placed hp'
    have p1 := pick_bd (L := L) (j := j + 2 + 1) (by decide : (0 : Int) ≤ 16) hH
    have p2 := pick_bd (L := L) (j := j + 2 + 1) (by decide : (0 : Int) ≤ 16) (standbys_bd c.topo k x.Home)
    have B : Bd { noneE 2 t with Tenant := k } := { none_bd (k := 2) (by decide) ht with te := by simp only; omega }
    simp only [eSw, hc]
    repeat' split
    all_goals first
      | exact grant_bd l c hs (by show TenOk C (tenSt s k); rw [hc]; exact hX) (by show 0 ≤ (tenSt s k).Home; rw [hc]; exact hho) ht (by show -4 ≤ (0 : Int) ∧ (0 : Int) ≤ 4294967296; decide) B
      | (constructor <;> simp only [noneE] <;> (try split) <;> omega)
theorem entry_bd (l : L.length ≤ 200) (c : CfgOk C) (hs : StOk C s) : Bd (entryM C s L j).1 := by
  have ht := hs.tick
  have d0 := dr_nonneg L j (show (0 : Int) < 4 by decide)
  have d1 := dr_lt L j (show (0 : Int) < 4 by decide)
  simp only [entryM]
  split
  · exact eT_bd l c hs (by split <;> omega)
  · exact eT_bd l c hs (by omega)
end
theorem made_eok {L : List Int} (h : L.length ≤ 200) : GEntry.ok (madeE L) := (entry_bd h (cfg_ok L) (state_ok _ (cfg_ok L) L 10)).ok
end Go.Proofs.YtegjhmhhbmnljaaDoor
