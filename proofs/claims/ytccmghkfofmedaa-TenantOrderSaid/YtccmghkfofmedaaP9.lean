/-
  topo: laws on all cells.
-/
import Derived.Test.YtccmghkfofmedaaP8
namespace Go.Proofs.Ytccmghkfofmedaa
open Go.Lift

theorem alive_at {C : GConfig} (_h : TopoOk C) {s : Int} {i : Nat} {x : Int} (hx : (aliveL C s)[i]? = some x) : ∃ k : Nat, x = (k : Int) ∧ k < C.Cells.length ∧ hasB s (regionAt C k) = false := by
  obtain ⟨k, rfl, hk, hp⟩ := idxTo_mem (List.mem_of_getElem? hx)
  refine ⟨k, rfl, hk, ?_⟩
  simpa [lostZ, regionAt] using hp
theorem has_shr {s r : Int} (h0 : 0 ≤ r) (h1 : r < 62) : (s.fdiv (2 ^ r.toNat)).tmod 2 = 0 ↔ hasB s r = false := by
  unfold hasB
  rw [tmod_two]
  simp [h0, h1]

def taSt1 (C : GConfig) (s : Int) (i : Nat) : St := mkSt [(1, .int .i64 s), (5, .ptr 0 0 0), (6, .sl 2 1 (intRow (aliveL C s))), (7, .int .i64 (aliveL C s).length), (8, .int .i64 i)] [(0, cfgO C)] 1
def taSt2 (C : GConfig) (s : Int) (i : Nat) : St := mkSt [(1, .int .i64 s), (5, .ptr 0 0 0), (7, .int .i64 ((aliveL C s).length + lsum C s i : Nat)), (9, .int .i64 i)] [(0, cfgO C)] 1

theorem inZone_at {C : GConfig} {z : Int} {i : Nat} {x : Int} (hx : (inZoneL C z)[i]? = some x) : ∃ k : Nat, x = (k : Int) ∧ k < C.Cells.length ∧ zoneAt C k = z := by
  obtain ⟨k, rfl, hk, hp⟩ := idxTo_mem (List.mem_of_getElem? hx)
  exact ⟨k, rfl, hk, by simpa using hp⟩
def zCnt (C : GConfig) (m : Nat) : Nat := cntTo (fun k => zoneAt C k) C.Cells.length m
def rCnt (C : GConfig) (m : Nat) : Nat := cntTo (fun k => regionAt C k) C.Cells.length m
theorem zCnt_succ (C : GConfig) (m : Nat) : zCnt C (m + 1) = zCnt C m + (inZoneL C m).length := rfl
theorem rCnt_succ (C : GConfig) (m : Nat) : rCnt C (m + 1) = rCnt C m + (inRegionL C m).length := rfl
theorem zCnt_all {C : GConfig} (h : TopoOk C) : zCnt C C.Zones.length = C.Cells.length := cntTo_eq fun k hk => by
  obtain ⟨z, hz, hzl⟩ := h.zone hk
  show 0 ≤ zoneAt C k ∧ zoneAt C k < _
  rw [hz]; omega
theorem rCnt_all {C : GConfig} (h : TopoOk C) : rCnt C C.Regions.toNat = C.Cells.length := cntTo_eq fun k hk => by
  have := h.regionC hk
  have := h.R
  show 0 ≤ regionAt C k ∧ regionAt C k < _
  omega
theorem zCnt_le (C : GConfig) (m : Nat) : zCnt C m ≤ C.Cells.length := by unfold zCnt; rw [cntTo_lt]; exact idxTo_len _ _
theorem rCnt_le (C : GConfig) (m : Nat) : rCnt C m ≤ C.Cells.length := by unfold rCnt; rw [cntTo_lt]; exact idxTo_len _ _

def tpSt1 (C : GConfig) (z : Nat) : St := mkSt [(3, .ptr 0 0 0), (4, .int .i64 (zCnt C z)), (5, .int .i64 0), (6, .int .i64 0), (7, .int .i64 z)] [(0, cfgO C)] 1
def tpSt2 (C : GConfig) (z i : Nat) : St := mkSt [(3, .ptr 0 0 0), (4, .int .i64 (zCnt C (z + 1))), (5, .int .i64 0), (6, .int .i64 0), (7, .int .i64 z), (8, .sl 2 1 (intRow (inZoneL C z))), (9, .int .i64 i)] [(0, cfgO C)] 1
def tpSt3 (C : GConfig) (r : Nat) : St := mkSt [(3, .ptr 0 0 0), (4, .int .i64 C.Cells.length), (5, .int .i64 (rCnt C r)), (6, .int .i64 (csum C C.Cells.length r)), (10, .int .i64 r)] [(0, cfgO C)] 1
def tpSt4 (C : GConfig) (i : Nat) : St := mkSt [(3, .ptr 0 0 0), (4, .int .i64 C.Cells.length), (5, .int .i64 C.Cells.length), (6, .int .i64 (ksum C C.Cells.length - ksum C i)), (11, .int .i64 i)] [(0, cfgO C)] 1

end Go.Proofs.Ytccmghkfofmedaa
