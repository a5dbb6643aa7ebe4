/-
  state: what is kept by entries.
-/
import Derived.Test.YtegjhmhhbmnljaaDoorS9
namespace Go.Proofs.YtegjhmhhbmnljaaDoor
open Go.Lift

theorem fitF_ok {C : GConfig} {s x : GState} (h : fitF C s = (x, 0)) : x = s := by
  rcases fitF_cases h with e | e
  · cases e; rfl
  · cases e
theorem StOk.setT {C : GConfig} {s : GState} (hs : StOk C s) {t : GTenantState} (ht : TenOk C t) (i : Int) : StOk C (setT s i t) := by
  refine ⟨by simpa [Go.Proofs.YtegjhmhhbmnljaaDoor.setT] using hs.T, hs.N, hs.tick, hs.cnt, fun x hx => ?_, hs.cel, hs.sch⟩
  rcases List.mem_or_eq_of_mem_set hx with h | h
  · exact hs.ten x h
  · rw [h]; exact ht
theorem StOk.setC {C : GConfig} {s : GState} (hs : StOk C s) {t : GCellState} (ht : CelOk C t) (i : Int) : StOk C (setC s i t) := by
  refine ⟨hs.T, by simpa [Go.Proofs.YtegjhmhhbmnljaaDoor.setC] using hs.N, hs.tick, hs.cnt, hs.ten, fun x hx => ?_, hs.sch⟩
  rcases List.mem_or_eq_of_mem_set hx with h | h
  · exact hs.cel x h
  · rw [h]; exact ht
theorem StOk.tenAt {C : GConfig} {s : GState} (hs : StOk C s) {i : Int} (h : 0 ≤ i ∧ i < s.Tenants.length) : TenOk C (tenSt s i) := by
  obtain ⟨k, rfl⟩ := Int.eq_ofNat_of_zero_le h.1
  have hk : k < s.Tenants.length := by omega
  obtain ⟨t, ht, _, hm⟩ := get_of_lt hk
  have : tenSt s k = t := by simp [tenSt, ht]
  rw [this]; exact hs.ten t hm
theorem StOk.celAt {C : GConfig} {s : GState} (hs : StOk C s) {i : Int} (h : 0 ≤ i ∧ i < s.Cells.length) : CelOk C (cellSt s i) := by
  obtain ⟨k, rfl⟩ := Int.eq_ofNat_of_zero_le h.1
  have hk : k < s.Cells.length := by omega
  obtain ⟨t, ht, _, hm⟩ := get_of_lt hk
  have : cellSt s k = t := by simp [cellSt, ht]
  rw [this]; exact hs.cel t hm

section
variable {C : GConfig} {s x : GState} {e : GEntry}
theorem placeF_ok (hs : StOk C s) (h : placeF C s e = (x, 0)) (e1 : 0 ≤ e.Tenant ∧ e.Tenant < s.Tenants.length) (e2 : 0 ≤ e.Cell ∧ e.Cell < s.Cells.length) (e3 : -1 ≤ e.Other ∧ e.Other < s.Cells.length) : StOk C x := by
  have ht := hs.tenAt e1
  have hN := hs.N
  unfold placeF at h
  repeat' split at h
  all_goals first | (simp at h; done) | skip
  rw [fitF_ok h]
  refine hs.setT ?_ _
  exact { ht with home := by simp only; omega, stand := by simp only; omega, placed := fun _ => e2.1, shed := fun _ => rfl }
theorem cutF_ok (hs : StOk C s) (h : cutF s e = (x, 0)) (e1 : 0 ≤ e.Tenant ∧ e.Tenant < s.Tenants.length) (e4 : 0 ≤ e.Tick ∧ e.Tick ≤ 1073741824) : StOk C x := by
  have ht := hs.tenAt e1
  have h1 := ht.from_
  have h2 := ht.until_
  unfold cutF at h
  repeat' split at h
  all_goals first | (simp at h; done) | skip
  cases h
  refine hs.setT ?_ _
  refine { ht with from_ := ?_, until_ := ?_ } <;> simp only [cutW] <;> repeat' split
  all_goals omega
theorem standbyF_ok (hs : StOk C s) (h : standbyF C s e = (x, 0)) (e1 : 0 ≤ e.Tenant ∧ e.Tenant < s.Tenants.length) (e2 : -1 ≤ e.Cell ∧ e.Cell < s.Cells.length) : StOk C x := by
  have ht := hs.tenAt e1
  have hN := hs.N
  unfold standbyF at h
  repeat' split at h
  all_goals first | (simp at h; done) | skip
  all_goals
    rw [fitF_ok h]
    refine hs.setT ?_ _
    exact { ht with next := by simp only; omega }
theorem readyF_ok (hs : StOk C s) (h : readyF s e = (x, 0)) (e1 : 0 ≤ e.Tenant ∧ e.Tenant < s.Tenants.length) (e2 : 0 ≤ e.Cell ∧ e.Cell < s.Cells.length) : StOk C x := by
  have ht := hs.tenAt e1
  have hN := hs.N
  unfold readyF at h
  repeat' split at h
  all_goals first | (simp at h; done) | skip
  cases h
  refine hs.setT ?_ _
  exact { ht with stand := by simp only; omega, next := by simp only; omega }
theorem migrateF_ok (hs : StOk C s) (h : migrateF C s e = (x, 0)) (e1 : 0 ≤ e.Tenant ∧ e.Tenant < s.Tenants.length) (e2 : 0 ≤ e.Cell ∧ e.Cell < s.Cells.length) : StOk C x := by
  have ht := hs.tenAt e1
  have hN := hs.N
  unfold migrateF at h
  repeat' split at h
  all_goals first | (simp at h; done) | skip
  rw [fitF_ok h]
  refine hs.setT ?_ _
  exact { ht with target := by simp only; omega }
theorem abandonF_ok (hs : StOk C s) (h : abandonF s e = (x, 0)) (e1 : 0 ≤ e.Tenant ∧ e.Tenant < s.Tenants.length) : StOk C x := by
  have ht := hs.tenAt e1
  have h1 := ht.target
  unfold abandonF at h
  repeat' split at h
  all_goals first | (simp at h; done) | skip
  cases h
  refine hs.setT ?_ _
  exact { ht with target := by simp only; omega }
theorem shedF_ok (hs : StOk C s) (h : shedF C s e = (x, 0)) (e1 : 0 ≤ e.Tenant ∧ e.Tenant < s.Tenants.length) : StOk C x := by
  have ht := hs.tenAt e1
  have h1 := ht.target
  unfold shedF at h
  split at h
  · split at h
    · simp at h
    · rename_i hp
      split at h
      · simp at h
      · cases h
        have hp2 : (tenSt s e.Tenant).Placed = true := by cases hq : (tenSt s e.Tenant).Placed <;> simp_all
        refine hs.setT ?_ _
        exact { ht with target := by simp only; omega, shed := fun _ => hp2 }
  · repeat' split at h
    all_goals first | (simp at h; done) | skip
    rw [fitF_ok h]
    refine hs.setT ?_ _
    exact { ht with shed := fun h => by cases h }
theorem grantF_ok (hs : StOk C s) (h : grantF C s e = (x, 0)) (e1 : 0 ≤ e.Tenant ∧ e.Tenant < s.Tenants.length) (e2 : 0 ≤ e.Cell ∧ e.Cell < s.Cells.length) (h5 : NumOk e) : StOk C x := by
  have ht := hs.tenAt e1
  have hN := hs.N
  have h1 := ht.target
  obtain ⟨n1, n2, n3, n4, n5⟩ := h5
  unfold grantF at h
  split at h
  · simp at h
  · rename_i hp
    have hp2 : (tenSt s e.Tenant).Placed = true := by cases hq : (tenSt s e.Tenant).Placed <;> simp_all
    split at h
    · simp at h
    · split at h
      · rename_i hg
        simp at h
        exact absurd h.2 hg
      · rw [fitF_ok h]
        refine hs.setT ?_ _
        unfold grantT
        repeat' split
        · exact { ht with epoch := n2, from_ := n3, until_ := n4 }
        · exact { ht with epoch := n2, from_ := n3, until_ := n4, home := by simp only; omega, stand := by simp only; omega, next := by simp only; omega, target := by simp only; omega, placed := fun _ => e2.1, shed := fun h => by cases h }
        · exact { ht with epoch := n2, from_ := n3, until_ := n4, home := by simp only; omega, target := by simp only; omega, placed := fun _ => e2.1 }
theorem modeF_ok (hs : StOk C s) (h : modeF s e = (x, 0)) (e2 : 0 ≤ e.Cell ∧ e.Cell < s.Cells.length) (e4 : 0 ≤ e.Tick ∧ e.Tick ≤ 1073741824) (e6 : 1 ≤ e.N ∧ e.N ≤ 3) : StOk C x := by
  have hc := hs.celAt e2
  unfold modeF at h
  repeat' split at h
  all_goals first | (simp at h; done) | skip
  cases h
  refine hs.setC ?_ _
  exact { hc with mode := e6, since := e4 }
theorem wantF_ok (hs : StOk C s) (h : wantF C s e = (x, 0)) (e2 : 0 ≤ e.Cell ∧ e.Cell < s.Cells.length) (e6 : 0 ≤ e.N ∧ e.N < C.Versions.length) : StOk C x := by
  have hc := hs.celAt e2
  unfold wantF at h
  repeat' split at h
  all_goals first | (simp at h; done) | skip
  cases h
  refine hs.setC ?_ _
  exact { hc with want := e6 }
theorem runsF_ok (hs : StOk C s) (h : runsF s e = (x, 0)) (e2 : 0 ≤ e.Cell ∧ e.Cell < s.Cells.length) (e4 : 0 ≤ e.Tick ∧ e.Tick ≤ 1073741824) (e6 : 0 ≤ e.N ∧ e.N < C.Versions.length) : StOk C x := by
  have hc := hs.celAt e2
  unfold runsF at h
  repeat' split at h
  all_goals first | (simp at h; done) | skip
  cases h
  refine hs.setC ?_ _
  exact { hc with runs := e6, since := e4 }
theorem proveF_ok (hs : StOk C s) (h : proveF C s e = (x, 0)) : StOk C x := by
  unfold proveF at h
  repeat' split at h
  all_goals first | (simp at h; done) | skip
  cases h
  exact { hs with }
theorem evacF_ok (hs : StOk C s) (h : evacF s e = (x, 0)) : StOk C x := by
  unfold evacF at h
  repeat' split at h
  all_goals first | (simp at h; done) | skip
  cases h
  exact { hs with }
theorem expandF_ok (hs : StOk C s) (h : expandF C s = (x, 0)) : StOk C x := by
  have h1 := hs.sch
  unfold expandF at h
  repeat' split at h
  all_goals first | (simp at h; done) | skip
  cases h
  exact { hs with sch := by simp only; omega }
theorem contractF_ok (hs : StOk C s) (h : contractF s = (x, 0)) : StOk C x := by
  have h1 := hs.sch
  unfold contractF at h
  repeat' split at h
  all_goals first | (simp at h; done) | skip
  cases h
  exact { hs with sch := by simp only; omega }
end
end Go.Proofs.YtegjhmhhbmnljaaDoor
