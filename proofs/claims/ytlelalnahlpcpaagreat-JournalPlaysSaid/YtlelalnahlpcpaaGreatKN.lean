/-
  journal: the program: a record that is read, and its change.
-/
import Derived.Test.YtlelalnahlpcpaaGreatKM
set_option linter.unusedSimpArgs false
set_option linter.unusedVariables false
namespace Go.Proofs.YtlelalnahlpcpaaGreat
open Go.Lift

def zeroR : GRec := ⟨0, 0, 0, ⟨0, 0, 0, 0, 0, 0, 0, 0, 0⟩⟩
/-- The record that bytes consist of, and whether they consist of one. -/
noncomputable def readR (p : List UInt8) : GRec × Bool :=
  if (takeT p).2.2 ≠ 0 then (zeroR, false) else
  if (takeT p).1 = 1 then
    (if (takeT (p.drop (takeT p).2.1.toNat)).2.2 ≠ 0 then (zeroR, false) else
     if (takeT (p.drop ((takeT p).2.1.toNat + (takeT (p.drop (takeT p).2.1.toNat)).2.1.toNat))).2.2 = 0 ∧ (takeT p).2.1.toNat + ((takeT (p.drop (takeT p).2.1.toNat)).2.1.toNat + (takeT (p.drop ((takeT p).2.1.toNat + (takeT (p.drop (takeT p).2.1.toNat)).2.1.toNat))).2.1.toNat) = p.length then
      ({ zeroR with k := 1, t := (takeT (p.drop (takeT p).2.1.toNat)).1, n := (takeT (p.drop ((takeT p).2.1.toNat + (takeT (p.drop (takeT p).2.1.toNat)).2.1.toNat))).1 }, true) else (zeroR, false))
  else if (takeT p).1 = 2 then
    (if (takeT (p.drop (takeT p).2.1.toNat)).2.2 ≠ 0 then (zeroR, false) else
     if (readE (p.drop ((takeT p).2.1.toNat + (takeT (p.drop (takeT p).2.1.toNat)).2.1.toNat))).2.2 = 0 ∧ (takeT p).2.1.toNat + ((takeT (p.drop (takeT p).2.1.toNat)).2.1.toNat + (readE (p.drop ((takeT p).2.1.toNat + (takeT (p.drop (takeT p).2.1.toNat)).2.1.toNat))).2.1.toNat) = p.length then
      ({ zeroR with k := 2, t := (takeT (p.drop (takeT p).2.1.toNat)).1, e := (readE (p.drop ((takeT p).2.1.toNat + (takeT (p.drop (takeT p).2.1.toNat)).2.1.toNat))).1 }, true) else (zeroR, false))
  else if (takeT p).1 = 3 then
    (if (takeT (p.drop (takeT p).2.1.toNat)).2.2 ≠ 0 then (zeroR, false) else
     if (takeT p).2.1.toNat + (takeT (p.drop (takeT p).2.1.toNat)).2.1.toNat = p.length then ({ zeroR with k := 3, n := (takeT (p.drop (takeT p).2.1.toNat)).1 }, true) else (zeroR, false))
  else if (takeT p).2.1.toNat = p.length then ({ zeroR with k := (takeT p).1 }, true) else (zeroR, false)

noncomputable def CPA := mkC [(90, tkiSp), (91, teSp)]
theorem CPA_ok : SpecsOk Tryz.prog CPA := mkC_ok (all_cons tki_spec (all_cons te_spec all_nil))
@[simp] theorem CPA_1 : CPA 90 = tkiSp := rfl
@[simp] theorem CPA_2 : CPA 91 = teSp := rfl

noncomputable def rdrSp := fam (fun i : Nat × (List UInt8) => [V.sl i.1 1 (byteRow i.2)]) (fun _ : Nat × (List UInt8) => []) (fun i : Nat × (List UInt8) => ((i.2.length : Int) ≤ 140737488355328)) (fun i : Nat × (List UInt8) => ⟨.tup [vRec (readR i.2).1, .bool (readR i.2).2], []⟩)
@[simp] theorem rdrSp_eq {t : Nat} {p : List UInt8} (h1 : (p.length : Int) ≤ 140737488355328) : rdrSp ([V.sl t 1 (byteRow p)]) ([]) = some (⟨.tup [vRec (readR p).1, .bool (readR p).2], []⟩) :=
  fam_eq (A := fun i : Nat × (List UInt8) => [V.sl i.1 1 (byteRow i.2)]) (O := fun _ : Nat × (List UInt8) => []) (res := fun i : Nat × (List UInt8) => ⟨.tup [vRec (readR i.2).1, .bool (readR i.2).2], []⟩) (by rintro ⟨a0, a1⟩ ⟨b0, b1⟩ h h' <;> simp at h h' <;> simp_all) (t, p) h1

set_option maxHeartbeats 8000000 in
theorem rdr_spec : Lift.Spec Tryz.prog 75 rdrSp := by
  refine spec_fam (C := CPA) types_ok CPA_ok follows Tryz.func75 (by kernel_rfl) rfl (by kernel_rfl) rfl ?_
  rintro ⟨t, p⟩ hp
  try simp only at hp
  refine ⟨by simp, ?_⟩
  intro r hr
  rcases takeT_two p with ⟨e, he, hT⟩ | ⟨kind, q, hT, hq1, hq2⟩
  · simp [tkr_err he hT, pt_ren1, GRec.cells]
    have hR : readR p = (zeroR, false) := by simp [readR, hT, he]
    ((repeat refine ⟨⟨by kernel_rfl, by kernel_rfl⟩, ?_⟩); rw [hr]; refine ret_closed rfl ?_ rfl; simp [hR, zeroR, GRec.cells, GEntry.cells])
  have hq3 : (q : Int) ≤ p.length := by omega
  by_cases k1 : kind = 1
  · subst k1
    rcases takeT_two (p.drop q) with ⟨e, he, hT2⟩ | ⟨n, k, hT2, hk1, hk2⟩
    · simp [tkr_one hT, tkr_err he hT2, pt_ren1, pt_ren2, GRec.cells, setF]
      have hR : readR p = (zeroR, false) := by simp [readR, hT, hT2, he]
      ((repeat refine ⟨⟨by kernel_rfl, by kernel_rfl⟩, ?_⟩); rw [hr]; refine ret_closed rfl ?_ rfl; simp [hR, zeroR, GRec.cells, GEntry.cells])
    rw [List.length_drop] at hk2
    rcases takeT_two (p.drop (q + k)) with ⟨e, he, hT3⟩ | ⟨v, m, hT3, hm1, hm2⟩
    · have hT3' : takeT ((p.drop q).drop k) = (0, 0, e) := by rw [List.drop_drop]; exact hT3
      simp [tkr_one hT, tkr_twoe he hT2 hT3', pt_ren1, pt_ren2, GRec.cells, setF]
      have hR : readR p = (zeroR, false) := by simp [readR, hT, hT2, hT3, he]
      ((repeat refine ⟨⟨by kernel_rfl, by kernel_rfl⟩, ?_⟩); rw [hr]; refine ret_closed rfl ?_ rfl; simp [hR, zeroR, GRec.cells, GEntry.cells])
    rw [List.length_drop] at hm2
    have hT3' : takeT ((p.drop q).drop k) = (v, (m : Int), 0) := by rw [List.drop_drop]; exact hT3
    by_cases hl : q + (k + m) = p.length
    · have hl2 : ¬ 0 < p.length - (q + (k + m)) := by omega
      simp [tkr_one hT, tkr_two hT2 hT3', pt_ren1, pt_ren2, GRec.cells, setF, hl2]
      have hR : readR p = ({ zeroR with k := 1, t := n, n := v }, true) := by simp [readR, hT, hT2, hT3, hl]
      ((repeat refine ⟨⟨by kernel_rfl, by kernel_rfl⟩, ?_⟩); rw [hr]; refine ret_closed rfl ?_ rfl; simp [hR, zeroR, GRec.cells, GEntry.cells])
    · have hl2 : 0 < p.length - (q + (k + m)) := by omega
      simp [tkr_one hT, tkr_two hT2 hT3', pt_ren1, pt_ren2, GRec.cells, setF, hl2]
      have hR : readR p = (zeroR, false) := by simp [readR, hT, hT2, hT3, hl]
      ((repeat refine ⟨⟨by kernel_rfl, by kernel_rfl⟩, ?_⟩); rw [hr]; refine ret_closed rfl ?_ rfl; simp [hR, zeroR, GRec.cells, GEntry.cells])
  by_cases k2 : kind = 2
  · subst k2
    rcases takeT_two (p.drop q) with ⟨e, he, hT2⟩ | ⟨n, k, hT2, hk1, hk2⟩
    · simp [tkr_one hT, tkr_err he hT2, pt_ren1, GRec.cells, setF]
      have hR : readR p = (zeroR, false) := by simp [readR, hT, hT2, he]
      ((repeat refine ⟨⟨by kernel_rfl, by kernel_rfl⟩, ?_⟩); rw [hr]; refine ret_closed rfl ?_ rfl; simp [hR, zeroR, GRec.cells, GEntry.cells])
    rw [List.length_drop] at hk2
    have hpl : ((p.length - (q + k) : Nat) : Int) ≤ 140737488355328 := by omega
    rcases hT3 : readE (p.drop (q + k)) with ⟨x, m, g⟩
    by_cases hg : g = 0
    · subst hg
      obtain ⟨g1, g2, g3, _⟩ := readE_back hT3
      rw [List.length_drop] at g3
      obtain ⟨m, rfl⟩ := Int.eq_ofNat_of_zero_le (show 0 ≤ m by omega)
      by_cases hl : q + (k + m) = p.length
      · have hl2 : ¬ 0 < p.length - (q + (k + m)) := by omega
        simp [tkr_one hT, tkr_one hT2, te_ok hT3, pt_ren1, pt_ren2, GRec.cells, setF, hl2, hpl, Nat.add_assoc]
        have hR : readR p = ({ zeroR with k := 2, t := n, e := x }, true) := by simp [readR, hT, hT2, hT3, hl]
        ((repeat refine ⟨⟨by kernel_rfl, by kernel_rfl⟩, ?_⟩); rw [hr]; refine ret_closed rfl ?_ rfl; simp [hR, zeroR, GRec.cells, GEntry.cells])
      · have hl2 : 0 < p.length - (q + (k + m)) := by omega
        simp [tkr_one hT, tkr_one hT2, te_ok hT3, pt_ren1, pt_ren2, GRec.cells, setF, hl2, hpl, Nat.add_assoc]
        have hR : readR p = (zeroR, false) := by simp [readR, hT, hT2, hT3, hl]
        ((repeat refine ⟨⟨by kernel_rfl, by kernel_rfl⟩, ?_⟩); rw [hr]; refine ret_closed rfl ?_ rfl; simp [hR, zeroR, GRec.cells, GEntry.cells])
    · simp [tkr_one hT, tkr_one hT2, te_err hg hT3, pt_ren1, pt_ren2, GRec.cells, setF, hpl]
      have hR : readR p = (zeroR, false) := by simp [readR, hT, hT2, hT3, hg]
      ((repeat refine ⟨⟨by kernel_rfl, by kernel_rfl⟩, ?_⟩); rw [hr]; refine ret_closed rfl ?_ rfl; simp [hR, zeroR, GRec.cells, GEntry.cells])
  by_cases k3 : kind = 3
  · subst k3
    rcases takeT_two (p.drop q) with ⟨e, he, hT2⟩ | ⟨n, k, hT2, hk1, hk2⟩
    · simp [tkr_one hT, tkr_err he hT2, pt_ren1, GRec.cells, setF]
      have hR : readR p = (zeroR, false) := by simp [readR, hT, hT2, he]
      ((repeat refine ⟨⟨by kernel_rfl, by kernel_rfl⟩, ?_⟩); rw [hr]; refine ret_closed rfl ?_ rfl; simp [hR, zeroR, GRec.cells, GEntry.cells])
    rw [List.length_drop] at hk2
    by_cases hl : q + k = p.length
    · have hl2 : ¬ 0 < p.length - (q + k) := by omega
      simp [tkr_one hT, tkr_one hT2, pt_ren1, GRec.cells, setF, hl2]
      have hR : readR p = ({ zeroR with k := 3, n := n }, true) := by simp [readR, hT, hT2, hl]
      ((repeat refine ⟨⟨by kernel_rfl, by kernel_rfl⟩, ?_⟩); rw [hr]; refine ret_closed rfl ?_ rfl; simp [hR, zeroR, GRec.cells, GEntry.cells])
    · have hl2 : 0 < p.length - (q + k) := by omega
      simp [tkr_one hT, tkr_one hT2, pt_ren1, GRec.cells, setF, hl2]
      have hR : readR p = (zeroR, false) := by simp [readR, hT, hT2, hl]
      ((repeat refine ⟨⟨by kernel_rfl, by kernel_rfl⟩, ?_⟩); rw [hr]; refine ret_closed rfl ?_ rfl; simp [hR, zeroR, GRec.cells, GEntry.cells])
  · by_cases hl : q = p.length
    · have hl2 : ¬ 0 < p.length - q := by omega
      simp [tkr_one hT, pt_ren1, GRec.cells, setF, k1, k2, k3, hl2]
      have hR : readR p = ({ zeroR with k := kind }, true) := by simp [readR, hT, k1, k2, k3, hl]
      ((repeat refine ⟨⟨by kernel_rfl, by kernel_rfl⟩, ?_⟩); rw [hr]; refine ret_closed rfl ?_ rfl; simp [hR, zeroR, GRec.cells, GEntry.cells])
    · have hl2 : 0 < p.length - q := by omega
      simp [tkr_one hT, pt_ren1, GRec.cells, setF, k1, k2, k3, hl2]
      have hR : readR p = (zeroR, false) := by simp [readR, hT, k1, k2, k3, hl]
      ((repeat refine ⟨⟨by kernel_rfl, by kernel_rfl⟩, ?_⟩); rw [hr]; refine ret_closed rfl ?_ rfl; simp [hR, zeroR, GRec.cells, GEntry.cells])
end Go.Proofs.YtlelalnahlpcpaaGreat
