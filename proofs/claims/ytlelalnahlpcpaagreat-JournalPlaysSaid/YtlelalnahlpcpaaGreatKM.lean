/-
  journal: the program: records that are read.
-/
import Derived.Test.YtlelalnahlpcpaaGreatKL
set_option linter.unusedSimpArgs false
set_option linter.unusedVariables false
namespace Go.Proofs.YtlelalnahlpcpaaGreat
open Go.Lift

/-- Addresses of fields of the second object. -/
def ptO (offs : List Nat) : AObj := ⟨113, 1, offs.map (fun o => [V.ptr 1 0 o]), true, 0, .rw⟩
@[simp] theorem pt_elems (l : List Nat) : (ptO l).elems = l.map (fun o => [V.ptr 1 0 o]) := rfl
@[simp] theorem pt_et (l : List Nat) : (ptO l).et = 113 := rfl
@[simp] theorem pt_es (l : List Nat) : (ptO l).es = 1 := rfl
@[simp] theorem pt_tight (l : List Nat) : (ptO l).tight = true := rfl
@[simp] theorem pt_md (l : List Nat) : (ptO l).md = .rw := rfl
@[simp] theorem pt_fl (l : List Nat) : (ptO l).fl = 0 := rfl
theorem ptO_inj {l m : List Nat} (h : ptO l = ptO m) : l = m := by
  simp only [ptO, AObj.mk.injEq, true_and, and_true] at h
  induction l generalizing m with
  | nil => cases m with
    | nil => rfl
    | cons a m => simp at h
  | cons a l ih => cases m with
    | nil => simp at h
    | cons b m =>
      simp only [List.map_cons, List.cons.injEq, V.ptr.injEq, and_true, true_and] at h
      rw [h.1, ih h.2]
@[simp] theorem ptO_eq {l m : List Nat} : ptO l = ptO m ↔ l = m := ⟨ptO_inj, fun h => by rw [h]⟩
theorem ptO_ren (l : List Nat) {f : Nat → Nat} (h : f 1 = 1) : (ptO l).ren f = ptO l := by
  unfold AObj.ren
  rw [if_pos (pt_fl l)]
  simp [ptO, V.ren.renAll, V.ren, h]
theorem ptO_within (l : List Nat) {D : Nat → Bool} (h : D 1 = true) : (ptO l).within D = true := by
  simp [ptO, h]

theorem pt_comp (f : Nat → Nat) : (V.ren.renAll f ∘ fun o : Nat => [V.ptr 1 0 o]) = fun o => [V.ptr (f 1) 0 o] := rfl
attribute [simp] pt_comp
theorem pt_fz (g : Nat → Option AObj) (F : List Nat) : ((fun x : List V => List.map (fzV g F) x) ∘ fun o : Nat => [V.ptr 1 0 o]) = fun o => [V.ptr 1 0 o] := rfl
attribute [simp] pt_fz
theorem closed_pt {l : List Nat} (h : l ≠ []) : closedRows (l.map fun o => [V.ptr 1 0 o]) = false := by
  cases l with
  | nil => exact absurd rfl h
  | cons a l => rfl
theorem two_lt {n : Nat} (h : n < 2) : n = 0 ∨ n = 1 := by omega
def setF (o : Nat) (v : Int) (r : GRec) : GRec := if o = 0 then { r with k := v } else if o = 1 then { r with t := v } else { r with n := v }
noncomputable def tkiGo : List Nat → List UInt8 → GRec → Bool × List UInt8 × GRec
  | [], b, r => (true, b, r)
  | o :: os, b, r => if (takeT b).2.2 = 0 then tkiGo os (b.drop (takeT b).2.1.toNat) (setF o (takeT b).1 r) else (false, [], r)
noncomputable def tkiRes (t : Nat) (offs : List Nat) (b : List UInt8) (r : GRec) : CRes :=
  ⟨.tup [if (tkiGo offs b r).1 = true then .sl t 1 (byteRow (tkiGo offs b r).2.1) else .sl 0 1 [], .bool (tkiGo offs b r).1], [ptO offs, rcO (tkiGo offs b r).2.2]⟩
theorem cutTag_true (t : Nat) : cutTag t true = t := by unfold cutTag; split <;> simp_all
attribute [simp] cutTag_true
def OffOk (l : List Nat) : Prop := ∀ o ∈ l, o ≤ 2
noncomputable def tkiSp := fam (fun i : Nat × (List Nat) × (List UInt8) × GRec => [V.sl i.1 1 (byteRow i.2.2.1), .own 0 0 i.2.1.length]) (fun i : Nat × (List Nat) × (List UInt8) × GRec => [ptO i.2.1, rcO i.2.2.2]) (fun i : Nat × (List Nat) × (List UInt8) × GRec => (OffOk i.2.1) ∧ (i.2.1 ≠ []) ∧ (i.2.1.length ≤ 2)) (fun i : Nat × (List Nat) × (List UInt8) × GRec => tkiRes i.1 i.2.1 i.2.2.1 i.2.2.2)
@[simp] theorem tkiSp_eq {t : Nat} {offs : List Nat} {b : List UInt8} {r : GRec} (h1 : OffOk offs) (h2 : offs ≠ []) (h3 : offs.length ≤ 2) : tkiSp ([V.sl t 1 (byteRow b), .own 0 0 offs.length]) ([ptO offs, rcO r]) = some (tkiRes t offs b r) :=
  fam_eq (A := fun i : Nat × (List Nat) × (List UInt8) × GRec => [V.sl i.1 1 (byteRow i.2.2.1), .own 0 0 i.2.1.length]) (O := fun i : Nat × (List Nat) × (List UInt8) × GRec => [ptO i.2.1, rcO i.2.2.2]) (res := fun i : Nat × (List Nat) × (List UInt8) × GRec => tkiRes i.1 i.2.1 i.2.2.1 i.2.2.2) (by rintro ⟨a0, a1, a2, a3⟩ ⟨b0, b1, b2, b3⟩ h h' <;> simp at h h' <;> simp_all) (t, offs, b, r) ⟨h1, h2, h3⟩

noncomputable def CMA := mkC [(87, takeSp)]
theorem CMA_ok : SpecsOk Tryz.prog CMA := mkC_ok (all_cons take_spec all_nil)
@[simp] theorem CMA_1 : CMA 87 = takeSp := rfl

noncomputable def tkiSt (t : Nat) (offs : List Nat) (i : Nat × List UInt8 × GRec) : St := mkSt [(0, .sl t 1 (byteRow i.2.1)), (11, .own 0 0 offs.length), (12, .int .i64 offs.length), (13, .int .i64 i.1)] [(0, ptO offs), (1, rcO i.2.2)] 2
set_option maxHeartbeats 4000000 in
theorem tki_spec : Lift.Spec Tryz.prog 90 tkiSp := by
  refine spec_famO [] (C := CMA) types_ok CMA_ok follows Tryz.func90 (by kernel_rfl) rfl (by kernel_rfl) rfl ?_
  rintro ⟨t, offs, b, x⟩ ⟨h1, hne, h2⟩
  try simp only at h1 hne h2
  refine ⟨by simp, ?_⟩
  intro r hr
  simp
  refine axwp_loop (tkiSt t offs) (fun i => i.1 ≤ offs.length ∧ tkiGo (offs.drop i.1) i.2.1 i.2.2 = tkiGo offs b x) (fun i => offs.length - i.1) (0, b, x) ?_ ⟨Nat.zero_le _, rfl⟩ ?_
  · refine weak_at [.inl 0, .inl 1] ?_ ?_ ?_ ?_ <;> first | (simp; done) | (intro n hn; rcases two_lt hn with rfl | rfl <;> simp) | (simp [namesIn, ptO]; done)
  · rintro ⟨i, c, y⟩ ⟨hi, g1⟩
    simp only at hi g1
    by_cases hik : i < offs.length
    · obtain ⟨o, ho, ho', hom⟩ := get_of_lt hik
      have w4 : IntKind.i64.wrap ((i : Int) + 1) = (i : Int) + 1 := wrap_i64_in (by omega) (by omega)
      have hdrop : offs.drop i = o :: offs.drop (i + 1) := by rw [← ho']; exact (List.drop_eq_getElem_cons hik)
      rw [hdrop, tkiGo] at g1
      have hol := h1 o hom
      rcases takeT_two c with ⟨e, he, hT⟩ | ⟨n, q, hT, hq1, hq2⟩
      · rw [hT, if_neg he] at g1
        simp [tkiSt, hik, ho', hT, he, takeV]
        rw [hr]
        refine retE [] [] [] [] [.inl 0, .inl 1] rfl ?_
        simp [tkiRes, ← g1, namesIn]
        exact ⟨closed_pt hne, fun j hj => by rcases two_lt hj with rfl | rfl <;> simp⟩
      · rw [hT, if_pos rfl] at g1
        simp only [Int.toNat_natCast] at g1
        have : o = 0 ∨ o = 1 ∨ o = 2 := by omega
        rcases this with rfl | rfl | rfl
        · simp [tkiSt, hik, ho', hT, takeV, hq2, GRec.cells]
          refine Again.mk (i + 1, c.drop q, setF 0 n y) ⟨hik, g1⟩ (by simp only; omega) ?_
          refine weak_at [.inl 0, .inl 1] ?_ ?_ ?_ ?_ <;> first | (simp [w4, setF]; done) | (intro n hn; rcases two_lt hn with rfl | rfl <;> simp) | (simp [namesIn, ptO, setF]; done)
        · simp [tkiSt, hik, ho', hT, takeV, hq2, GRec.cells]
          refine Again.mk (i + 1, c.drop q, setF 1 n y) ⟨hik, g1⟩ (by simp only; omega) ?_
          refine weak_at [.inl 0, .inl 1] ?_ ?_ ?_ ?_ <;> first | (simp [w4, setF]; done) | (intro n hn; rcases two_lt hn with rfl | rfl <;> simp) | (simp [namesIn, ptO, setF]; done)
        · simp [tkiSt, hik, ho', hT, takeV, hq2, GRec.cells]
          refine Again.mk (i + 1, c.drop q, setF 2 n y) ⟨hik, g1⟩ (by simp only; omega) ?_
          refine weak_at [.inl 0, .inl 1] ?_ ?_ ?_ ?_ <;> first | (simp [w4, setF]; done) | (intro n hn; rcases two_lt hn with rfl | rfl <;> simp) | (simp [namesIn, ptO, setF]; done)
    · have hi' : i = offs.length := by omega
      subst hi'
      rw [List.drop_length, tkiGo] at g1
      simp [tkiSt]
      rw [hr]
      refine retE [] [] [] [] [.inl 0, .inl 1] rfl ?_
      simp [tkiRes, ← g1, namesIn]
      exact ⟨closed_pt hne, fun j hj => by rcases two_lt hj with rfl | rfl <;> simp⟩

/-! The calls that the program makes. -/
theorem off0 : OffOk [0] := fun o h => by simp at h; omega
theorem off1 : OffOk [1] := fun o h => by simp at h; omega
theorem off2 : OffOk [2] := fun o h => by simp at h; omega
theorem off12 : OffOk [1, 2] := fun o h => by simp at h; omega
@[simp] theorem tki_0 (t : Nat) (b : List UInt8) (r : GRec) : tkiSp [V.sl t 1 (byteRow b), .own 0 0 1] [⟨113, 1, [[V.ptr 1 0 0]], true, 0, .rw⟩, rcO r] = some (tkiRes t [0] b r) := tkiSp_eq (offs := [0]) off0 (by simp) (by simp)
@[simp] theorem tki_1 (t : Nat) (b : List UInt8) (r : GRec) : tkiSp [V.sl t 1 (byteRow b), .own 0 0 1] [⟨113, 1, [[V.ptr 1 0 1]], true, 0, .rw⟩, rcO r] = some (tkiRes t [1] b r) := tkiSp_eq (offs := [1]) off1 (by simp) (by simp)
@[simp] theorem tki_2 (t : Nat) (b : List UInt8) (r : GRec) : tkiSp [V.sl t 1 (byteRow b), .own 0 0 1] [⟨113, 1, [[V.ptr 1 0 2]], true, 0, .rw⟩, rcO r] = some (tkiRes t [2] b r) := tkiSp_eq (offs := [2]) off2 (by simp) (by simp)
@[simp] theorem tki_12 (t : Nat) (b : List UInt8) (r : GRec) : tkiSp [V.sl t 1 (byteRow b), .own 0 0 2] [⟨113, 1, [[V.ptr 1 0 1], [V.ptr 1 0 2]], true, 0, .rw⟩, rcO r] = some (tkiRes t [1, 2] b r) := tkiSp_eq (offs := [1, 2]) off12 (by simp) (by simp)
theorem tkr_err {t o : Nat} {l : List Nat} {b : List UInt8} {r : GRec} {e : Int} (he : ¬ e = 0) (h : takeT b = (0, 0, e)) : tkiRes t (o :: l) b r = ⟨.tup [.sl 0 1 [], .bool false], [ptO (o :: l), rcO r]⟩ := by simp [tkiRes, tkiGo, h, he]
theorem tkr_one {t o : Nat} {b : List UInt8} {r : GRec} {n : Int} {q : Nat} (h : takeT b = (n, (q : Int), 0)) : tkiRes t [o] b r = ⟨.tup [.sl t 1 (byteRow (b.drop q)), .bool true], [ptO [o], rcO (setF o n r)]⟩ := by simp [tkiRes, tkiGo, h]
theorem tkr_two {t o p : Nat} {b : List UInt8} {r : GRec} {n v : Int} {q m : Nat} (h : takeT b = (n, (q : Int), 0)) (h2 : takeT (b.drop q) = (v, (m : Int), 0)) : tkiRes t [o, p] b r = ⟨.tup [.sl t 1 (byteRow (b.drop (q + m))), .bool true], [ptO [o, p], rcO (setF p v (setF o n r))]⟩ := by simp [tkiRes, tkiGo, h, h2]
theorem tkr_twoe {t o p : Nat} {b : List UInt8} {r : GRec} {n : Int} {q : Nat} {e : Int} (he : ¬ e = 0) (h : takeT b = (n, (q : Int), 0)) (h2 : takeT (b.drop q) = (0, 0, e)) : tkiRes t [o, p] b r = ⟨.tup [.sl 0 1 [], .bool false], [ptO [o, p], rcO (setF o n r)]⟩ := by simp [tkiRes, tkiGo, h, h2, he]
theorem pt_ren1 (o : Nat) : ptO [o] = ⟨113, 1, [[V.ptr 1 0 o]], true, 0, .rw⟩ := rfl
theorem pt_ren2 (o p : Nat) : ptO [o, p] = ⟨113, 1, [[V.ptr 1 0 o], [V.ptr 1 0 p]], true, 0, .rw⟩ := rfl

noncomputable def teRes (t : Nat) (b : List UInt8) (r : GRec) : CRes := if (readE b).2.2 = 0 then ⟨.tup [.sl t 1 (byteRow (b.drop (readE b).2.1.toNat)), .bool true], [rcO { r with e := (readE b).1 }]⟩ else ⟨.tup [.sl 0 1 [], .bool false], [rcO r]⟩
theorem te_ok {t : Nat} {b : List UInt8} {r : GRec} {y : GEntry} {k : Nat} (h : readE b = (y, (k : Int), 0)) : teRes t b r = ⟨.tup [.sl t 1 (byteRow (b.drop k)), .bool true], [rcO { r with e := y }]⟩ := by unfold teRes; rw [h, if_pos rfl]; simp
theorem te_err {t : Nat} {b : List UInt8} {r : GRec} {y : GEntry} {m g : Int} (hg : ¬ g = 0) (h : readE b = (y, m, g)) : teRes t b r = ⟨.tup [.sl 0 1 [], .bool false], [rcO r]⟩ := by unfold teRes; rw [h, if_neg hg]
noncomputable def teSp := fam (fun i : Nat × (List UInt8) × GRec => [V.sl i.1 1 (byteRow i.2.1), .ptr 0 0 3]) (fun i : Nat × (List UInt8) × GRec => [rcO i.2.2]) (fun i : Nat × (List UInt8) × GRec => ((i.2.1.length : Int) ≤ 140737488355328)) (fun i : Nat × (List UInt8) × GRec => teRes i.1 i.2.1 i.2.2)
@[simp] theorem teSp_eq {t : Nat} {b : List UInt8} {r : GRec} (h1 : (b.length : Int) ≤ 140737488355328) : teSp ([V.sl t 1 (byteRow b), .ptr 0 0 3]) ([rcO r]) = some (teRes t b r) :=
  fam_eq (A := fun i : Nat × (List UInt8) × GRec => [V.sl i.1 1 (byteRow i.2.1), .ptr 0 0 3]) (O := fun i : Nat × (List UInt8) × GRec => [rcO i.2.2]) (res := fun i : Nat × (List UInt8) × GRec => teRes i.1 i.2.1 i.2.2) (by rintro ⟨a0, a1, a2⟩ ⟨b0, b1, b2⟩ h h' <;> simp at h h' <;> simp_all) (t, b, r) h1

noncomputable def CMB := mkC [(102, readSp)]
theorem CMB_ok : SpecsOk Tryz.prog CMB := mkC_ok (all_cons read_spec all_nil)
@[simp] theorem CMB_1 : CMB 102 = readSp := rfl

set_option maxHeartbeats 4000000 in
theorem te_spec : Lift.Spec Tryz.prog 91 teSp := by
  refine spec_famO [] (C := CMB) types_ok CMB_ok follows Tryz.func91 (by kernel_rfl) rfl (by kernel_rfl) rfl ?_
  rintro ⟨t, b, x⟩ h1
  try simp only at h1
  refine ⟨by simp, ?_⟩
  intro r hr
  rcases hT : readE b with ⟨y, m, g⟩
  by_cases hg : g = 0
  · subst hg
    obtain ⟨g1, g2, g3, _⟩ := readE_back hT
    obtain ⟨k, rfl⟩ := Int.eq_ofNat_of_zero_le (show 0 ≤ m by omega)
    have hk : k ≤ b.length := by omega
    simp only [te_ok hT] at hr
    simp [readV_of hT, h1, hk, GRec.cells, GEntry.cells]
    rw [hr]
    refine retC [] [] [] rfl ?_
    simp
  · simp only [te_err hg hT] at hr
    simp [readV_of hT, h1, hg, GRec.cells, GEntry.cells]
    rw [hr]
    refine retC [] [] [] rfl ?_
    simp
end Go.Proofs.YtlelalnahlpcpaaGreat
