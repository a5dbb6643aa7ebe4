/-
  disk: what the laws say.
-/
import Derived.Test.YtpahppndnpeiaaaK2
import Derived.Test.YtpahppndnpeiaaaP0
set_option linter.unusedSimpArgs false
set_option linter.unusedVariables false
namespace Go.Proofs.Ytpahppndnpeiaaa
open Go.Lift

noncomputable def CK3 := mkC [(8, dnewSp), (18, dkappendSp), (19, dksyncSp), (16, dkbytesSp), (17, dkdurSp), (13, dkcopySp), (20, dkcrashSp), (22, dktruncSp), (9, rnewSp), (24, rappendSp), (25, rsyncSp), (14, rcopySp), (27, rcrashSp), (26, rtruncSp), (15, sameSp), (23, modSp), (21, betweenSp)]
theorem CK3_ok : SpecsOk Try.prog CK3 := mkC_ok (all_cons dnew_spec (all_cons dkappend_spec (all_cons dksync_spec (all_cons dkbytes_spec (all_cons dkdur_spec (all_cons dkcopy_spec (all_cons dkcrash_spec (all_cons dktrunc_spec (all_cons rnew_spec (all_cons rappend_spec (all_cons rsync_spec (all_cons rcopy_spec (all_cons rcrash_spec (all_cons rtrunc_spec (all_cons same_spec (all_cons mod_spec (all_cons between_spec all_nil)))))))))))))))))
@[simp] theorem CK3_1 : CK3 8 = dnewSp := rfl
@[simp] theorem CK3_2 : CK3 18 = dkappendSp := rfl
@[simp] theorem CK3_3 : CK3 19 = dksyncSp := rfl
@[simp] theorem CK3_4 : CK3 16 = dkbytesSp := rfl
@[simp] theorem CK3_5 : CK3 17 = dkdurSp := rfl
@[simp] theorem CK3_6 : CK3 13 = dkcopySp := rfl
@[simp] theorem CK3_7 : CK3 20 = dkcrashSp := rfl
@[simp] theorem CK3_8 : CK3 22 = dktruncSp := rfl
@[simp] theorem CK3_9 : CK3 9 = rnewSp := rfl
@[simp] theorem CK3_10 : CK3 24 = rappendSp := rfl
@[simp] theorem CK3_11 : CK3 25 = rsyncSp := rfl
@[simp] theorem CK3_12 : CK3 14 = rcopySp := rfl
@[simp] theorem CK3_13 : CK3 27 = rcrashSp := rfl
@[simp] theorem CK3_14 : CK3 26 = rtruncSp := rfl
@[simp] theorem CK3_15 : CK3 15 = sameSp := rfl
@[simp] theorem CK3_16 : CK3 23 = modSp := rfl
@[simp] theorem CK3_17 : CK3 21 = betweenSp := rfl

noncomputable def awake7Sp := fam (fun _ : Unit => []) (fun _ : Unit => []) (fun _ : Unit => True) (fun _ : Unit => ⟨.bool true, []⟩)
theorem awake7Sp_eq {u : Unit}  : awake7Sp ([]) ([]) = some (⟨.bool true, []⟩) :=
  fam_eq (A := fun _ : Unit => []) (O := fun _ : Unit => []) (res := fun _ : Unit => ⟨.bool true, []⟩) (by intro a b h h' <;> simp at h h' <;> simp_all) u trivial

@[simp] theorem awake7Sp_at : awake7Sp [] [] = some ⟨.bool true, []⟩ := awake7Sp_eq (u := ())
theorem row1 : [[V.int .u8 1]] = byteRow [1] := rfl
theorem row23 : [[V.int .u8 2], [V.int .u8 3]] = byteRow [2, 3] := rfl
theorem row12 : [[V.int .u8 1], [V.int .u8 2]] = byteRow [1, 2] := rfl
theorem awake7_spec : Lift.Spec Try.prog 10 awake7Sp := by
  refine spec_fam (C := CK3) types_ok CK3_ok follows Try.func10 (by kernel_rfl) rfl (by kernel_rfl) rfl ?_
  rintro u _
  try simp only at _
  refine ⟨by simp, ?_⟩
  intro r hr
  simp [crashN, row1, row23, row12]
  ((repeat refine ⟨⟨by kernel_rfl, by kernel_rfl⟩, ?_⟩); rw [hr]; refine ret_closed rfl ?_ rfl; simp)

def fewB (l : List GL07Act) : Bool := decide (l.length ≤ 60) && l.all fun a => decide (a.B.length ≤ 60)
noncomputable def few7Sp := fam (fun i : List GL07Act => [V.sl 2 3 (GL07Act.row i)]) (fun _ : List GL07Act => []) (fun _ : List GL07Act => True) (fun i : List GL07Act => ⟨.bool (fewB i), []⟩)
@[simp] theorem few7Sp_eq {l : List GL07Act}  : few7Sp ([V.sl 2 3 (GL07Act.row l)]) ([]) = some (⟨.bool (fewB l), []⟩) :=
  fam_eq (A := fun i : List GL07Act => [V.sl 2 3 (GL07Act.row i)]) (O := fun _ : List GL07Act => []) (res := fun i : List GL07Act => ⟨.bool (fewB i), []⟩) (by intro a b h h' <;> simp at h h' <;> simp_all) l trivial

def fewSt (l : List GL07Act) (i : Nat) : St := mkSt [(0, .sl 2 3 (GL07Act.row l)), (3, .int .i64 i)] [] 1
theorem few7_spec : Lift.Spec Try.prog 11 few7Sp := by
  refine spec_fam (C := C0) types_ok C0_ok follows Try.func11 (by kernel_rfl) rfl (by kernel_rfl) rfl ?_
  rintro l _
  try simp only at _
  refine ⟨by simp, ?_⟩
  intro r hr
  by_cases h0 : l.length ≤ 60
  · have h1 : ¬ (60 : Int) < (l.length : Int) := by omega
    simp [h1]
    refine axwp_loop (fewSt l) (fun i => i ≤ l.length ∧ AllTo (fun a : GL07Act => decide (a.B.length ≤ 60)) l i) (fun i => l.length - i) 0 ?_ ⟨Nat.zero_le _, AllTo.zero _ _⟩ ?_
    · refine weak_mk id ?_ ?_ ?_ ?_ <;> simp
    · rintro i ⟨hi, ha⟩
      by_cases hik : i < l.length
      · obtain ⟨x, hx, hx', _⟩ := get_of_lt hik
        have w4 : IntKind.i64.wrap ((i : Int) + 1) = (i : Int) + 1 := wrap_i64_in (by omega) (by omega)
        by_cases hz : x.B.length ≤ 60
        · have hz' : ¬ (60 : Int) < (x.B.length : Int) := by omega
          simp [fewSt, hik, hx', GL07Act.cells, hz']
          refine Again.mk (i + 1) ⟨hik, ha.succ hx (by simpa using hz)⟩ (by omega) ?_
          refine weak_mk id ?_ ?_ ?_ ?_ <;> simp [w4]
        · have hz' : (60 : Int) < (x.B.length : Int) := by omega
          simp [fewSt, hik, hx', GL07Act.cells, hz']
          rw [hr]; refine ret_closed rfl ?_ rfl
          have : (l.all fun a : GL07Act => decide (a.B.length ≤ 60)) = false := all_at_false hx (by simpa using hz)
          simp [fewB, this]
      · have e : i = l.length := by omega
        subst e
        simp [fewSt]
        rw [hr]; refine ret_closed rfl ?_ rfl
        replace ha := ha.whole
        simp [fewB, ha, h0]
  · have h1 : (60 : Int) < (l.length : Int) := by omega
    simp [h1]
    rw [hr]; refine ret_closed rfl ?_ rfl
    simp [fewB, h0]

/-- What an act makes of a disk. -/
def nOf (a : GL07Act) (n : Nat) : Int := if iAnd .i64 a.Which 8 = 0 then a.N else -1 + a.N % ((n : Int) + 1 - -1 + 1)
def stepD (a : GL07Act) (p : List UInt8 × Nat) : List UInt8 × Nat :=
  if a.Which % 8 ≤ 3 then (p.1 ++ a.B, p.2) else if a.Which % 8 = 4 then (p.1, p.1.length) else
  if a.Which % 8 = 5 then (if nOf a p.1.length < 0 ∨ (p.1.length : Int) < nOf a p.1.length then p else (p.1.take (nOf a p.1.length).toNat, min p.2 (nOf a p.1.length).toNat))
  else (p.1.take (crashN p.1.length p.2 (nOf a p.1.length)), crashN p.1.length p.2 (nOf a p.1.length))
theorem truncN_step (l : List UInt8) (d : Nat) (n : Int) : truncN l d n = diskO (if n < 0 ∨ (l.length : Int) < n then (l, d) else (l.take n.toNat, min d n.toNat)).1 (if n < 0 ∨ (l.length : Int) < n then (l, d) else (l.take n.toNat, min d n.toNat)).2 := by
  unfold truncN; split <;> rfl
theorem rtruncN_step (l : List UInt8) (d : Nat) (n : Int) : rtruncN l d n = refO (if n < 0 ∨ (l.length : Int) < n then (l, d) else (l.take n.toNat, min d n.toNat)).1 (if n < 0 ∨ (l.length : Int) < n then (l, d) else (l.take n.toNat, min d n.toNat)).2 := by
  unfold rtruncN; split <;> rfl

noncomputable def bothSp := fam (fun i : (List UInt8) × Nat × GL07Act => [V.ptr 0 0 0, .ptr 1 0 0, vL07Act i.2.2]) (fun i : (List UInt8) × Nat × GL07Act => [diskO i.1 i.2.1, refO i.1 i.2.1]) (fun i : (List UInt8) × Nat × GL07Act => (i.1.length + i.2.2.B.length ≤ 1000000000) ∧ (i.2.1 ≤ i.1.length)) (fun i : (List UInt8) × Nat × GL07Act => ⟨.bool true, [diskO (stepD i.2.2 (i.1, i.2.1)).1 (stepD i.2.2 (i.1, i.2.1)).2, refO (stepD i.2.2 (i.1, i.2.1)).1 (stepD i.2.2 (i.1, i.2.1)).2]⟩)
@[simp] theorem bothSp_eq {l : List UInt8} {d : Nat} {a : GL07Act} (h1 : l.length + a.B.length ≤ 1000000000) (h2 : d ≤ l.length) : bothSp ([V.ptr 0 0 0, .ptr 1 0 0, vL07Act a]) ([diskO l d, refO l d]) = some (⟨.bool true, [diskO (stepD a (l, d)).1 (stepD a (l, d)).2, refO (stepD a (l, d)).1 (stepD a (l, d)).2]⟩) :=
  fam_eq (A := fun i : (List UInt8) × Nat × GL07Act => [V.ptr 0 0 0, .ptr 1 0 0, vL07Act i.2.2]) (O := fun i : (List UInt8) × Nat × GL07Act => [diskO i.1 i.2.1, refO i.1 i.2.1]) (res := fun i : (List UInt8) × Nat × GL07Act => ⟨.bool true, [diskO (stepD i.2.2 (i.1, i.2.1)).1 (stepD i.2.2 (i.1, i.2.1)).2, refO (stepD i.2.2 (i.1, i.2.1)).1 (stepD i.2.2 (i.1, i.2.1)).2]⟩) (by rintro ⟨a0, a1, a2⟩ ⟨b0, b1, b2⟩ h h' <;> simp at h h' <;> simp_all) (l, d, a) ⟨h1, h2⟩

set_option maxHeartbeats 4000000 in
theorem both7_spec : Lift.Spec Try.prog 12 bothSp := by
  refine spec_famO [] (C := CK3) types_ok CK3_ok follows Try.func12 (by kernel_rfl) rfl (by kernel_rfl) rfl ?_
  rintro ⟨l, d, a⟩ ⟨h1, h2⟩
  try simp only at h1 h2
  refine ⟨by simp, ?_⟩
  intro r hr
  have w1 : IntKind.i64.wrap ((l.length : Int) + 1) = l.length + 1 := wrap_i64_in (by omega) (by omega)
  have b1 : (-1 : Int) ≤ l.length + 1 := by omega
  have b2 : (l.length : Int) + 1 ≤ 1099511627776 := by omega
  have c1 : l.length + a.B.length ≤ 140737488355328 := by omega
  have c2 : l.length ≤ 140737488355328 := by omega
  have c3 : l.length ≤ 4611686018427387904 := by omega
  have hm : a.Which % 8 = 0 ∨ a.Which % 8 = 1 ∨ a.Which % 8 = 2 ∨ a.Which % 8 = 3 ∨ a.Which % 8 = 4 ∨ a.Which % 8 = 5 ∨ a.Which % 8 = 6 ∨ a.Which % 8 = 7 := by omega
  have k1 : crashN l.length d (nOf a l.length) ≤ l.length := by unfold crashN; omega
  have k2 : crashN l.length d (nOf a l.length) ≤ 140737488355328 := by omega
  have k4 : ∀ n : Int, ¬ (n < 0 ∨ (l.length : Int) < n) → min n.toNat l.length ≤ 140737488355328 := fun n _ => by omega
  by_cases hw : iAnd .i64 a.Which 8 = 0
  · have hn : nOf a l.length = a.N := by simp [nOf, hw]
    rw [hn] at k1 k2
    rcases hm with h | h | h | h | h | h | h | h
    rotate_left 5
    · by_cases ht : a.N < 0 ∨ (l.length : Int) < a.N
      · simp [GL07Act.cells, hw, h, c1, c2, c3, h2, truncE, truncN, rtruncN, ht]
        (repeat refine ⟨⟨by kernel_rfl, by kernel_rfl⟩, ?_⟩)
        rw [hr]
        refine retC [] [] [] rfl ?_
        simp [stepD, h, hn, ht]
      · have k3 : min a.N.toNat l.length ≤ 140737488355328 := by omega
        simp [GL07Act.cells, hw, h, c1, c2, c3, h2, truncE, truncN, rtruncN, ht, k3]
        (repeat refine ⟨⟨by kernel_rfl, by kernel_rfl⟩, ?_⟩)
        rw [hr]
        refine retC [] [] [] rfl ?_
        simp [stepD, h, hn, ht]
    all_goals
      simp [GL07Act.cells, hw, h, c1, c2, c3, h2, k1, k2]
      (repeat refine ⟨⟨by kernel_rfl, by kernel_rfl⟩, ?_⟩)
      rw [hr]
      refine retC [] [] [] rfl ?_
      simp [stepD, h, hn]
  · have hn : -1 + a.N % ((l.length : Int) + 1 + 1 + 1) = nOf a l.length := by simp [nOf, hw]
    rcases hm with h | h | h | h | h | h | h | h
    rotate_left 5
    · by_cases ht : nOf a l.length < 0 ∨ (l.length : Int) < nOf a l.length
      · simp [GL07Act.cells, hw, w1, b1, b2, hn, h, c1, c2, c3, h2, truncE, truncN, rtruncN, ht]
        (repeat refine ⟨⟨by kernel_rfl, by kernel_rfl⟩, ?_⟩)
        try simp [GL07Act.cells, hw, w1, b1, b2, hn, h, c1, c2, c3, h2, truncE, truncN, rtruncN, ht]
        rw [hr]
        refine retC [] [] [] rfl ?_
        simp [stepD, h, ht]
      · have k3 := k4 _ ht
        simp [GL07Act.cells, hw, w1, b1, b2, hn, h, c1, c2, c3, h2, truncE, truncN, rtruncN, ht, k3]
        (repeat refine ⟨⟨by kernel_rfl, by kernel_rfl⟩, ?_⟩)
        try simp [GL07Act.cells, hw, w1, b1, b2, hn, h, c1, c2, c3, h2, truncE, truncN, rtruncN, ht, k3]
        rw [hr]
        refine retC [] [] [] rfl ?_
        simp [stepD, h, ht]
    all_goals
      simp [GL07Act.cells, hw, w1, b1, b2, hn, h, c1, c2, c3, h2, k1, k2]
      (repeat refine ⟨⟨by kernel_rfl, by kernel_rfl⟩, ?_⟩)
      try simp [GL07Act.cells, hw, w1, b1, b2, hn, h, c1, c2, c3, h2, k1, k2]
      rw [hr]
      refine retC [] [] [] rfl ?_
      simp [stepD, h]
end Go.Proofs.Ytpahppndnpeiaaa
