/-
  disk.
-/
import Derived.Test.YtlelalnahlpcpaaGreatL30
import Derived.Test.YtlelalnahlpcpaaGreatM1
set_option linter.unusedSimpArgs false
set_option linter.unusedVariables false
namespace Go.Proofs.YtlelalnahlpcpaaGreat
open Go.Lift

attribute [simp] take_minlen take_same take_sum
/-- A disk: its bytes, and how many of them are durable. -/
def diskO (l : List UInt8) (d : Nat) : AObj := ⟨77, 2, [[.tree true 5 1 (byteRow l) false 2, .int .i64 d]], true, 0, .rw⟩
@[simp] theorem diskO_inj {a c : List UInt8} {b d : Nat} : diskO a b = diskO c d ↔ a = c ∧ b = d := by
  constructor
  · intro h
    simp [diskO] at h
    exact ⟨h.1, by omega⟩
  · rintro ⟨rfl, rfl⟩; rfl
@[simp] theorem disk_names (l : List UInt8) (d : Nat) (f : Nat → Nat) : (diskO l d).ren f = diskO l d := by simp [diskO]
@[simp] theorem disk_within (l : List UInt8) (d : Nat) (D : Nat → Bool) : (diskO l d).within D = true := by simp [diskO]
@[simp] theorem disk_shut (l : List UInt8) (d : Nat) : nameless (diskO l d) = true := by simp [diskO]
@[simp] theorem disk_scalar (l : List UInt8) (d : Nat) : scalarO (diskO l d) = true := by simp [diskO]
@[simp] theorem disk_elems (l : List UInt8) (d : Nat) : (diskO l d).elems = [[.tree true 5 1 (byteRow l) false 2, .int .i64 d]] := rfl
@[simp] theorem disk_et (l : List UInt8) (d : Nat) : (diskO l d).et = 77 := rfl
@[simp] theorem disk_es (l : List UInt8) (d : Nat) : (diskO l d).es = 2 := rfl
@[simp] theorem disk_tight (l : List UInt8) (d : Nat) : (diskO l d).tight = true := rfl
@[simp] theorem disk_fold (l : List UInt8) (d : Nat) : (⟨77, 2, [[.tree true 5 1 (byteRow l) false 2, .int .i64 d]], true, 0, .rw⟩ : AObj) = diskO l d := rfl
@[simp] theorem disk_fold0 : (⟨77, 2, [[.tree true 5 1 [] false 2, .int .i64 0]], true, 0, .rw⟩ : AObj) = diskO [] 0 := rfl
@[simp] theorem disk_foldz (l : List UInt8) : (⟨77, 2, [[.tree true 5 1 (byteRow l) false 2, .int .i64 0]], true, 0, .rw⟩ : AObj) = diskO l 0 := rfl
@[simp] theorem disk_md (l : List UInt8) (d : Nat) : (diskO l d).md = .rw := rfl
@[simp] theorem disk_fl (l : List UInt8) (d : Nat) : (diskO l d).fl = 0 := rfl

noncomputable def dkdurSp := fam (fun _ : (List UInt8) × Nat => [V.ptr 0 0 0]) (fun i : (List UInt8) × Nat => [diskO i.1 i.2]) (fun _ : (List UInt8) × Nat => True) (fun i : (List UInt8) × Nat => ⟨.int .i64 i.2, [diskO i.1 i.2]⟩)
@[simp] theorem dkdurSp_eq {l : List UInt8} {d : Nat}  : dkdurSp ([V.ptr 0 0 0]) ([diskO l d]) = some (⟨.int .i64 d, [diskO l d]⟩) :=
  fam_eq (A := fun _ : (List UInt8) × Nat => [V.ptr 0 0 0]) (O := fun i : (List UInt8) × Nat => [diskO i.1 i.2]) (res := fun i : (List UInt8) × Nat => ⟨.int .i64 i.2, [diskO i.1 i.2]⟩) (by rintro ⟨a0, a1⟩ ⟨b0, b1⟩ h h' <;> simp at h h' <;> simp_all) (l, d) trivial

noncomputable def dksyncSp := fam (fun _ : (List UInt8) × Nat => [V.ptr 0 0 0]) (fun i : (List UInt8) × Nat => [diskO i.1 i.2]) (fun i : (List UInt8) × Nat => (i.1.length ≤ 4611686018427387904)) (fun i : (List UInt8) × Nat => ⟨.tup [], [diskO i.1 i.1.length]⟩)
@[simp] theorem dksyncSp_eq {l : List UInt8} {d : Nat} (h1 : l.length ≤ 4611686018427387904) : dksyncSp ([V.ptr 0 0 0]) ([diskO l d]) = some (⟨.tup [], [diskO l l.length]⟩) :=
  fam_eq (A := fun _ : (List UInt8) × Nat => [V.ptr 0 0 0]) (O := fun i : (List UInt8) × Nat => [diskO i.1 i.2]) (res := fun i : (List UInt8) × Nat => ⟨.tup [], [diskO i.1 i.1.length]⟩) (by rintro ⟨a0, a1⟩ ⟨b0, b1⟩ h h' <;> simp at h h' <;> simp_all) (l, d) h1

theorem dksync_spec : Lift.Spec Tryz.prog 39 dksyncSp := by
  refine spec_famO [] (C := C0) types_ok C0_ok follows Tryz.func39 (by kernel_rfl) rfl (by kernel_rfl) rfl ?_
  rintro ⟨l, d⟩ h1
  try simp only at h1
  refine ⟨by simp, ?_⟩
  intro r hr
  simp
  rw [hr]
  refine retC [] [.inl 0] [] rfl ?_
  simp

noncomputable def dkappendSp := fam (fun i : (List UInt8) × Nat × Nat × (List UInt8) => [V.ptr 0 0 0, .sl i.2.2.1 1 (byteRow i.2.2.2)]) (fun i : (List UInt8) × Nat × Nat × (List UInt8) => [diskO i.1 i.2.1]) (fun i : (List UInt8) × Nat × Nat × (List UInt8) => (i.1.length + i.2.2.2.length ≤ 140737488355328)) (fun i : (List UInt8) × Nat × Nat × (List UInt8) => ⟨.tup [], [diskO (i.1 ++ i.2.2.2) i.2.1]⟩)
@[simp] theorem dkappendSp_eq {l : List UInt8} {d : Nat} {t : Nat} {b : List UInt8} (h1 : l.length + b.length ≤ 140737488355328) : dkappendSp ([V.ptr 0 0 0, .sl t 1 (byteRow b)]) ([diskO l d]) = some (⟨.tup [], [diskO (l ++ b) d]⟩) :=
  fam_eq (A := fun i : (List UInt8) × Nat × Nat × (List UInt8) => [V.ptr 0 0 0, .sl i.2.2.1 1 (byteRow i.2.2.2)]) (O := fun i : (List UInt8) × Nat × Nat × (List UInt8) => [diskO i.1 i.2.1]) (res := fun i : (List UInt8) × Nat × Nat × (List UInt8) => ⟨.tup [], [diskO (i.1 ++ i.2.2.2) i.2.1]⟩) (by rintro ⟨a0, a1, a2, a3⟩ ⟨b0, b1, b2, b3⟩ h h' <;> simp at h h' <;> simp_all) (l, d, t, b) h1

theorem dkappend_spec : Lift.Spec Tryz.prog 38 dkappendSp := by
  refine spec_famO [] (C := C0) types_ok C0_ok follows Tryz.func38 (by kernel_rfl) rfl (by kernel_rfl) rfl ?_
  rintro ⟨l, d, t, b⟩ h1
  try simp only at h1
  refine ⟨by simp, ?_⟩
  intro r hr
  have h2 : (l.length : Int) + (b.length : Int) ≤ 140737488355328 := by omega
  simp [h2]
  rw [hr]
  refine retC [] [.inl 0] [] rfl ?_
  simp

noncomputable def dkbytesSp := fam (fun _ : (List UInt8) × Nat => [V.ptr 0 0 0]) (fun i : (List UInt8) × Nat => [diskO i.1 i.2]) (fun i : (List UInt8) × Nat => (i.1.length ≤ 140737488355328)) (fun i : (List UInt8) × Nat => ⟨.own 1 0 i.1.length, [diskO i.1 i.2, ⟨5, 1, byteRow i.1, false, 2, .rw⟩]⟩)
@[simp] theorem dkbytesSp_eq {l : List UInt8} {d : Nat} (h1 : l.length ≤ 140737488355328) : dkbytesSp ([V.ptr 0 0 0]) ([diskO l d]) = some (⟨.own 1 0 l.length, [diskO l d, ⟨5, 1, byteRow l, false, 2, .rw⟩]⟩) :=
  fam_eq (A := fun _ : (List UInt8) × Nat => [V.ptr 0 0 0]) (O := fun i : (List UInt8) × Nat => [diskO i.1 i.2]) (res := fun i : (List UInt8) × Nat => ⟨.own 1 0 i.1.length, [diskO i.1 i.2, ⟨5, 1, byteRow i.1, false, 2, .rw⟩]⟩) (by rintro ⟨a0, a1⟩ ⟨b0, b1⟩ h h' <;> simp at h h' <;> simp_all) (l, d) h1

theorem dkbytes_spec : Lift.Spec Tryz.prog 58 dkbytesSp := by
  refine spec_famO [(0, 0)] (C := C0) types_ok C0_ok follows Tryz.func58 (by kernel_rfl) rfl (by kernel_rfl) rfl ?_
  rintro ⟨l, d⟩ h1
  try simp only at h1
  refine ⟨by simp, ?_⟩
  intro r hr
  have h2 : (l.length : Int) ≤ 140737488355328 := by omega
  simp [h2]
  (repeat refine ⟨⟨by kernel_rfl, by kernel_rfl⟩, ?_⟩)
  rw [hr]
  refine retC [] [.inl 0] [.inl 0, .inr 2] rfl ?_
  simp

noncomputable def dnewSp := fam (fun _ : Unit => []) (fun _ : Unit => []) (fun _ : Unit => True) (fun _ : Unit => ⟨.ptr 0 0 0, [diskO [] 0]⟩)
theorem dnewSp_eq {u : Unit}  : dnewSp ([]) ([]) = some (⟨.ptr 0 0 0, [diskO [] 0]⟩) :=
  fam_eq (A := fun _ : Unit => []) (O := fun _ : Unit => []) (res := fun _ : Unit => ⟨.ptr 0 0 0, [diskO [] 0]⟩) (by intro a b h h' <;> simp at h h' <;> simp_all) u trivial

@[simp] theorem dnewSp_at : dnewSp [] [] = some ⟨.ptr 0 0 0, [diskO [] 0]⟩ := dnewSp_eq (u := ())
theorem dnew_spec : Lift.Spec Tryz.prog 19 dnewSp := by
  refine spec_fam (C := C0) types_ok C0_ok follows Tryz.func19 (by kernel_rfl) rfl (by kernel_rfl) rfl ?_
  rintro u _
  try simp only at _
  refine ⟨by simp, ?_⟩
  intro r hr
  simp
  rw [hr]
  refine retC [(.inr 0, 0, 5, 1)] [.inr 0] [.inr 0] rfl ?_
  simp

noncomputable def CK1 := mkC [(39, dksyncSp), (58, dkbytesSp)]
theorem CK1_ok : SpecsOk Tryz.prog CK1 := mkC_ok (all_cons dksync_spec (all_cons dkbytes_spec all_nil))
@[simp] theorem CK1_1 : CK1 39 = dksyncSp := rfl
@[simp] theorem CK1_2 : CK1 58 = dkbytesSp := rfl

noncomputable def dkcopySp := fam (fun _ : (List UInt8) × Nat => [V.ptr 0 0 0]) (fun i : (List UInt8) × Nat => [diskO i.1 i.2]) (fun i : (List UInt8) × Nat => (i.1.length ≤ 140737488355328)) (fun i : (List UInt8) × Nat => ⟨.ptr 1 0 0, [diskO i.1 i.2, diskO i.1 i.2]⟩)
@[simp] theorem dkcopySp_eq {l : List UInt8} {d : Nat} (h1 : l.length ≤ 140737488355328) : dkcopySp ([V.ptr 0 0 0]) ([diskO l d]) = some (⟨.ptr 1 0 0, [diskO l d, diskO l d]⟩) :=
  fam_eq (A := fun _ : (List UInt8) × Nat => [V.ptr 0 0 0]) (O := fun i : (List UInt8) × Nat => [diskO i.1 i.2]) (res := fun i : (List UInt8) × Nat => ⟨.ptr 1 0 0, [diskO i.1 i.2, diskO i.1 i.2]⟩) (by rintro ⟨a0, a1⟩ ⟨b0, b1⟩ h h' <;> simp at h h' <;> simp_all) (l, d) h1

/-- How many bytes a crash leaves. -/
def crashN (n d : Nat) (keep : Int) : Nat := d + min keep.toNat (n - d)
noncomputable def dkcrashSp := fam (fun i : (List UInt8) × Nat × Int => [V.ptr 0 0 0, .int .i64 i.2.2]) (fun i : (List UInt8) × Nat × Int => [diskO i.1 i.2.1]) (fun i : (List UInt8) × Nat × Int => (i.1.length ≤ 140737488355328) ∧ (i.2.1 ≤ i.1.length)) (fun i : (List UInt8) × Nat × Int => ⟨.tup [], [diskO (i.1.take (crashN i.1.length i.2.1 i.2.2)) (crashN i.1.length i.2.1 i.2.2)]⟩)
@[simp] theorem dkcrashSp_eq {l : List UInt8} {d : Nat} {keep : Int} (h1 : l.length ≤ 140737488355328) (h2 : d ≤ l.length) : dkcrashSp ([V.ptr 0 0 0, .int .i64 keep]) ([diskO l d]) = some (⟨.tup [], [diskO (l.take (crashN l.length d keep)) (crashN l.length d keep)]⟩) :=
  fam_eq (A := fun i : (List UInt8) × Nat × Int => [V.ptr 0 0 0, .int .i64 i.2.2]) (O := fun i : (List UInt8) × Nat × Int => [diskO i.1 i.2.1]) (res := fun i : (List UInt8) × Nat × Int => ⟨.tup [], [diskO (i.1.take (crashN i.1.length i.2.1 i.2.2)) (crashN i.1.length i.2.1 i.2.2)]⟩) (by rintro ⟨a0, a1, a2⟩ ⟨b0, b1, b2⟩ h h' <;> simp at h h' <;> simp_all) (l, d, keep) ⟨h1, h2⟩

theorem dkcrash_spec : Lift.Spec Tryz.prog 49 dkcrashSp := by
  refine spec_famO [(0, 0)] (C := CK1) types_ok CK1_ok follows Tryz.func49 (by kernel_rfl) rfl (by kernel_rfl) rfl ?_
  rintro ⟨l, d, keep⟩ ⟨h1, h2⟩
  try simp only at h1 h2
  refine ⟨by simp, ?_⟩
  intro r hr
  have w1 : IntKind.i64.wrap ((l.length : Int) - d) = l.length - d := wrap_i64_in (by omega) (by omega)
  have hk : ∀ p k : Int, 0 ≤ p → (if 0 < if p < k then p else k then if p < k then p else k else 0) = ((min k.toNat p.toNat : Nat) : Int) := by
    intro p k hp
    split <;> split at * <;> omega
  have hc : crashN l.length d keep ≤ l.length := by unfold crashN; omega
  have h3 : min (crashN l.length d keep) l.length = crashN l.length d keep := by omega
  have h4 : crashN l.length d keep ≤ 4611686018427387904 := by omega
  have w2 : IntKind.i64.wrap ((d : Int) + ((min keep.toNat ((l.length : Int) - d).toNat : Nat) : Int)) = ((crashN l.length d keep : Nat) : Int) := by
    rw [wrap_i64_in (by omega) (by omega)]; unfold crashN; omega
  simp [w1]
  (repeat refine ⟨⟨by kernel_rfl, by kernel_rfl⟩, ?_⟩)
  rw [hk _ _ (by omega), w2]
  simp [hc, h3, h4]
  (repeat refine ⟨⟨by kernel_rfl, by kernel_rfl⟩, ?_⟩)
  rw [hr]
  refine retC [] [.inl 0] [] rfl ?_
  simp

/-- What is left of a disk that is cut at n. -/
def truncN (l : List UInt8) (d : Nat) (n : Int) : AObj := if n < 0 ∨ (l.length : Int) < n then diskO l d else diskO (l.take n.toNat) (min d n.toNat)
def truncE (l : List UInt8) (n : Int) : Int := if n < 0 ∨ (l.length : Int) < n then 1 else 0
noncomputable def dktruncSp := fam (fun i : (List UInt8) × Nat × Int => [V.ptr 0 0 0, .int .i64 i.2.2]) (fun i : (List UInt8) × Nat × Int => [diskO i.1 i.2.1]) (fun i : (List UInt8) × Nat × Int => (i.1.length ≤ 140737488355328) ∧ (i.2.1 ≤ i.1.length)) (fun i : (List UInt8) × Nat × Int => ⟨.int .i64 (truncE i.1 i.2.2), [truncN i.1 i.2.1 i.2.2]⟩)
@[simp] theorem dktruncSp_eq {l : List UInt8} {d : Nat} {n : Int} (h1 : l.length ≤ 140737488355328) (h2 : d ≤ l.length) : dktruncSp ([V.ptr 0 0 0, .int .i64 n]) ([diskO l d]) = some (⟨.int .i64 (truncE l n), [truncN l d n]⟩) :=
  fam_eq (A := fun i : (List UInt8) × Nat × Int => [V.ptr 0 0 0, .int .i64 i.2.2]) (O := fun i : (List UInt8) × Nat × Int => [diskO i.1 i.2.1]) (res := fun i : (List UInt8) × Nat × Int => ⟨.int .i64 (truncE i.1 i.2.2), [truncN i.1 i.2.1 i.2.2]⟩) (by rintro ⟨a0, a1, a2⟩ ⟨b0, b1, b2⟩ h h' <;> simp at h h' <;> simp_all) (l, d, n) ⟨h1, h2⟩

theorem dktrunc_spec : Lift.Spec Tryz.prog 61 dktruncSp := by
  refine spec_famO [(0, 0)] (C := C0) types_ok C0_ok follows Tryz.func61 (by kernel_rfl) rfl (by kernel_rfl) rfl ?_
  rintro ⟨l, d, n⟩ ⟨h1, h2⟩
  try simp only at h1 h2
  refine ⟨by simp, ?_⟩
  intro r hr
  by_cases h0 : n < 0
  · simp [h0]
    (repeat refine ⟨⟨by kernel_rfl, by kernel_rfl⟩, ?_⟩)
    rw [hr]
    refine retC [] [.inl 0] [] rfl ?_
    simp [truncE, truncN, h0]
  · by_cases h3 : (l.length : Int) < n
    · simp [h0, h3]
      rw [hr]
      refine retC [] [.inl 0] [] rfl ?_
      simp [truncE, truncN, h0, h3]
    · obtain ⟨k, rfl⟩ := Int.eq_ofNat_of_zero_le (show 0 ≤ n by omega)
      have h4 : k ≤ l.length := by omega
      have h5 : (if k < d then (k : Int) else d) = ((min d k : Nat) : Int) := by split <;> omega
      simp [h0, h3, h4, h5]
      rw [hr]
      refine retC [] [.inl 0] [] rfl ?_
      simp [truncE, truncN, h0, h3, h4, h5]
end Go.Proofs.YtlelalnahlpcpaaGreat
