/-
  disk: the reference.
-/
import Derived.Test.YtlelalnahlpcpaaGreatK1
import Derived.Test.YtlelalnahlpcpaaGreatPW1
set_option linter.unusedSimpArgs false
set_option linter.unusedVariables false
namespace Go.Proofs.YtlelalnahlpcpaaGreat
open Go.Lift

/-- The reference's disk. -/
def refO (l : List UInt8) (d : Nat) : AObj := ⟨47, 2, [[.sl 2 1 (byteRow l), .int .i64 d]], true, 1, .rw⟩
@[simp] theorem refO_inj {a c : List UInt8} {b d : Nat} : refO a b = refO c d ↔ a = c ∧ b = d := by
  constructor
  · intro h
    simp [refO] at h
    exact ⟨h.1, by omega⟩
  · rintro ⟨rfl, rfl⟩; rfl
@[simp] theorem ref_elems (l : List UInt8) (d : Nat) : (refO l d).elems = [[.sl 2 1 (byteRow l), .int .i64 d]] := rfl
@[simp] theorem ref_et (l : List UInt8) (d : Nat) : (refO l d).et = 47 := rfl
@[simp] theorem ref_es (l : List UInt8) (d : Nat) : (refO l d).es = 2 := rfl
@[simp] theorem ref_tight (l : List UInt8) (d : Nat) : (refO l d).tight = true := rfl
@[simp] theorem ref_md (l : List UInt8) (d : Nat) : (refO l d).md = .rw := rfl
@[simp] theorem ref_fl (l : List UInt8) (d : Nat) : (refO l d).fl = 1 := rfl
@[simp] theorem ref_fold (l : List UInt8) (d : Nat) : (⟨47, 2, [[.sl 2 1 (byteRow l), .int .i64 d]], true, 1, .rw⟩ : AObj) = refO l d := rfl
@[simp] theorem ref_fold0 : (⟨47, 2, [[.sl 2 1 [], .int .i64 0]], true, 1, .rw⟩ : AObj) = refO [] 0 := rfl
@[simp] theorem ref_foldz (l : List UInt8) : (⟨47, 2, [[.sl 2 1 (byteRow l), .int .i64 0]], true, 1, .rw⟩ : AObj) = refO l 0 := rfl
@[simp] theorem ref_names (l : List UInt8) (d : Nat) (f : Nat → Nat) : (refO l d).ren f = refO l d := by simp [AObj.ren]
@[simp] theorem ref_shut (l : List UInt8) (d : Nat) : nameless (refO l d) = true := rfl
@[simp] theorem ref_scalar (l : List UInt8) (d : Nat) : scalarO (refO l d) = false := rfl

noncomputable def rsyncSp := fam (fun _ : (List UInt8) × Nat => [V.ptr 0 0 0]) (fun i : (List UInt8) × Nat => [refO i.1 i.2]) (fun i : (List UInt8) × Nat => (i.1.length ≤ 4611686018427387904)) (fun i : (List UInt8) × Nat => ⟨.tup [], [refO i.1 i.1.length]⟩)
@[simp] theorem rsyncSp_eq {l : List UInt8} {d : Nat} (h1 : l.length ≤ 4611686018427387904) : rsyncSp ([V.ptr 0 0 0]) ([refO l d]) = some (⟨.tup [], [refO l l.length]⟩) :=
  fam_eq (A := fun _ : (List UInt8) × Nat => [V.ptr 0 0 0]) (O := fun i : (List UInt8) × Nat => [refO i.1 i.2]) (res := fun i : (List UInt8) × Nat => ⟨.tup [], [refO i.1 i.1.length]⟩) (by rintro ⟨a0, a1⟩ ⟨b0, b1⟩ h h' <;> simp at h h' <;> simp_all) (l, d) h1

theorem rsync_spec : Lift.Spec Tryz.prog 47 rsyncSp := by
  refine spec_famO [] (C := C0) types_ok C0_ok follows Tryz.func47 (by kernel_rfl) rfl (by kernel_rfl) rfl ?_
  rintro ⟨l, d⟩ h1
  try simp only at h1
  refine ⟨by simp, ?_⟩
  intro r hr
  simp
  rw [hr]
  refine retC [] [] [] rfl ?_
  simp

noncomputable def rappendSp := fam (fun i : (List UInt8) × Nat × Nat × (List UInt8) => [V.ptr 0 0 0, .sl i.2.2.1 1 (byteRow i.2.2.2)]) (fun i : (List UInt8) × Nat × Nat × (List UInt8) => [refO i.1 i.2.1]) (fun i : (List UInt8) × Nat × Nat × (List UInt8) => (i.1.length + i.2.2.2.length ≤ 140737488355328)) (fun i : (List UInt8) × Nat × Nat × (List UInt8) => ⟨.tup [], [refO (i.1 ++ i.2.2.2) i.2.1]⟩)
@[simp] theorem rappendSp_eq {l : List UInt8} {d : Nat} {t : Nat} {b : List UInt8} (h1 : l.length + b.length ≤ 140737488355328) : rappendSp ([V.ptr 0 0 0, .sl t 1 (byteRow b)]) ([refO l d]) = some (⟨.tup [], [refO (l ++ b) d]⟩) :=
  fam_eq (A := fun i : (List UInt8) × Nat × Nat × (List UInt8) => [V.ptr 0 0 0, .sl i.2.2.1 1 (byteRow i.2.2.2)]) (O := fun i : (List UInt8) × Nat × Nat × (List UInt8) => [refO i.1 i.2.1]) (res := fun i : (List UInt8) × Nat × Nat × (List UInt8) => ⟨.tup [], [refO (i.1 ++ i.2.2.2) i.2.1]⟩) (by rintro ⟨a0, a1, a2, a3⟩ ⟨b0, b1, b2, b3⟩ h h' <;> simp at h h' <;> simp_all) (l, d, t, b) h1

theorem rappend_spec : Lift.Spec Tryz.prog 46 rappendSp := by
  refine spec_famO [] (C := C0) types_ok C0_ok follows Tryz.func46 (by kernel_rfl) rfl (by kernel_rfl) rfl ?_
  rintro ⟨l, d, t, b⟩ h1
  try simp only at h1
  refine ⟨by simp, ?_⟩
  intro r hr
  have h2 : (l.length : Int) + (b.length : Int) ≤ 140737488355328 := by omega
  have h3 : (l.length : Int) ≤ 140737488355328 := by omega
  simp [h2, h3]
  rw [hr]
  refine retE [.inr 12] [.inl 0] [] [] [] rfl ?_
  simp

noncomputable def rnewSp := fam (fun _ : Unit => []) (fun _ : Unit => []) (fun _ : Unit => True) (fun _ : Unit => ⟨.ptr 0 0 0, [refO [] 0]⟩)
theorem rnewSp_eq {u : Unit}  : rnewSp ([]) ([]) = some (⟨.ptr 0 0 0, [refO [] 0]⟩) :=
  fam_eq (A := fun _ : Unit => []) (O := fun _ : Unit => []) (res := fun _ : Unit => ⟨.ptr 0 0 0, [refO [] 0]⟩) (by intro a b h h' <;> simp at h h' <;> simp_all) u trivial

@[simp] theorem rnewSp_at : rnewSp [] [] = some ⟨.ptr 0 0 0, [refO [] 0]⟩ := rnewSp_eq (u := ())
theorem rnew_spec : Lift.Spec Tryz.prog 20 rnewSp := by
  refine spec_fam (C := C0) types_ok C0_ok follows Tryz.func20 (by kernel_rfl) rfl (by kernel_rfl) rfl ?_
  rintro u _
  try simp only at _
  refine ⟨by simp, ?_⟩
  intro r hr
  simp
  rw [hr]
  refine Ret.weak (retE [] [.inr 0] [] [] [.inr 0] rfl ?_) (weak_flAt (.inr 0) 1)
  simp

noncomputable def rcopySp := fam (fun _ : (List UInt8) × Nat => [V.ptr 0 0 0]) (fun i : (List UInt8) × Nat => [refO i.1 i.2]) (fun i : (List UInt8) × Nat => (i.1.length ≤ 140737488355328)) (fun i : (List UInt8) × Nat => ⟨.ptr 1 0 0, [refO i.1 i.2, refO i.1 i.2]⟩)
@[simp] theorem rcopySp_eq {l : List UInt8} {d : Nat} (h1 : l.length ≤ 140737488355328) : rcopySp ([V.ptr 0 0 0]) ([refO l d]) = some (⟨.ptr 1 0 0, [refO l d, refO l d]⟩) :=
  fam_eq (A := fun _ : (List UInt8) × Nat => [V.ptr 0 0 0]) (O := fun i : (List UInt8) × Nat => [refO i.1 i.2]) (res := fun i : (List UInt8) × Nat => ⟨.ptr 1 0 0, [refO i.1 i.2, refO i.1 i.2]⟩) (by rintro ⟨a0, a1⟩ ⟨b0, b1⟩ h h' <;> simp at h h' <;> simp_all) (l, d) h1

noncomputable def rcrashSp := fam (fun i : (List UInt8) × Nat × Int => [V.ptr 0 0 0, .int .i64 i.2.2]) (fun i : (List UInt8) × Nat × Int => [refO i.1 i.2.1]) (fun i : (List UInt8) × Nat × Int => (i.1.length ≤ 140737488355328) ∧ (i.2.1 ≤ i.1.length)) (fun i : (List UInt8) × Nat × Int => ⟨.tup [], [refO (i.1.take (crashN i.1.length i.2.1 i.2.2)) (crashN i.1.length i.2.1 i.2.2)]⟩)
@[simp] theorem rcrashSp_eq {l : List UInt8} {d : Nat} {keep : Int} (h1 : l.length ≤ 140737488355328) (h2 : d ≤ l.length) : rcrashSp ([V.ptr 0 0 0, .int .i64 keep]) ([refO l d]) = some (⟨.tup [], [refO (l.take (crashN l.length d keep)) (crashN l.length d keep)]⟩) :=
  fam_eq (A := fun i : (List UInt8) × Nat × Int => [V.ptr 0 0 0, .int .i64 i.2.2]) (O := fun i : (List UInt8) × Nat × Int => [refO i.1 i.2.1]) (res := fun i : (List UInt8) × Nat × Int => ⟨.tup [], [refO (i.1.take (crashN i.1.length i.2.1 i.2.2)) (crashN i.1.length i.2.1 i.2.2)]⟩) (by rintro ⟨a0, a1, a2⟩ ⟨b0, b1, b2⟩ h h' <;> simp at h h' <;> simp_all) (l, d, keep) ⟨h1, h2⟩

theorem rcrash_spec : Lift.Spec Tryz.prog 50 rcrashSp := by
  refine spec_famO [] (C := C0) types_ok C0_ok follows Tryz.func50 (by kernel_rfl) rfl (by kernel_rfl) rfl ?_
  rintro ⟨l, d, keep⟩ ⟨h1, h2⟩
  try simp only at h1 h2
  refine ⟨by simp, ?_⟩
  intro r hr
  have w1 : IntKind.i64.wrap ((l.length : Int) - d) = l.length - d := wrap_i64_in (by omega) (by omega)
  have hk : ∀ p k : Int, 0 ≤ p → (if p < (if k < 0 then 0 else k) then p else (if k < 0 then 0 else k)) = ((min k.toNat p.toNat : Nat) : Int) := by
    intro p k hp
    split <;> split at * <;> omega
  have hc : crashN l.length d keep ≤ l.length := by unfold crashN; omega
  have h3 : min (crashN l.length d keep) l.length = crashN l.length d keep := by omega
  have h4 : (crashN l.length d keep : Int) ≤ 140737488355328 := by omega
  have w2 : IntKind.i64.wrap ((d : Int) + ((min keep.toNat ((l.length : Int) - d).toNat : Nat) : Int)) = ((crashN l.length d keep : Nat) : Int) := by
    rw [wrap_i64_in (by omega) (by omega)]; unfold crashN; omega
  simp [w1]
  (repeat refine ⟨⟨by kernel_rfl, by kernel_rfl⟩, ?_⟩)
  rw [hk _ _ (by omega), w2]
  simp [hc, h3, h4]
  rw [hr]
  refine retE [.inr 31] [] [] [] [] rfl ?_
  simp [h3, List.take_take]

def rtruncN (l : List UInt8) (d : Nat) (n : Int) : AObj := if n < 0 ∨ (l.length : Int) < n then refO l d else refO (l.take n.toNat) (min d n.toNat)
noncomputable def rtruncSp := fam (fun i : (List UInt8) × Nat × Int => [V.ptr 0 0 0, .int .i64 i.2.2]) (fun i : (List UInt8) × Nat × Int => [refO i.1 i.2.1]) (fun i : (List UInt8) × Nat × Int => (i.1.length ≤ 140737488355328) ∧ (i.2.1 ≤ i.1.length)) (fun i : (List UInt8) × Nat × Int => ⟨.int .i64 (truncE i.1 i.2.2), [rtruncN i.1 i.2.1 i.2.2]⟩)
@[simp] theorem rtruncSp_eq {l : List UInt8} {d : Nat} {n : Int} (h1 : l.length ≤ 140737488355328) (h2 : d ≤ l.length) : rtruncSp ([V.ptr 0 0 0, .int .i64 n]) ([refO l d]) = some (⟨.int .i64 (truncE l n), [rtruncN l d n]⟩) :=
  fam_eq (A := fun i : (List UInt8) × Nat × Int => [V.ptr 0 0 0, .int .i64 i.2.2]) (O := fun i : (List UInt8) × Nat × Int => [refO i.1 i.2.1]) (res := fun i : (List UInt8) × Nat × Int => ⟨.int .i64 (truncE i.1 i.2.2), [rtruncN i.1 i.2.1 i.2.2]⟩) (by rintro ⟨a0, a1, a2⟩ ⟨b0, b1, b2⟩ h h' <;> simp at h h' <;> simp_all) (l, d, n) ⟨h1, h2⟩

theorem rtrunc_spec : Lift.Spec Tryz.prog 54 rtruncSp := by
  refine spec_famO [] (C := C0) types_ok C0_ok follows Tryz.func54 (by kernel_rfl) rfl (by kernel_rfl) rfl ?_
  rintro ⟨l, d, n⟩ ⟨h1, h2⟩
  try simp only at h1 h2
  refine ⟨by simp, ?_⟩
  intro r hr
  by_cases h0 : n < 0
  · simp [h0]
    (repeat refine ⟨⟨by kernel_rfl, by kernel_rfl⟩, ?_⟩)
    rw [hr]
    refine retC [] [] [] rfl ?_
    simp [truncE, rtruncN, h0]
  · by_cases h3 : (l.length : Int) < n
    · simp [h0, h3]
      rw [hr]
      refine retC [] [] [] rfl ?_
      simp [truncE, rtruncN, h0, h3]
    · obtain ⟨k, rfl⟩ := Int.eq_ofNat_of_zero_le (show 0 ≤ n by omega)
      have h4 : k ≤ l.length := by omega
      have h5 : (if k < d then (k : Int) else d) = ((min d k : Nat) : Int) := by split <;> omega
      have h6 : min k l.length = k := by omega
      have h7 : (k : Int) ≤ 140737488355328 := by omega
      simp [h0, h3, h4, h5, h6, h7]
      rw [hr]
      refine retE [.inr 24] [] [] [] [] rfl ?_
      simp [truncE, rtruncN, h0, h3, h4, h5, List.take_take]
end Go.Proofs.YtlelalnahlpcpaaGreat
