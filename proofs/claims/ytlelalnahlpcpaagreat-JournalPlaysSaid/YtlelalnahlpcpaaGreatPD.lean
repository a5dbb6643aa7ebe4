/-
  Texts: D1, D2, D3, D4.
-/
import Derived.Test.YtlelalnahlpcpaaGreatT2
set_option linter.unusedSimpArgs false
set_option linter.unusedVariables false
/-
  digest: what it mixes.
-/
namespace Go.Proofs.YtlelalnahlpcpaaGreat
open Go.Lift

/-- A step of a sum. -/
def mixB (h n : BitVec 64) : BitVec 64 := ((h ^^^ n) * 1099511628211#64) ^^^ (((h ^^^ n) * 1099511628211#64) >>> 29)

theorem ofInt_toNat (x : BitVec 64) : BitVec.ofInt 64 (x.toNat : Int) = x := by
  apply BitVec.eq_of_toNat_eq
  rw [BitVec.ofInt_natCast, BitVec.toNat_ofNat]
  exact Nat.mod_eq_of_lt x.isLt
theorem inU64_toNat (x : BitVec 64) : InU64 (x.toNat : Int) := by have := x.isLt; unfold InU64; omega
theorem wrapB (n : Int) : IntKind.u64.wrap n = ((BitVec.ofInt 64 n).toNat : Int) := by
  rw [wrap_u64, BitVec.toNat_ofInt]
  show n % 18446744073709551616 = ((n % 18446744073709551616).toNat : Int)
  omega
theorem xorB (a b : Int) : iXor .u64 a b = ((BitVec.ofInt 64 a ^^^ BitVec.ofInt 64 b).toNat : Int) := by
  show IntKind.u64.wrap _ = _
  exact wrap_u64_in (by omega) (by have := (BitVec.ofInt 64 a ^^^ BitVec.ofInt 64 b).isLt; simp only [bits_u64] at *; omega)
theorem mulB (a : BitVec 64) : IntKind.u64.wrap ((a.toNat : Int) * 1099511628211) = ((a * 1099511628211#64).toNat : Int) := by
  rw [wrap_u64, BitVec.toNat_mul]
  show (a.toNat : Int) * 1099511628211 % 18446744073709551616 = ((a.toNat * 1099511628211 % 18446744073709551616 : Nat) : Int)
  omega
theorem shrB (a : BitVec 64) : (a.toNat : Int).fdiv 536870912 = ((a >>> 29).toNat : Int) := by
  rw [BitVec.toNat_ushiftRight, Nat.shiftRight_eq_div_pow, Int.fdiv_eq_ediv_of_nonneg _ (by omega)]
  rfl

theorem shift_inj {y z : BitVec 64} (h : y ^^^ y >>> 29 = z ^^^ z >>> 29) : y = z := by
  have e : (y ^^^ z) = (y ^^^ z) >>> 29 := by
    rw [BitVec.ushiftRight_xor_distrib]
    have h2 : (y ^^^ y >>> 29) ^^^ (y >>> 29 ^^^ z) = (z ^^^ z >>> 29) ^^^ (y >>> 29 ^^^ z) := by rw [h]
    have h3 : (y ^^^ y >>> 29) ^^^ (y >>> 29 ^^^ z) = y ^^^ z := by
      rw [BitVec.xor_assoc, ← BitVec.xor_assoc (y >>> 29), BitVec.xor_self, BitVec.zero_xor]
    have h4 : (z ^^^ z >>> 29) ^^^ (y >>> 29 ^^^ z) = y >>> 29 ^^^ z >>> 29 := by
      rw [BitVec.xor_comm z, BitVec.xor_assoc, BitVec.xor_comm (y >>> 29) z, ← BitVec.xor_assoc z z, BitVec.xor_self, BitVec.zero_xor, BitVec.xor_comm]
    rw [← h3, h2, h4]
  have e2 : (y ^^^ z).toNat = (y ^^^ z).toNat / 536870912 := by
    have := congrArg BitVec.toNat e
    rw [BitVec.toNat_ushiftRight, Nat.shiftRight_eq_div_pow] at this
    exact this
  have e3 : y ^^^ z = 0#64 := by
    apply BitVec.eq_of_toNat_eq
    show (y ^^^ z).toNat = 0
    omega
  have : (y ^^^ z) ^^^ z = 0#64 ^^^ z := by rw [e3]
  rwa [BitVec.xor_assoc, BitVec.xor_self, BitVec.xor_zero, BitVec.zero_xor] at this
theorem mul_inj {y z : BitVec 64} (h : y * 1099511628211#64 = z * 1099511628211#64) : y = z := by
  have k : (1099511628211#64 : BitVec 64) * 14886173955864302971#64 = 1#64 := by decide
  have := congrArg (· * (14886173955864302971#64 : BitVec 64)) h
  simpa only [BitVec.mul_assoc, k, BitVec.mul_one] using this
theorem mixB_xor {g h n m : BitVec 64} (e : mixB g n = mixB h m) : g ^^^ n = h ^^^ m := mul_inj (shift_inj e)
theorem mixB_inj {h n m : BitVec 64} : mixB h n = mixB h m ↔ n = m := by
  refine ⟨fun e => ?_, fun e => by rw [e]⟩
  have := congrArg (h ^^^ ·) (mixB_xor e)
  simpa only [← BitVec.xor_assoc, BitVec.xor_self, BitVec.zero_xor] using this
theorem mixB_inj' {g h n : BitVec 64} : mixB g n = mixB h n ↔ g = h := by
  refine ⟨fun e => ?_, fun e => by rw [e]⟩
  have := congrArg (· ^^^ n) (mixB_xor e)
  simpa only [BitVec.xor_assoc, BitVec.xor_self, BitVec.xor_zero] using this

/-- A step of a sum, over integers. -/
noncomputable def mixI : Int → Int → Int := hush fun h n => ((mixB (BitVec.ofInt 64 h) (BitVec.ofInt 64 n)).toNat : Int)
theorem mixI_eq (h n : Int) : mixI h n = ((mixB (BitVec.ofInt 64 h) (BitVec.ofInt 64 n)).toNat : Int) := by unfold mixI; rw [hush_eq]
theorem mixI_in (h n : Int) : InU64 (mixI h n) := by rw [mixI_eq]; exact inU64_toNat _

theorem ofInt_inj {a b : Int} (ha : In64 a) (hb : In64 b) : BitVec.ofInt 64 a = BitVec.ofInt 64 b ↔ a = b := by
  refine ⟨fun e => ?_, fun e => by rw [e]⟩
  have := congrArg BitVec.toInt e
  unfold In64 at ha hb
  rw [BitVec.toInt_ofInt, BitVec.toInt_ofInt, Int.bmod_eq_of_le (by omega) (by omega), Int.bmod_eq_of_le (by omega) (by omega)] at this
  exact this
theorem ofInt_injU {a b : Int} (ha : InU64 a) (hb : InU64 b) : BitVec.ofInt 64 a = BitVec.ofInt 64 b ↔ a = b := by
  refine ⟨fun e => ?_, fun e => by rw [e]⟩
  have := congrArg BitVec.toNat e
  unfold InU64 at ha hb
  rw [BitVec.toNat_ofInt, BitVec.toNat_ofInt] at this
  have e1 : (a % 18446744073709551616).toNat = (b % 18446744073709551616).toNat := this
  omega
theorem mixI_inj {h a b : Int} (ha : In64 a) (hb : In64 b) : mixI h a = mixI h b ↔ a = b := by
  rw [mixI_eq, mixI_eq, Int.natCast_inj, ← BitVec.toNat_eq, mixB_inj, ofInt_inj ha hb]
theorem mixI_inj' {g h n : Int} (hg : InU64 g) (hh : InU64 h) : mixI g n = mixI h n ↔ g = h := by
  rw [mixI_eq, mixI_eq, Int.natCast_inj, ← BitVec.toNat_eq, mixB_inj', ofInt_injU hg hh]
theorem mixI_wrap (h n : Int) : mixI h (IntKind.i64.wrap n) = mixI h n := by
  have : BitVec.ofInt 64 (IntKind.i64.wrap n) = BitVec.ofInt 64 n := by
    apply BitVec.eq_of_toNat_eq
    rw [BitVec.toNat_ofInt, BitVec.toNat_ofInt, wrap_i64]
    show (_ % (18446744073709551616 : Int)).toNat = (n % (18446744073709551616 : Int)).toNat
    split <;> omega
  rw [mixI_eq, mixI_eq, this]
theorem in64_wrap (n : Int) : In64 (IntKind.i64.wrap n) := by rw [wrap_i64]; unfold In64; split <;> omega
theorem in64_nat {n : Nat} (h : (n : Int) ≤ 9223372036854775807) : In64 (n : Int) := by unfold In64; omega
theorem in64_byte (x : UInt8) : In64 (x.toNat : Int) := by have := x.toNat_lt; unfold In64; omega

noncomputable def foldI : Int → List UInt8 → Int := hush fun h l => l.foldl (fun h x => mixI h (x.toNat : Int)) h
theorem foldI_eq (h : Int) (l : List UInt8) : foldI h l = l.foldl (fun h x => mixI h (x.toNat : Int)) h := by unfold foldI; rw [hush_eq]
theorem foldI_nil (h : Int) : foldI h [] = h := foldI_eq h []
theorem foldI_in {h : Int} (hh : InU64 h) (l : List UInt8) : InU64 (foldI h l) := by
  rw [foldI_eq]
  have : ∀ (l : List UInt8) (h : Int), InU64 h → InU64 (l.foldl (fun h x => mixI h (x.toNat : Int)) h) := by
    intro l
    induction l with
    | nil => intro h hh; exact hh
    | cons x l ih => intro h _; exact ih _ (mixI_in _ _)
  exact this l h hh
theorem foldI_inj (l : List UInt8) : ∀ {g h : Int}, InU64 g → InU64 h → (foldI g l = foldI h l ↔ g = h) := by
  induction l with
  | nil => intro g h _ _; rw [foldI_nil, foldI_nil]
  | cons x l ih =>
    intro g h hg hh
    have e : ∀ g, foldI g (x :: l) = foldI (mixI g (x.toNat : Int)) l := fun g => by rw [foldI_eq, foldI_eq]; rfl
    rw [e, e, ih (mixI_in _ _) (mixI_in _ _), mixI_inj' hg hh]
theorem foldI_take {h : Int} {l : List UInt8} {i : Nat} {x : UInt8} (hx : l[i]? = some x) : foldI h (l.take (i + 1)) = mixI (foldI h (l.take i)) (x.toNat : Int) := by
  rw [foldI_eq, foldI_eq, List.take_add_one, hx]
  simp
noncomputable def allI (h : Int) (l : List UInt8) : Int := mixI (foldI h l) (l.length : Int)
noncomputable def sumI : Int → List UInt8 → Int := hush fun key l => allI (mixI 14695981039346656037 key) l
noncomputable def chainI : Int → Int → List UInt8 → Int := hush fun key parent l => allI (mixI (mixI 14695981039346656037 key) parent) l
theorem sumI_eq (key : Int) (l : List UInt8) : sumI key l = allI (mixI 14695981039346656037 key) l := by unfold sumI; rw [hush_eq]
theorem chainI_eq (key parent : Int) (l : List UInt8) : chainI key parent l = allI (mixI (mixI 14695981039346656037 key) parent) l := by unfold chainI; rw [hush_eq]
theorem sumI_inj {a b : Int} (ha : In64 a) (hb : In64 b) (l : List UInt8) : sumI a l = sumI b l ↔ a = b := by
  rw [sumI_eq, sumI_eq, allI, allI, mixI_inj' (foldI_in (mixI_in _ _) _) (foldI_in (mixI_in _ _) _), foldI_inj l (mixI_in _ _) (mixI_in _ _), mixI_inj ha hb]
theorem chainI_inj {k a b : Int} (ha : InU64 a) (hb : InU64 b) (l : List UInt8) : chainI k a l = chainI k b l ↔ a = b := by
  have e : ∀ {h a b : Int}, InU64 a → InU64 b → (mixI h a = mixI h b ↔ a = b) := by
    intro h a b ha hb
    rw [mixI_eq, mixI_eq, Int.natCast_inj, ← BitVec.toNat_eq, mixB_inj, ofInt_injU ha hb]
  rw [chainI_eq, chainI_eq, allI, allI, mixI_inj' (foldI_in (mixI_in _ _) _) (foldI_in (mixI_in _ _) _), foldI_inj l (mixI_in _ _) (mixI_in _ _), e ha hb]
attribute [simp] mixI_in in64_byte mixI_wrap in64_wrap

/-! ### The functions -/
noncomputable def mixSp := fam (fun i : Int × Int => [V.int .u64 i.1, .int .i64 i.2]) (fun _ => []) (fun i => InU64 i.1 ∧ In64 i.2) (fun i => ⟨.int .u64 (mixI i.1 i.2), []⟩)
@[simp] theorem mixSp_eq {h n : Int} (h1 : InU64 h) (h2 : In64 n) : mixSp [V.int .u64 h, .int .i64 n] [] = some ⟨.int .u64 (mixI h n), []⟩ :=
  fam_eq (A := fun i : Int × Int => [V.int .u64 i.1, .int .i64 i.2]) (fun i j h _ => by simp at h; rw [h.1, h.2]) (h, n) ⟨h1, h2⟩

theorem mix_body {h n : Int} : iXor .u64 (IntKind.u64.wrap (iXor .u64 h (IntKind.u64.wrap n) * 1099511628211)) ((IntKind.u64.wrap (iXor .u64 h (IntKind.u64.wrap n) * 1099511628211)).fdiv 536870912) = mixI h n := by
  have e1 : iXor .u64 h (IntKind.u64.wrap n) = ((BitVec.ofInt 64 h ^^^ BitVec.ofInt 64 n).toNat : Int) := by rw [wrapB n, xorB, ofInt_toNat]
  rw [e1, mulB, shrB, xorB, ofInt_toNat, ofInt_toNat, mixI_eq]
  rfl

theorem mix_spec : Lift.Spec Tryz.prog 89 mixSp := by
  refine spec_fam (C := C0) types_ok C0_ok follows Tryz.func89 (by kernel_rfl) rfl (by kernel_rfl) rfl ?_
  rintro ⟨h, n⟩ _
  refine ⟨by simp, ?_⟩
  intro r hr
  simp
  rw [hr]; refine ret_closed rfl ?_ rfl
  simp [mix_body]

noncomputable def CD1 := mkC [(89, mixSp)]
theorem CD1_ok : SpecsOk Tryz.prog CD1 := mkC_ok (all_cons mix_spec all_nil)
@[simp] theorem CD1_1 : CD1 89 = mixSp := rfl

noncomputable def mixAllSp := fam (fun i : Int × Nat × List UInt8 => [V.int .u64 i.1, .sl i.2.1 1 (byteRow i.2.2)]) (fun _ => []) (fun i => InU64 i.1 ∧ (i.2.2.length : Int) ≤ 9223372036854775807) (fun i => ⟨.int .u64 (allI i.1 i.2.2), []⟩)
@[simp] theorem mixAllSp_eq {h : Int} {t : Nat} {l : List UInt8} (h1 : InU64 h) (h2 : (l.length : Int) ≤ 9223372036854775807) : mixAllSp [V.int .u64 h, .sl t 1 (byteRow l)] [] = some ⟨.int .u64 (allI h l), []⟩ :=
  fam_eq (A := fun i : Int × Nat × List UInt8 => [V.int .u64 i.1, .sl i.2.1 1 (byteRow i.2.2)]) (fun i j h _ => by simp at h; rw [h.1, h.2.2]) (h, t, l) ⟨h1, h2⟩

noncomputable def mxSt (h : Int) (t : Nat) (l : List UInt8) (i : Nat) : St :=
  mkSt [(0, .int .u64 (foldI h (l.take i))), (1, .sl t 1 (byteRow l)), (7, .sl t 1 (byteRow l)), (8, .int .i64 l.length), (9, .int .i64 i)] [] 0

theorem mixAll_spec : Lift.Spec Tryz.prog 88 mixAllSp := by
  refine spec_fam (C := CD1) types_ok CD1_ok follows Tryz.func88 (by kernel_rfl) rfl (by kernel_rfl) rfl ?_
  rintro ⟨h, t, l⟩ ⟨hh, hl⟩
  simp only at hh hl
  refine ⟨by simp, ?_⟩
  intro r hr
  simp
  refine axwp_loop (mxSt h t l) (fun i => i ≤ l.length) (fun i => l.length - i) 0 ?_ (Nat.zero_le _) ?_
  · refine weak_mk id ?_ ?_ ?_ ?_ <;> simp [foldI_nil]
  · intro i hi
    have hin := foldI_in hh (l.take i)
    by_cases hik : i < l.length
    · obtain ⟨x, hx, hx'⟩ : ∃ x, l[i]? = some x ∧ l[i] = x := ⟨_, List.getElem?_eq_getElem hik, rfl⟩
      have w0 : IntKind.i64.wrap (x.toNat : Int) = (x.toNat : Int) := by have := x.toNat_lt; exact wrap_i64_in (by omega) (by omega)
      have w4 : IntKind.i64.wrap ((i : Int) + 1) = (i : Int) + 1 := wrap_i64_in (by omega) (by omega)
      simp [mxSt, hik, hx', w0, w4, hin]
      refine Again.mk (i + 1) ?_ ?_ ?_
      · exact hik
      · omega
      · refine weak_mk id ?_ ?_ ?_ ?_ <;> simp [foldI_take hx]
    · have e : i = l.length := by omega
      subst e
      rw [List.take_length] at hin
      simp [mxSt, hin, in64_nat hl]
      rw [hr]; refine ret_closed rfl ?_ rfl
      simp [allI]

noncomputable def CD2 := mkC [(89, mixSp), (88, mixAllSp)]
theorem CD2_ok : SpecsOk Tryz.prog CD2 := mkC_ok (all_cons mix_spec (all_cons mixAll_spec all_nil))
@[simp] theorem CD2_1 : CD2 89 = mixSp := rfl
@[simp] theorem CD2_2 : CD2 88 = mixAllSp := rfl

noncomputable def sumSp := fam (fun i : Int × Nat × List UInt8 => [V.int .i64 i.1, .sl i.2.1 1 (byteRow i.2.2)]) (fun _ => []) (fun i => In64 i.1 ∧ (i.2.2.length : Int) ≤ 9223372036854775807) (fun i => ⟨.int .u64 (sumI i.1 i.2.2), []⟩)
@[simp] theorem sumSp_eq {h : Int} {t : Nat} {l : List UInt8} (h1 : In64 h) (h2 : (l.length : Int) ≤ 9223372036854775807) : sumSp [V.int .i64 h, .sl t 1 (byteRow l)] [] = some ⟨.int .u64 (sumI h l), []⟩ :=
  fam_eq (A := fun i : Int × Nat × List UInt8 => [V.int .i64 i.1, .sl i.2.1 1 (byteRow i.2.2)]) (fun i j h _ => by simp at h; rw [h.1, h.2.2]) (h, t, l) ⟨h1, h2⟩
noncomputable def chainSp := fam (fun i : Int × Int × Nat × List UInt8 => [V.int .i64 i.1, .int .u64 i.2.1, .sl i.2.2.1 1 (byteRow i.2.2.2)]) (fun _ => []) (fun i => In64 i.1 ∧ InU64 i.2.1 ∧ (i.2.2.2.length : Int) ≤ 9223372036854775807) (fun i => ⟨.int .u64 (chainI i.1 i.2.1 i.2.2.2), []⟩)
@[simp] theorem chainSp_eq {h p : Int} {t : Nat} {l : List UInt8} (h1 : In64 h) (hp : InU64 p) (h2 : (l.length : Int) ≤ 9223372036854775807) : chainSp [V.int .i64 h, .int .u64 p, .sl t 1 (byteRow l)] [] = some ⟨.int .u64 (chainI h p l), []⟩ :=
  fam_eq (A := fun i : Int × Int × Nat × List UInt8 => [V.int .i64 i.1, .int .u64 i.2.1, .sl i.2.2.1 1 (byteRow i.2.2.2)]) (fun i j h _ => by simp at h; rw [h.1, h.2.1, h.2.2.2]) (h, p, t, l) ⟨h1, hp, h2⟩
theorem sumSp_nil {h : Int} {t : Nat} (h1 : In64 h) : sumSp [V.int .i64 h, .sl t 1 []] [] = some ⟨.int .u64 (sumI h []), []⟩ := sumSp_eq (l := []) h1 (by simp)

theorem basis_in : InU64 14695981039346656037 := by unfold InU64; omega

theorem sum_spec : Lift.Spec Tryz.prog 73 sumSp := by
  refine spec_fam (C := CD2) types_ok CD2_ok follows Tryz.func73 (by kernel_rfl) rfl (by kernel_rfl) rfl ?_
  rintro ⟨h, t, l⟩ ⟨hh, hl⟩
  simp only at hh hl
  refine ⟨by simp, ?_⟩
  intro r hr
  simp [hh, hl, basis_in]
  rw [hr]; refine ret_closed rfl ?_ rfl
  simp [sumI_eq]

theorem mix00 : mixI 0 0 = 0 := by rw [mixI_eq]; decide
theorem mix55 : mixI 5 5 = 0 := by rw [mixI_eq]; decide
theorem mix01 : ¬ mixI 0 1 = 0 := by rw [mixI_eq]; decide
theorem in0 : In64 0 := by unfold In64; omega
theorem in1 : In64 1 := by unfold In64; omega
theorem in5 : In64 5 := by unfold In64; omega
theorem inu0 : InU64 0 := by unfold InU64; omega
theorem inu5 : InU64 5 := by unfold InU64; omega
theorem sum01 : ¬ sumI 0 [] = sumI 1 [] := by rw [sumI_inj in0 in1]; decide

noncomputable def CD3 := mkC [(89, mixSp), (73, sumSp)]
theorem CD3_ok : SpecsOk Tryz.prog CD3 := mkC_ok (all_cons mix_spec (all_cons sum_spec all_nil))
@[simp] theorem CD3_1 : CD3 89 = mixSp := rfl
@[simp] theorem CD3_2 : CD3 73 = sumSp := rfl

noncomputable def trueSp := fam (fun _ : Unit => ([] : List V)) (fun _ => []) (fun _ => True) (fun _ => ⟨.bool true, []⟩)
@[simp] theorem trueSp_eq : trueSp [] [] = some ⟨.bool true, []⟩ := fam_eq (A := fun _ : Unit => ([] : List V)) (fun _ _ _ _ => rfl) () trivial

end Go.Proofs.YtlelalnahlpcpaaGreat

/-
  digest: the reference's functions, and the laws over them.
-/
namespace Go.Proofs.YtlelalnahlpcpaaGreat
open Go.Lift

theorem refmix_spec : Lift.Spec Tryz.prog 83 mixSp := by
  refine spec_fam (C := C0) types_ok C0_ok follows Tryz.func83 (by kernel_rfl) rfl (by kernel_rfl) rfl ?_
  rintro ⟨h, n⟩ _
  refine ⟨by simp, ?_⟩
  intro r hr
  simp
  rw [hr]; refine ret_closed rfl ?_ rfl
  simp [mix_body]

noncomputable def CD4 := mkC [(83, mixSp)]
theorem CD4_ok : SpecsOk Tryz.prog CD4 := mkC_ok (all_cons refmix_spec all_nil)
@[simp] theorem CD4_1 : CD4 83 = mixSp := rfl

noncomputable def rxSt (h : Int) (t : Nat) (l : List UInt8) (i : Nat) : St :=
  mkSt [(0, .int .u64 (foldI h (l.take i))), (1, .sl t 1 (byteRow l)), (5, .int .i64 i)] [] 0

theorem refall_spec : Lift.Spec Tryz.prog 82 mixAllSp := by
  refine spec_fam (C := CD4) types_ok CD4_ok follows Tryz.func82 (by kernel_rfl) rfl (by kernel_rfl) rfl ?_
  rintro ⟨h, t, l⟩ ⟨hh, hl⟩
  simp only at hh hl
  refine ⟨by simp, ?_⟩
  intro r hr
  simp
  refine axwp_loop (rxSt h t l) (fun i => i ≤ l.length) (fun i => l.length - i) 0 ?_ (Nat.zero_le _) ?_
  · refine weak_mk id ?_ ?_ ?_ ?_ <;> simp [foldI_nil]
  · intro i hi
    have hin := foldI_in hh (l.take i)
    by_cases hik : i < l.length
    · obtain ⟨x, hx, hx'⟩ : ∃ x, l[i]? = some x ∧ l[i] = x := ⟨_, List.getElem?_eq_getElem hik, rfl⟩
      have w0 : IntKind.i64.wrap (x.toNat : Int) = (x.toNat : Int) := by have := x.toNat_lt; exact wrap_i64_in (by omega) (by omega)
      have w4 : IntKind.i64.wrap ((i : Int) + 1) = (i : Int) + 1 := wrap_i64_in (by omega) (by omega)
      simp [rxSt, hik, hx', w0, w4, hin]
      refine Again.mk (i + 1) ?_ ?_ ?_
      · exact hik
      · omega
      · refine weak_mk id ?_ ?_ ?_ ?_ <;> simp [foldI_take hx]
    · have e : i = l.length := by omega
      subst e
      rw [List.take_length] at hin
      simp [rxSt, hin, in64_nat hl]
      rw [hr]; refine ret_closed rfl ?_ rfl
      simp [allI]

noncomputable def CD5 := mkC [(83, mixSp), (82, mixAllSp)]
theorem CD5_ok : SpecsOk Tryz.prog CD5 := mkC_ok (all_cons refmix_spec (all_cons refall_spec all_nil))
@[simp] theorem CD5_1 : CD5 83 = mixSp := rfl
@[simp] theorem CD5_2 : CD5 82 = mixAllSp := rfl

theorem refsum_spec : Lift.Spec Tryz.prog 68 sumSp := by
  refine spec_fam (C := CD5) types_ok CD5_ok follows Tryz.func68 (by kernel_rfl) rfl (by kernel_rfl) rfl ?_
  rintro ⟨h, t, l⟩ ⟨hh, hl⟩
  simp only at hh hl
  refine ⟨by simp, ?_⟩
  intro r hr
  simp [hh, hl, basis_in]
  rw [hr]; refine ret_closed rfl ?_ rfl
  simp [sumI_eq]

noncomputable def CD6 := mkC [(89, mixSp), (73, sumSp), (83, mixSp), (68, sumSp)]
theorem CD6_ok : SpecsOk Tryz.prog CD6 := mkC_ok (all_cons mix_spec (all_cons sum_spec (all_cons refmix_spec (all_cons refsum_spec all_nil))))
@[simp] theorem CD6_1 : CD6 89 = mixSp := rfl
@[simp] theorem CD6_2 : CD6 73 = sumSp := rfl
@[simp] theorem CD6_3 : CD6 83 = mixSp := rfl
@[simp] theorem CD6_4 : CD6 68 = sumSp := rfl

end Go.Proofs.YtlelalnahlpcpaaGreat

/-
  digest: the laws without the reference.
-/
namespace Go.Proofs.YtlelalnahlpcpaaGreat
open Go.Lift

noncomputable def fewSp := fam (fun n : Int => [V.int .i64 n]) (fun _ => []) (fun _ => True) (fun n => ⟨.bool (decide (n ≤ 300)), []⟩)
@[simp] theorem fewSp_eq {n : Int} : fewSp [V.int .i64 n] [] = some ⟨.bool (decide (n ≤ 300)), []⟩ :=
  fam_eq (A := fun n : Int => [V.int .i64 n]) (fun i j h _ => by simp at h; rw [h]) n trivial
noncomputable def CE := mkC [(89, mixSp), (73, sumSp)]
theorem CE_ok : SpecsOk Tryz.prog CE := mkC_ok (all_cons mix_spec (all_cons sum_spec all_nil))
@[simp] theorem CE_1 : CE 89 = mixSp := rfl
@[simp] theorem CE_2 : CE 73 = sumSp := rfl

noncomputable def stepSt (k : Int) (l : List UInt8) (i : Nat) : St :=
  mkSt [(0, .int .i64 k), (1, .sl 2 1 (byteRow l)), (5, .int .u64 (foldI (mixI 14695981039346656037 k) (l.take i))), (6, .int .i64 i)] [] 0

noncomputable def chainSt (k p q : Int) (l : List UInt8) (i : Nat) : St :=
  mkSt [(0, .int .i64 k), (1, .int .u64 p), (2, .int .u64 q), (3, .sl 2 1 (byteRow l)), (9, .int .u64 (foldI (mixI (mixI 14695981039346656037 k) p) (l.take i))), (10, .int .i64 i)] [] 0

end Go.Proofs.YtlelalnahlpcpaaGreat

/-
  digest: the laws with a copy.
-/
namespace Go.Proofs.YtlelalnahlpcpaaGreat
open Go.Lift

theorem wrapIx {a n : Int} (hn : 0 < n) (hm : n ≤ 140737488355328) : ∃ k : Nat, (IntKind.i64.wrap (a.tmod n + n)).tmod n = (k : Int) ∧ (k : Int) < n := by
  have h1 := Int.tmod_lt_of_pos a hn
  have h2 := Int.lt_tmod_of_pos a hn
  rw [wrap_i64_in (by omega) (by omega)]
  have h3 : 0 ≤ (a.tmod n + n).tmod n := Int.tmod_nonneg _ (by omega)
  have h4 := Int.tmod_lt_of_pos (a.tmod n + n) hn
  exact ⟨((a.tmod n + n).tmod n).toNat, by omega, by omega⟩
theorem byteRow_set (l : List UInt8) (k : Nat) (x : UInt8) : (byteRow l).set k [V.int .u8 x.toNat] = byteRow (l.set k x) := by
  simp [byteRow, List.map_set]

theorem sum_set {k : Int} {l : List UInt8} {i : Nat} {x y : UInt8} (hy : l[i]? = some y) : sumI k l = sumI k (l.set i x) ↔ y = x := by
  have hi : i < l.length := (List.getElem?_eq_some_iff.1 hy).1
  have e1 : l = l.take i ++ y :: l.drop (i + 1) := by
    have : l[i] = y := (List.getElem?_eq_some_iff.1 hy).2
    rw [← this, ← List.drop_eq_getElem_cons hi, List.take_append_drop]
  have e2 : l.set i x = l.take i ++ x :: l.drop (i + 1) := by rw [List.set_eq_take_append_cons_drop, if_pos hi]
  have key : ∀ (h : Int) (a b : List UInt8) (c : UInt8), foldI h (a ++ c :: b) = foldI (mixI (foldI h a) (c.toNat : Int)) b := by
    intro h a b c
    rw [foldI_eq, foldI_eq, foldI_eq, List.foldl_append]; rfl
  rw [sumI_eq, sumI_eq, allI, allI, List.length_set, mixI_inj' (foldI_in (mixI_in _ _) _) (foldI_in (mixI_in _ _) _), e2]
  generalize mixI 14695981039346656037 k = h
  have : foldI h l = foldI (mixI (foldI h (l.take i)) (y.toNat : Int)) (l.drop (i + 1)) := by rw [← key, ← e1]
  rw [this, key, foldI_inj _ (mixI_in _ _) (mixI_in _ _), mixI_inj (in64_byte _) (in64_byte _), Int.natCast_inj, ← UInt8.toNat_inj]

end Go.Proofs.YtlelalnahlpcpaaGreat

