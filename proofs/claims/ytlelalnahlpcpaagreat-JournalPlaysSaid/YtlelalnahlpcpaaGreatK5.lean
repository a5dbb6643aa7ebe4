/-
  journal: what a journal is; the reference.
-/
import Derived.Test.YtlelalnahlpcpaaGreatK2
import Derived.Test.YtlelalnahlpcpaaGreatPF1
import Derived.Test.YtlelalnahlpcpaaGreatE6
set_option linter.unusedSimpArgs false
set_option linter.unusedVariables false
namespace Go.Proofs.YtlelalnahlpcpaaGreat
open Go.Lift

/-- A journal: its disk's bytes, how many of them are durable, its term, its vote, its log. -/
structure JN where
  b : List UInt8
  d : Nat
  term : Int
  vote : Int
  log : List GLogged
def stE (J : JN) (t v : Int) : Int := if t < 0 ∨ 1073741824 < t ∨ v < -1 ∨ 5 ≤ v then 1 else if t < J.term ∨ t = J.term ∧ J.vote ≠ -1 ∧ J.vote ≠ v then 20 else 0
def stJ (J : JN) (t v : Int) : JN := if stE J t v = 0 then { J with term := t, vote := v } else J
def logAt (l : List GLogged) (i : Int) : GLogged := if 0 ≤ i ∧ i < l.length then l.getD i.toNat ⟨0, ⟨0, 0, 0, 0, 0, 0, 0, 0, 0⟩⟩ else ⟨0, ⟨0, 0, 0, 0, 0, 0, 0, 0, 0⟩⟩
def lastT (l : List GLogged) : Int := (logAt l ((l.length : Int) - 1)).Term
def adE (J : JN) (t : Int) (e : GEntry) : Int := if t < 1 ∨ 1073741824 < t ∨ shapeE e = false then 1 else if J.term < t ∨ t < lastT J.log then 20 else if 4096 ≤ J.log.length then 2 else 0
def adJ (J : JN) (t : Int) (e : GEntry) : JN := if adE J t e = 0 then { J with log := J.log ++ [⟨t, e⟩] } else J
def cuE (J : JN) (n : Int) : Int := if n < 0 ∨ (J.log.length : Int) < n then 1 else 0
def cuJ (J : JN) (n : Int) : JN := if cuE J n = 0 then { J with log := J.log.take n.toNat } else J

/-- The reference's journal. -/
def rjO (J : JN) : AObj := ⟨39, 4, [[.tree false 47 2 [[.sl 2 1 (byteRow J.b), .int .i64 J.d]] true 1, .int .i64 J.term, .int .i64 J.vote, .sl 2 10 (GLogged.row J.log)]], true, 0, .rw⟩
@[simp] theorem rjO_inj {J K : JN} : rjO J = rjO K ↔ J = K := by
  constructor
  · intro h
    obtain ⟨b, d, t, v, l⟩ := J
    obtain ⟨b', d', t', v', l'⟩ := K
    simp [rjO] at h
    simp [h]
    omega
  · rintro rfl; rfl
@[simp] theorem rj_elems (J : JN) : (rjO J).elems = [[.tree false 47 2 [[.sl 2 1 (byteRow J.b), .int .i64 J.d]] true 1, .int .i64 J.term, .int .i64 J.vote, .sl 2 10 (GLogged.row J.log)]] := rfl
@[simp] theorem rj_et (J : JN) : (rjO J).et = 39 := rfl
@[simp] theorem rj_es (J : JN) : (rjO J).es = 4 := rfl
@[simp] theorem rj_tight (J : JN) : (rjO J).tight = true := rfl
@[simp] theorem rj_md (J : JN) : (rjO J).md = .rw := rfl
@[simp] theorem rj_fl (J : JN) : (rjO J).fl = 0 := rfl
@[simp] theorem rj_fold (b : List UInt8) (d : Nat) (t v : Int) (l : List GLogged) : (⟨39, 4, [[.tree false 47 2 [[.sl 2 1 (byteRow b), .int .i64 d]] true 1, .int .i64 t, .int .i64 v, .sl 2 10 (GLogged.row l)]], true, 0, .rw⟩ : AObj) = rjO ⟨b, d, t, v, l⟩ := rfl
@[simp] theorem rj_foldn (b : List UInt8) (d : Nat) (t v : Int) : (⟨39, 4, [[.tree false 47 2 [[.sl 2 1 (byteRow b), .int .i64 d]] true 1, .int .i64 t, .int .i64 v, .sl 2 10 []]], true, 0, .rw⟩ : AObj) = rjO ⟨b, d, t, v, []⟩ := rfl
@[simp] theorem rj_foldz (t v : Int) : (⟨39, 4, [[.tree false 47 2 [[.sl 2 1 [], .int .i64 0]] true 1, .int .i64 t, .int .i64 v, .sl 2 10 []]], true, 0, .rw⟩ : AObj) = rjO ⟨[], 0, t, v, []⟩ := rfl
@[simp] theorem rj_shut (J : JN) : nameless (rjO J) = true := by simp [nameless]
@[simp] theorem rj_names (J : JN) (f : Nat → Nat) : (rjO J).ren f = rjO J := AObj.ren_nl (rj_shut J)
@[simp] theorem rj_within (J : JN) (D : Nat → Bool) : (rjO J).within D = true := by simp
@[simp] theorem rj_scalar (J : JN) : scalarO (rjO J) = false := by simp [scalarO]

noncomputable def jrSetSp := fam (fun i : JN × Int × Int => [V.ptr 0 0 0, .int .i64 i.2.1, .int .i64 i.2.2]) (fun i : JN × Int × Int => [rjO i.1]) (fun _ : JN × Int × Int => True) (fun i : JN × Int × Int => ⟨.int .i64 (stE i.1 i.2.1 i.2.2), [rjO (stJ i.1 i.2.1 i.2.2)]⟩)
@[simp] theorem jrSetSp_eq {J : JN} {t : Int} {v : Int}  : jrSetSp ([V.ptr 0 0 0, .int .i64 t, .int .i64 v]) ([rjO J]) = some (⟨.int .i64 (stE J t v), [rjO (stJ J t v)]⟩) :=
  fam_eq (A := fun i : JN × Int × Int => [V.ptr 0 0 0, .int .i64 i.2.1, .int .i64 i.2.2]) (O := fun i : JN × Int × Int => [rjO i.1]) (res := fun i : JN × Int × Int => ⟨.int .i64 (stE i.1 i.2.1 i.2.2), [rjO (stJ i.1 i.2.1 i.2.2)]⟩) (by rintro ⟨a0, a1, a2⟩ ⟨b0, b1, b2⟩ h h' <;> simp at h h' <;> simp_all) (J, t, v) trivial

theorem jrSet_spec : Lift.Spec Tryz.prog 32 jrSetSp := by
  refine spec_famO [] (C := C0) types_ok C0_ok follows Tryz.func32 (by kernel_rfl) rfl (by kernel_rfl) rfl ?_
  rintro ⟨J, t, v⟩ _
  refine ⟨by simp, ?_⟩
  intro r hr
  by_cases h1 : t < 0
  · have e : stE J t v = 1 := by unfold stE; (repeat' split) <;> omega
    simp [h1]
    rw [hr]
    refine retC [] [] [] rfl ?_
    simp [e, stJ]
  by_cases h2 : 1073741824 < t
  · have e : stE J t v = 1 := by unfold stE; (repeat' split) <;> omega
    simp [h1, h2]
    rw [hr]
    refine retC [] [] [] rfl ?_
    simp [e, stJ]
  by_cases h3 : v < -1
  · have e : stE J t v = 1 := by unfold stE; (repeat' split) <;> omega
    simp [h1, h2, h3]
    rw [hr]
    refine retC [] [] [] rfl ?_
    simp [e, stJ]
  by_cases h4 : 5 ≤ v
  · have e : stE J t v = 1 := by unfold stE; (repeat' split) <;> omega
    simp [h1, h2, h3, h4]
    rw [hr]
    refine retC [] [] [] rfl ?_
    simp [e, stJ]
  by_cases h5 : t < J.term
  · have e : stE J t v = 20 := by unfold stE; (repeat' split) <;> omega
    simp [h1, h2, h3, h4, h5]
    rw [hr]
    refine retC [] [] [] rfl ?_
    simp [e, stJ]
  by_cases h6 : t = J.term
  · by_cases h7 : J.vote = -1
    · have e : stE J t v = 0 := by unfold stE; (repeat' split) <;> omega
      simp [h1, h2, h3, h4, h5, eq_true h6, h7]
      rw [hr]
      refine retC [] [] [] rfl ?_
      simp [e, stJ]
    · by_cases h8 : J.vote = v
      · have e : stE J t v = 0 := by unfold stE; (repeat' split) <;> omega
        simp [h1, h2, h3, h4, h5, eq_true h6, eq_false h7, eq_true h8]
        rw [hr]
        refine retC [] [] [] rfl ?_
        simp [e, stJ]
      · have e : stE J t v = 20 := by unfold stE; (repeat' split) <;> omega
        simp [h1, h2, h3, h4, h5, eq_true h6, h7, h8]
        rw [hr]
        refine retC [] [] [] rfl ?_
        simp [e, stJ]
  · have e : stE J t v = 0 := by unfold stE; (repeat' split) <;> omega
    simp [h1, h2, h3, h4, h5, h6]
    rw [hr]
    refine retC [] [] [] rfl ?_
    simp [e, stJ]

@[simp] theorem logAt_neg (l : List GLogged) {i : Int} (h : i < 0) : logAt l i = ⟨0, ⟨0, 0, 0, 0, 0, 0, 0, 0, 0⟩⟩ := by unfold logAt; rw [if_neg (by omega)]
@[simp] theorem logAt_ge (l : List GLogged) {i : Int} (h : (l.length : Int) ≤ i) : logAt l i = ⟨0, ⟨0, 0, 0, 0, 0, 0, 0, 0, 0⟩⟩ := by unfold logAt; rw [if_neg (by omega)]
theorem logAt_get {l : List GLogged} {k : Nat} {x : GLogged} (h : l[k]? = some x) : logAt l (k : Int) = x := by
  have hlt := (List.getElem?_eq_some_iff.1 h).1
  unfold logAt
  rw [if_pos (by omega)]
  simp [h]
def hasAt (l : List GLogged) (i : Int) : Bool := decide (0 ≤ i ∧ i < l.length)

noncomputable def jrAtSp := fam (fun i : JN × Int => [V.ptr 0 0 0, .int .i64 i.2]) (fun i : JN × Int => [rjO i.1]) (fun _ : JN × Int => True) (fun i : JN × Int => ⟨.tup [vLogged (logAt i.1.log i.2), .bool (hasAt i.1.log i.2)], [rjO i.1]⟩)
@[simp] theorem jrAtSp_eq {J : JN} {i : Int}  : jrAtSp ([V.ptr 0 0 0, .int .i64 i]) ([rjO J]) = some (⟨.tup [vLogged (logAt J.log i), .bool (hasAt J.log i)], [rjO J]⟩) :=
  fam_eq (A := fun i : JN × Int => [V.ptr 0 0 0, .int .i64 i.2]) (O := fun i : JN × Int => [rjO i.1]) (res := fun i : JN × Int => ⟨.tup [vLogged (logAt i.1.log i.2), .bool (hasAt i.1.log i.2)], [rjO i.1]⟩) (by rintro ⟨a0, a1⟩ ⟨b0, b1⟩ h h' <;> simp at h h' <;> simp_all) (J, i) trivial

theorem jrAt_spec : Lift.Spec Tryz.prog 45 jrAtSp := by
  refine spec_famO [] (C := C0) types_ok C0_ok follows Tryz.func45 (by kernel_rfl) rfl (by kernel_rfl) rfl ?_
  rintro ⟨J, i⟩ _
  refine ⟨by simp, ?_⟩
  intro r hr
  by_cases h1 : i < 0
  · simp [h1]
    rw [hr]
    refine retC [] [] [] rfl ?_
    have e : hasAt J.log i = false := by simp [hasAt]; omega
    simp [h1, e, vLogged, GLogged.cells]
  by_cases h2 : (J.log.length : Int) ≤ i
  · simp [h1, h2]
    rw [hr]
    refine retC [] [] [] rfl ?_
    have e : hasAt J.log i = false := by simp [hasAt]; omega
    simp [h2, e, vLogged, GLogged.cells]
  obtain ⟨k, rfl⟩ := Int.eq_ofNat_of_zero_le (show 0 ≤ i by omega)
  have hk : k < J.log.length := by omega
  obtain ⟨x, hx, hx', _⟩ := get_of_lt hk
  have e : hasAt J.log k = true := by simp [hasAt]; omega
  simp [h1, h2, hk, hx', GLogged.cells]
  rw [hr]
  refine retC [] [] [] rfl ?_
  simp [e, logAt_get hx, vLogged, GLogged.cells]

noncomputable def CK5 := mkC [(45, jrAtSp)]
theorem CK5_ok : SpecsOk Tryz.prog CK5 := mkC_ok (all_cons jrAt_spec all_nil)
@[simp] theorem CK5_1 : CK5 45 = jrAtSp := rfl

noncomputable def jrTermAtSp := fam (fun i : JN × Int => [V.ptr 0 0 0, .int .i64 i.2]) (fun i : JN × Int => [rjO i.1]) (fun _ : JN × Int => True) (fun i : JN × Int => ⟨.int .i64 (logAt i.1.log i.2).Term, [rjO i.1]⟩)
@[simp] theorem jrTermAtSp_eq {J : JN} {i : Int}  : jrTermAtSp ([V.ptr 0 0 0, .int .i64 i]) ([rjO J]) = some (⟨.int .i64 (logAt J.log i).Term, [rjO J]⟩) :=
  fam_eq (A := fun i : JN × Int => [V.ptr 0 0 0, .int .i64 i.2]) (O := fun i : JN × Int => [rjO i.1]) (res := fun i : JN × Int => ⟨.int .i64 (logAt i.1.log i.2).Term, [rjO i.1]⟩) (by rintro ⟨a0, a1⟩ ⟨b0, b1⟩ h h' <;> simp at h h' <;> simp_all) (J, i) trivial

theorem jrTermAt_spec : Lift.Spec Tryz.prog 70 jrTermAtSp := by
  refine spec_famO [] (C := CK5) types_ok CK5_ok follows Tryz.func70 (by kernel_rfl) rfl (by kernel_rfl) rfl ?_
  rintro ⟨J, i⟩ _
  refine ⟨by simp, ?_⟩
  intro r hr
  simp [GLogged.cells]
  rw [hr]
  refine retC [] [] [] rfl ?_
  simp [GLogged.cells]
noncomputable def CK6 := mkC [(70, jrTermAtSp)]
theorem CK6_ok : SpecsOk Tryz.prog CK6 := mkC_ok (all_cons jrTermAt_spec all_nil)
@[simp] theorem CK6_1 : CK6 70 = jrTermAtSp := rfl

noncomputable def jrLastSp := fam (fun _ : JN => [V.ptr 0 0 0]) (fun i : JN => [rjO i]) (fun i : JN => (i.log.length ≤ 4611686018427387904)) (fun i : JN => ⟨.int .i64 (lastT i.log), [rjO i]⟩)
@[simp] theorem jrLastSp_eq {J : JN} (h1 : J.log.length ≤ 4611686018427387904) : jrLastSp ([V.ptr 0 0 0]) ([rjO J]) = some (⟨.int .i64 (lastT J.log), [rjO J]⟩) :=
  fam_eq (A := fun _ : JN => [V.ptr 0 0 0]) (O := fun i : JN => [rjO i]) (res := fun i : JN => ⟨.int .i64 (lastT i.log), [rjO i]⟩) (by intro a b h h' <;> simp at h h' <;> simp_all) J h1

theorem jrLast_spec : Lift.Spec Tryz.prog 57 jrLastSp := by
  refine spec_famO [] (C := CK6) types_ok CK6_ok follows Tryz.func57 (by kernel_rfl) rfl (by kernel_rfl) rfl ?_
  rintro J h1
  try simp only at h1
  refine ⟨by simp, ?_⟩
  intro r hr
  have w1 : IntKind.i64.wrap ((J.log.length : Int) - 1) = J.log.length - 1 := wrap_i64_in (by omega) (by omega)
  simp [w1]
  rw [hr]
  refine retC [] [] [] rfl ?_
  simp [lastT]

noncomputable def jrCutSp := fam (fun i : JN × Int => [V.ptr 0 0 0, .int .i64 i.2]) (fun i : JN × Int => [rjO i.1]) (fun i : JN × Int => (i.1.log.length ≤ 1000000000)) (fun i : JN × Int => ⟨.int .i64 (cuE i.1 i.2), [rjO (cuJ i.1 i.2)]⟩)
@[simp] theorem jrCutSp_eq {J : JN} {n : Int} (h1 : J.log.length ≤ 1000000000) : jrCutSp ([V.ptr 0 0 0, .int .i64 n]) ([rjO J]) = some (⟨.int .i64 (cuE J n), [rjO (cuJ J n)]⟩) :=
  fam_eq (A := fun i : JN × Int => [V.ptr 0 0 0, .int .i64 i.2]) (O := fun i : JN × Int => [rjO i.1]) (res := fun i : JN × Int => ⟨.int .i64 (cuE i.1 i.2), [rjO (cuJ i.1 i.2)]⟩) (by rintro ⟨a0, a1⟩ ⟨b0, b1⟩ h h' <;> simp at h h' <;> simp_all) (J, n) h1

theorem jrCut_spec : Lift.Spec Tryz.prog 37 jrCutSp := by
  refine spec_famO [] (C := C0) types_ok C0_ok follows Tryz.func37 (by kernel_rfl) rfl (by kernel_rfl) rfl ?_
  rintro ⟨J, n⟩ h0
  try simp only at h0
  refine ⟨by simp, ?_⟩
  intro r hr
  by_cases h1 : n < 0
  · simp [h1]
    rw [hr]
    refine retC [] [] [] rfl ?_
    simp [cuE, cuJ, h1]
  by_cases h2 : (J.log.length : Int) < n
  · simp [h1, h2]
    rw [hr]
    refine retC [] [] [] rfl ?_
    simp [cuE, cuJ, h1, h2]
  obtain ⟨k, rfl⟩ := Int.eq_ofNat_of_zero_le (show 0 ≤ n by omega)
  have hk : k ≤ J.log.length := by omega
  have h3 : min k J.log.length = k := by omega
  have h4 : (k : Int) * 80 ≤ 140737488355328 := by omega
  have h5 : (k : Int) ≤ 140737488355328 := by omega
  simp [h1, h2, hk, h3, h4, h5]
  rw [hr]
  refine retE [.inr 24] [] [] [] [] rfl ?_
  simp [cuE, cuJ, h1, h2, h3, List.take_take]

noncomputable def CK7 := mkC [(57, jrLastSp), (56, shapeSp)]
theorem CK7_ok : SpecsOk Tryz.prog CK7 := mkC_ok (all_cons jrLast_spec (all_cons refshape_spec all_nil))
@[simp] theorem CK7_1 : CK7 57 = jrLastSp := rfl
@[simp] theorem CK7_2 : CK7 56 = shapeSp := rfl

noncomputable def jrAddSp := fam (fun i : JN × Int × GEntry => [V.ptr 0 0 0, .int .i64 i.2.1, vEntry i.2.2]) (fun i : JN × Int × GEntry => [rjO i.1]) (fun i : JN × Int × GEntry => (i.1.log.length ≤ 1000000000)) (fun i : JN × Int × GEntry => ⟨.int .i64 (adE i.1 i.2.1 i.2.2), [rjO (adJ i.1 i.2.1 i.2.2)]⟩)
@[simp] theorem jrAddSp_eq {J : JN} {t : Int} {e : GEntry} (h1 : J.log.length ≤ 1000000000) : jrAddSp ([V.ptr 0 0 0, .int .i64 t, vEntry e]) ([rjO J]) = some (⟨.int .i64 (adE J t e), [rjO (adJ J t e)]⟩) :=
  fam_eq (A := fun i : JN × Int × GEntry => [V.ptr 0 0 0, .int .i64 i.2.1, vEntry i.2.2]) (O := fun i : JN × Int × GEntry => [rjO i.1]) (res := fun i : JN × Int × GEntry => ⟨.int .i64 (adE i.1 i.2.1 i.2.2), [rjO (adJ i.1 i.2.1 i.2.2)]⟩) (by rintro ⟨a0, a1, a2⟩ ⟨b0, b1, b2⟩ h h' <;> simp at h h' <;> simp_all) (J, t, e) h1

theorem jrAdd_spec : Lift.Spec Tryz.prog 35 jrAddSp := by
  refine spec_famO [] (C := CK7) types_ok CK7_ok follows Tryz.func35 (by kernel_rfl) rfl (by kernel_rfl) rfl ?_
  rintro ⟨J, t, e⟩ h0
  try simp only at h0
  refine ⟨by simp, ?_⟩
  intro r hr
  have h9 : J.log.length ≤ 4611686018427387904 := by omega
  by_cases h1 : t < 1
  · have c : adE J t e = 1 := by unfold adE; rw [if_pos (.inl h1)]
    simp [h1, h9, GEntry.cells]
    rw [hr]
    refine retC [] [] [] rfl ?_
    simp [c, adJ]
  by_cases h2 : 1073741824 < t
  · have c : adE J t e = 1 := by unfold adE; rw [if_pos (.inr (.inl h2))]
    simp [h1, h2, h9, GEntry.cells]
    rw [hr]
    refine retC [] [] [] rfl ?_
    simp [c, adJ]
  cases h3 : shapeE e with
  | false =>
    have c : adE J t e = 1 := by unfold adE; rw [if_pos (.inr (.inr h3))]
    simp [h1, h2, h3, h9, GEntry.cells, vEntry_fold]
    rw [hr]
    refine retC [] [] [] rfl ?_
    simp [c, adJ]
  | true =>
    have hn : ¬ (t < 1 ∨ 1073741824 < t ∨ shapeE e = false) := by rw [h3]; simp; omega
    by_cases h4 : J.term < t
    · have c : adE J t e = 20 := by unfold adE; rw [if_neg hn, if_pos (.inl h4)]
      simp [h1, h2, h3, h4, h9, GEntry.cells, vEntry_fold]
      rw [hr]
      refine retC [] [] [] rfl ?_
      simp [c, adJ]
    by_cases h5 : t < lastT J.log
    · have c : adE J t e = 20 := by unfold adE; rw [if_neg hn, if_pos (.inr h5)]
      simp [h1, h2, h3, h4, h5, h9, GEntry.cells, vEntry_fold]
      rw [hr]
      refine retC [] [] [] rfl ?_
      simp [c, adJ]
    have hn2 : ¬ (J.term < t ∨ t < lastT J.log) := by omega
    by_cases h6 : (4096 : Int) ≤ (J.log.length : Int)
    · have c : adE J t e = 2 := by unfold adE; rw [if_neg hn, if_neg hn2, if_pos (by omega)]
      simp [h1, h2, h3, h4, h5, h6, h9, GEntry.cells, vEntry_fold]
      rw [hr]
      refine retC [] [] [] rfl ?_
      simp [c, adJ]
    · have c : adE J t e = 0 := by unfold adE; rw [if_neg hn, if_neg hn2, if_neg (by omega)]
      have k1 : (J.log.length : Int) * 80 ≤ 140737488355328 := by omega
      have k2 : (J.log.length : Int) ≤ 140737488355328 := by omega
      have k3 : ((J.log.length : Int) + 1) * 80 ≤ 140737488355328 := by omega
      have k4 : (J.log.length : Int) + 1 ≤ 140737488355328 := by omega
      simp [h1, h2, h3, h4, h5, h6, h9, k1, k2, k3, k4, GEntry.cells, vEntry_fold, GLogged.cells]
      have hrow : [[V.int .i64 t, .int .i64 e.Kind, .int .i64 e.Tick, .int .i64 e.Tenant, .int .i64 e.Cell, .int .i64 e.Other, .int .i64 e.Epoch, .int .i64 e.From, .int .i64 e.Until, .int .i64 e.N]] = GLogged.row [⟨t, e⟩] := rfl
      (repeat refine ⟨⟨by kernel_rfl, by kernel_rfl⟩, ?_⟩)
      rw [hr]
      refine retE [.inr 50] [] [] [] [] rfl ?_
      have ht : (J.log ++ [(⟨t, e⟩ : GLogged)]).take (J.log.length + 1) = J.log ++ [⟨t, e⟩] := List.take_of_length_le (by simp)
      simp [c, adJ, hrow, ht]

/-! ### Records -/
def recA (t v : Int) : List UInt8 := enc (code 1) ++ enc (code t) ++ enc (code v)
def recE (t : Int) (e : GEntry) : List UInt8 := enc (code 2) ++ enc (code t) ++ bytesE e
def recC (n : Int) : List UInt8 := enc (code 3) ++ enc (code n)
noncomputable def putJ (J : JN) (p : List UInt8) : JN := { J with b := J.b ++ putB 8 [] p }
@[simp] theorem putJ_d (J : JN) (p : List UInt8) : (putJ J p).d = J.d := rfl
@[simp] theorem putJ_log (J : JN) (p : List UInt8) : (putJ J p).log = J.log := rfl
theorem in8 : In64 8 := by unfold In64; omega
theorem putB_len {key : Int} {p : List UInt8} (h : p.length ≤ 65536) : (putB key [] p).length ≤ 65600 := by
  unfold putB
  rw [if_neg (by omega), List.nil_append, frB_eq]
  have := enc_ten (code p.length) (code_lt (by unfold In64; omega))
  simp only [List.length_append, sumBs_length]
  omega

noncomputable def CK8 := mkC [(53, putSp), (46, rappendSp)]
theorem CK8_ok : SpecsOk Tryz.prog CK8 := mkC_ok (all_cons refput_spec (all_cons rappend_spec all_nil))
@[simp] theorem CK8_1 : CK8 53 = putSp := rfl
@[simp] theorem CK8_2 : CK8 46 = rappendSp := rfl

noncomputable def jrPutSp := fam (fun i : JN × Nat × (List UInt8) => [V.ptr 0 0 0, .sl i.2.1 1 (byteRow i.2.2)]) (fun i : JN × Nat × (List UInt8) => [rjO i.1]) (fun i : JN × Nat × (List UInt8) => (i.1.b.length ≤ 1000000000) ∧ (i.2.2.length ≤ 65536)) (fun i : JN × Nat × (List UInt8) => ⟨.tup [], [rjO (putJ i.1 i.2.2)]⟩)
@[simp] theorem jrPutSp_eq {J : JN} {t : Nat} {p : List UInt8} (h1 : J.b.length ≤ 1000000000) (h2 : p.length ≤ 65536) : jrPutSp ([V.ptr 0 0 0, .sl t 1 (byteRow p)]) ([rjO J]) = some (⟨.tup [], [rjO (putJ J p)]⟩) :=
  fam_eq (A := fun i : JN × Nat × (List UInt8) => [V.ptr 0 0 0, .sl i.2.1 1 (byteRow i.2.2)]) (O := fun i : JN × Nat × (List UInt8) => [rjO i.1]) (res := fun i : JN × Nat × (List UInt8) => ⟨.tup [], [rjO (putJ i.1 i.2.2)]⟩) (by rintro ⟨a0, a1, a2⟩ ⟨b0, b1, b2⟩ h h' <;> simp at h h' <;> simp_all) (J, t, p) ⟨h1, h2⟩

theorem jrPut_spec : Lift.Spec Tryz.prog 33 jrPutSp := by
  refine spec_famO [] (C := CK8) types_ok CK8_ok follows Tryz.func33 (by kernel_rfl) rfl (by kernel_rfl) rfl ?_
  rintro ⟨J, t, p⟩ ⟨h1, h2⟩
  try simp only at h1 h2
  refine ⟨by simp, ?_⟩
  intro r hr
  have hl := putB_len (key := 8) h2
  have h3 : J.b.length + (putB 8 [] p).length ≤ 140737488355328 := by omega
  have hp : p.length ≤ 9223372036854775807 := by omega
  have e := putSp_eq (t := 0) (b := []) (u := t) (p := p) (key := 8) (by simp) in8 (by simp) hp
  simp only [byteRow_nil] at e
  simp [e, h3, rowOf]
  (repeat refine ⟨⟨by kernel_rfl, by kernel_rfl⟩, ?_⟩)
  rw [hr]
  refine retE [] [] [] [.inl 0] [] rfl ?_
  simp [putJ]

theorem enc3 {n : Int} (h : In64 n) : (enc (code n)).length ≤ 10 := enc_ten _ (code_lt h)
theorem in2 : In64 2 := by unfold In64; omega
theorem in3 : In64 3 := by unfold In64; omega
noncomputable def CK9 := mkC [(34, intSp), (36, refbytesSp), (32, jrSetSp), (35, jrAddSp), (37, jrCutSp), (33, jrPutSp)]
theorem CK9_ok : SpecsOk Tryz.prog CK9 := mkC_ok (all_cons refint_spec (all_cons refbytes_spec (all_cons jrSet_spec (all_cons jrAdd_spec (all_cons jrCut_spec (all_cons jrPut_spec all_nil))))))
@[simp] theorem CK9_1 : CK9 34 = intSp := rfl
@[simp] theorem CK9_2 : CK9 36 = refbytesSp := rfl
@[simp] theorem CK9_3 : CK9 32 = jrSetSp := rfl
@[simp] theorem CK9_4 : CK9 35 = jrAddSp := rfl
@[simp] theorem CK9_5 : CK9 37 = jrCutSp := rfl
@[simp] theorem CK9_6 : CK9 33 = jrPutSp := rfl

noncomputable def setTermJ (J : JN) (t v : Int) : JN := if stE J t v = 0 then putJ (stJ J t v) (recA t v) else J
noncomputable def appendJ (J : JN) (t : Int) (e : GEntry) : JN := if adE J t e = 0 then putJ (adJ J t e) (recE t e) else J
noncomputable def cutJ (J : JN) (n : Int) : JN := if cuE J n = 0 then putJ (cuJ J n) (recC n) else J
theorem stJ_b (J : JN) (t v : Int) : (stJ J t v).b = J.b := by unfold stJ; split <;> rfl
theorem adJ_b (J : JN) (t : Int) (e : GEntry) : (adJ J t e).b = J.b := by unfold adJ; split <;> rfl
theorem cuJ_b (J : JN) (n : Int) : (cuJ J n).b = J.b := by unfold cuJ; split <;> rfl
noncomputable def jrSetTermSp := fam (fun i : JN × Int × Int => [V.ptr 0 0 0, .int .i64 i.2.1, .int .i64 i.2.2]) (fun i : JN × Int × Int => [rjO i.1]) (fun i : JN × Int × Int => (i.1.b.length ≤ 1000000000) ∧ (In64 i.2.1) ∧ (In64 i.2.2)) (fun i : JN × Int × Int => ⟨.int .i64 (stE i.1 i.2.1 i.2.2), [rjO (setTermJ i.1 i.2.1 i.2.2)]⟩)
@[simp] theorem jrSetTermSp_eq {J : JN} {t : Int} {v : Int} (h1 : J.b.length ≤ 1000000000) (h2 : In64 t) (h3 : In64 v) : jrSetTermSp ([V.ptr 0 0 0, .int .i64 t, .int .i64 v]) ([rjO J]) = some (⟨.int .i64 (stE J t v), [rjO (setTermJ J t v)]⟩) :=
  fam_eq (A := fun i : JN × Int × Int => [V.ptr 0 0 0, .int .i64 i.2.1, .int .i64 i.2.2]) (O := fun i : JN × Int × Int => [rjO i.1]) (res := fun i : JN × Int × Int => ⟨.int .i64 (stE i.1 i.2.1 i.2.2), [rjO (setTermJ i.1 i.2.1 i.2.2)]⟩) (by rintro ⟨a0, a1, a2⟩ ⟨b0, b1, b2⟩ h h' <;> simp at h h' <;> simp_all) (J, t, v) ⟨h1, h2, h3⟩

theorem jrSetTerm_spec : Lift.Spec Tryz.prog 10 jrSetTermSp := by
  refine spec_famO [] (C := CK9) types_ok CK9_ok follows Tryz.func10 (by kernel_rfl) rfl (by kernel_rfl) rfl ?_
  rintro ⟨J, t, v⟩ ⟨h1, h2, h3⟩
  try simp only at h1 h2 h3
  refine ⟨by simp, ?_⟩
  intro r hr
  by_cases h : stE J t v = 0
  · have e1 := enc3 in1
    have e2 := enc3 h2
    have e3 := enc3 h3
    have i0 := intSp_nil (t := 0) in1
    have i1 : ((enc (code 1)).length : Int) ≤ 140737488351222 := by omega
    have i2 : ((enc (code 1)).length : Int) + ((enc (code t)).length : Int) ≤ 140737488351222 := by omega
    have i3 : (enc (code 1)).length + ((enc (code t)).length + (enc (code v)).length) ≤ 65536 := by omega
    have i4 : (stJ J t v).b.length ≤ 1000000000 := by rw [stJ_b]; exact h1
    have it : List.take ((enc (code 1)).length + ((enc (code t)).length + (enc (code v)).length)) (enc (code 1) ++ (enc (code t) ++ enc (code v))) = enc (code 1) ++ (enc (code t) ++ enc (code v)) := List.take_of_length_le (by simp)
    simp [h, i0, i1, i2, i3, i4, h2, h3, it, rowOf, Nat.add_assoc]
    rw [hr]
    refine retC [] [] [] rfl ?_
    simp [h, setTermJ, recA]
    try rfl
  · simp [h]
    rw [hr]
    refine retC [] [] [] rfl ?_
    simp [h, setTermJ, stJ]
noncomputable def jrAppendSp := fam (fun i : JN × Int × GEntry => [V.ptr 0 0 0, .int .i64 i.2.1, vEntry i.2.2]) (fun i : JN × Int × GEntry => [rjO i.1]) (fun i : JN × Int × GEntry => (i.1.b.length ≤ 1000000000) ∧ (i.1.log.length ≤ 1000000000) ∧ (In64 i.2.1) ∧ (GEntry.ok i.2.2)) (fun i : JN × Int × GEntry => ⟨.int .i64 (adE i.1 i.2.1 i.2.2), [rjO (appendJ i.1 i.2.1 i.2.2)]⟩)
@[simp] theorem jrAppendSp_eq {J : JN} {t : Int} {e : GEntry} (h1 : J.b.length ≤ 1000000000) (h2 : J.log.length ≤ 1000000000) (h3 : In64 t) (h4 : GEntry.ok e) : jrAppendSp ([V.ptr 0 0 0, .int .i64 t, vEntry e]) ([rjO J]) = some (⟨.int .i64 (adE J t e), [rjO (appendJ J t e)]⟩) :=
  fam_eq (A := fun i : JN × Int × GEntry => [V.ptr 0 0 0, .int .i64 i.2.1, vEntry i.2.2]) (O := fun i : JN × Int × GEntry => [rjO i.1]) (res := fun i : JN × Int × GEntry => ⟨.int .i64 (adE i.1 i.2.1 i.2.2), [rjO (appendJ i.1 i.2.1 i.2.2)]⟩) (by rintro ⟨a0, a1, a2⟩ ⟨b0, b1, b2⟩ h h' <;> simp at h h' <;> simp_all) (J, t, e) ⟨h1, h2, h3, h4⟩

theorem jrAppend_spec : Lift.Spec Tryz.prog 12 jrAppendSp := by
  refine spec_famO [] (C := CK9) types_ok CK9_ok follows Tryz.func12 (by kernel_rfl) rfl (by kernel_rfl) rfl ?_
  rintro ⟨J, t, e⟩ ⟨h1, h0, h2, h3⟩
  try simp only at h1 h0 h2 h3
  refine ⟨by simp, ?_⟩
  intro r hr
  by_cases h : adE J t e = 0
  · have e1 := enc3 in2
    have e2 := enc3 h2
    have e3 := bytesE_len h3
    have i0 := intSp_nil (t := 0) in2
    have i1 : ((enc (code 2)).length : Int) ≤ 140737488351222 := by omega
    have i2 : ((enc (code 2)).length : Int) + (((enc (code t)).length : Int) + ((bytesE e).length : Int)) ≤ 140737488355328 := by omega
    have i3 : (enc (code 2)).length + ((enc (code t)).length + (bytesE e).length) ≤ 65536 := by omega
    have i4 : (adJ J t e).b.length ≤ 1000000000 := by rw [adJ_b]; exact h1
    have it : List.take ((enc (code 2)).length + ((enc (code t)).length + (bytesE e).length)) (enc (code 2) ++ (enc (code t) ++ bytesE e)) = enc (code 2) ++ (enc (code t) ++ bytesE e) := List.take_of_length_le (by simp)
    simp [h, h0, i0, i1, i2, i3, i4, h2, h3, it, rowOf, GEntry.cells, vEntry_fold, Nat.add_assoc, Int.add_assoc]
    (repeat refine ⟨⟨by kernel_rfl, by kernel_rfl⟩, ?_⟩)
    rw [hr]
    refine retC [] [] [] rfl ?_
    simp [h, appendJ, recE]
    try rfl
  · simp [h, h0, GEntry.cells, vEntry_fold]
    rw [hr]
    refine retC [] [] [] rfl ?_
    simp [h, appendJ, adJ]
noncomputable def jrCutASp := fam (fun i : JN × Int => [V.ptr 0 0 0, .int .i64 i.2]) (fun i : JN × Int => [rjO i.1]) (fun i : JN × Int => (i.1.b.length ≤ 1000000000) ∧ (i.1.log.length ≤ 1000000000) ∧ (In64 i.2)) (fun i : JN × Int => ⟨.int .i64 (cuE i.1 i.2), [rjO (cutJ i.1 i.2)]⟩)
@[simp] theorem jrCutASp_eq {J : JN} {n : Int} (h1 : J.b.length ≤ 1000000000) (h2 : J.log.length ≤ 1000000000) (h3 : In64 n) : jrCutASp ([V.ptr 0 0 0, .int .i64 n]) ([rjO J]) = some (⟨.int .i64 (cuE J n), [rjO (cutJ J n)]⟩) :=
  fam_eq (A := fun i : JN × Int => [V.ptr 0 0 0, .int .i64 i.2]) (O := fun i : JN × Int => [rjO i.1]) (res := fun i : JN × Int => ⟨.int .i64 (cuE i.1 i.2), [rjO (cutJ i.1 i.2)]⟩) (by rintro ⟨a0, a1⟩ ⟨b0, b1⟩ h h' <;> simp at h h' <;> simp_all) (J, n) ⟨h1, h2, h3⟩

theorem jrCutA_spec : Lift.Spec Tryz.prog 14 jrCutASp := by
  refine spec_famO [] (C := CK9) types_ok CK9_ok follows Tryz.func14 (by kernel_rfl) rfl (by kernel_rfl) rfl ?_
  rintro ⟨J, n⟩ ⟨h1, h0, h2⟩
  try simp only at h1 h0 h2
  refine ⟨by simp, ?_⟩
  intro r hr
  by_cases h : cuE J n = 0
  · have e1 := enc3 in3
    have e2 := enc3 h2
    have i0 := intSp_nil (t := 0) in3
    have i1 : ((enc (code 3)).length : Int) ≤ 140737488351222 := by omega
    have i3 : (enc (code 3)).length + (enc (code n)).length ≤ 65536 := by omega
    have i4 : (cuJ J n).b.length ≤ 1000000000 := by rw [cuJ_b]; exact h1
    simp [h, h0, i0, i1, i3, i4, h2, rowOf]
    rw [hr]
    refine retC [] [] [] rfl ?_
    simp [h, cutJ, recC]
    try rfl
  · simp [h, h0]
    rw [hr]
    refine retC [] [] [] rfl ?_
    simp [h, cutJ, cuJ]
end Go.Proofs.YtlelalnahlpcpaaGreat
