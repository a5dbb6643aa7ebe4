/-
  journal: the program.
-/
import Derived.Test.YtlelalnahlpcpaaGreatK9
import Derived.Test.YtlelalnahlpcpaaGreatE4
set_option linter.unusedSimpArgs false
set_option linter.unusedVariables false
namespace Go.Proofs.YtlelalnahlpcpaaGreat
open Go.Lift

/-- The program's journal. -/
def jnO (J : JN) : AObj := ⟨61, 4, [[.int .i64 J.term, .int .i64 J.vote, .tree true 73 10 (GLogged.row J.log) false 2, .tree false 77 2 [[.tree true 5 1 (byteRow J.b) false 2, .int .i64 J.d]] true 0]], true, 0, .rw⟩
@[simp] theorem jnO_inj {J K : JN} : jnO J = jnO K ↔ J = K := by
  constructor
  · intro h
    obtain ⟨b, d, t, v, l⟩ := J
    obtain ⟨b', d', t', v', l'⟩ := K
    simp [jnO] at h
    simp [h]
    omega
  · rintro rfl; rfl
@[simp] theorem jn_elems (J : JN) : (jnO J).elems = [[.int .i64 J.term, .int .i64 J.vote, .tree true 73 10 (GLogged.row J.log) false 2, .tree false 77 2 [[.tree true 5 1 (byteRow J.b) false 2, .int .i64 J.d]] true 0]] := rfl
@[simp] theorem jn_et (J : JN) : (jnO J).et = 61 := rfl
@[simp] theorem jn_es (J : JN) : (jnO J).es = 4 := rfl
@[simp] theorem jn_tight (J : JN) : (jnO J).tight = true := rfl
@[simp] theorem jn_md (J : JN) : (jnO J).md = .rw := rfl
@[simp] theorem jn_fl (J : JN) : (jnO J).fl = 0 := rfl
@[simp] theorem jn_fold (b : List UInt8) (d : Nat) (t v : Int) (l : List GLogged) : (⟨61, 4, [[.int .i64 t, .int .i64 v, .tree true 73 10 (GLogged.row l) false 2, .tree false 77 2 [[.tree true 5 1 (byteRow b) false 2, .int .i64 d]] true 0]], true, 0, .rw⟩ : AObj) = jnO ⟨b, d, t, v, l⟩ := rfl
@[simp] theorem jn_foldn (b : List UInt8) (d : Nat) (t v : Int) : (⟨61, 4, [[.int .i64 t, .int .i64 v, .tree true 73 10 [] false 2, .tree false 77 2 [[.tree true 5 1 (byteRow b) false 2, .int .i64 d]] true 0]], true, 0, .rw⟩ : AObj) = jnO ⟨b, d, t, v, []⟩ := rfl
@[simp] theorem jn_foldz (t v : Int) : (⟨61, 4, [[.int .i64 t, .int .i64 v, .tree true 73 10 [] false 2, .tree false 77 2 [[.tree true 5 1 [] false 2, .int .i64 0]] true 0]], true, 0, .rw⟩ : AObj) = jnO ⟨[], 0, t, v, []⟩ := rfl
@[simp] theorem jn_foldd (b : List UInt8) (d : Nat) (t v : Int) (l : List GLogged) : (⟨61, 4, [[.int .i64 t, .int .i64 v, .tree true 73 10 (GLogged.row l) false 2, (diskO b d).toTree false]], true, 0, .rw⟩ : AObj) = jnO ⟨b, d, t, v, l⟩ := rfl
@[simp] theorem jn_shut (J : JN) : nameless (jnO J) = true := by simp [nameless]
@[simp] theorem jn_names (J : JN) (f : Nat → Nat) : (jnO J).ren f = jnO J := AObj.ren_nl (jn_shut J)
@[simp] theorem jn_within (J : JN) (D : Nat → Bool) : (jnO J).within D = true := by simp
@[simp] theorem jn_scalar (J : JN) : scalarO (jnO J) = true := by simp [scalarO]

/-- The program's records. -/
structure GRec where
  k : Int
  t : Int
  n : Int
  e : GEntry
def GRec.cells (r : GRec) : List V := [.int .i64 r.k, .int .i64 r.t, .int .i64 r.n, .int .i64 r.e.Kind, .int .i64 r.e.Tick, .int .i64 r.e.Tenant, .int .i64 r.e.Cell, .int .i64 r.e.Other, .int .i64 r.e.Epoch, .int .i64 r.e.From, .int .i64 r.e.Until, .int .i64 r.e.N]
theorem GRec.cells_inj {x y : GRec} (h : x.cells = y.cells) : x = y := by
  obtain ⟨_, _, _, ⟨_, _, _, _, _, _, _, _, _⟩⟩ := x
  obtain ⟨_, _, _, ⟨_, _, _, _, _, _, _, _, _⟩⟩ := y
  simp [GRec.cells] at h
  simp [h]
def vRec (x : GRec) : V := .agg x.cells
theorem vRec_folded (x : GRec) : Folded (vRec x) := ⟨x.cells, rfl, by simp [GRec.cells, V.closed, V.closed.closedAll]⟩
@[simp] theorem vRec_eq {x y : GRec} : vRec x = vRec y ↔ x = y := ⟨fun h => by simp only [vRec, V.agg.injEq] at h; exact GRec.cells_inj h, fun h => by rw [h]⟩
@[simp] theorem vRec_closed (x : GRec) : (vRec x).closed = true := (vRec_folded x).closed
@[simp] theorem vRec_ren (x : GRec) (f : Nat → Nat) : (vRec x).ren f = vRec x := (vRec_folded x).ren f
@[simp] theorem vRec_within (x : GRec) (D : Nat → Bool) : (vRec x).within D = true := (vRec_folded x).within D
@[simp] theorem vRec_argV (x : GRec) (g : Nat → Option AObj) (refs : List Nat) : argV g refs (vRec x) = some (vRec x, []) := (vRec_folded x).argV refs
@[simp] theorem vRec_names (x : GRec) : namesOf (vRec x) = [] := (vRec_folded x).names
@[simp] theorem vRec_deep (x : GRec) (g : Nat → Option AObj) : argNm g (vRec x) = [] := (vRec_folded x).deep
@[simp] theorem vRec_ptr (x : GRec) (r : List V) : ptrNames (vRec x :: r) = ptrNames r := (vRec_folded x).ptr r
@[simp] theorem vRec_junk (x : GRec) : (vRec x).isJunk = false := (vRec_folded x).junk
@[simp] theorem vRec_fz (x : GRec) (g : Nat → Option AObj) (F : List Nat) : fzV g F (vRec x) = vRec x := (vRec_folded x).fz F
@[simp] theorem vRec_tag (x : GRec) : tagV (vRec x) = vRec x := by simp [vRec, GRec.cells]
@[simp high] theorem vRec_cells (x : GRec) : (vRec x).cells = x.cells := rfl
@[simp] theorem vRec_scalar (x : GRec) : (vRec x).scalar = true := rfl
@[simp] theorem vRec_mk (a0 a1 a2 a3 a4 a5 a6 a7 a8 a9 a10 a11 : Int) : V.agg [.int .i64 a0, .int .i64 a1, .int .i64 a2, .int .i64 a3, .int .i64 a4, .int .i64 a5, .int .i64 a6, .int .i64 a7, .int .i64 a8, .int .i64 a9, .int .i64 a10, .int .i64 a11] = vRec ⟨a0, a1, a2, ⟨a3, a4, a5, a6, a7, a8, a9, a10, a11⟩⟩ := rfl
@[simp] theorem GEntry.eta (e : GEntry) : (⟨e.Kind, e.Tick, e.Tenant, e.Cell, e.Other, e.Epoch, e.From, e.Until, e.N⟩ : GEntry) = e := rfl
@[simp] theorem GRec.eta (r : GRec) : (⟨r.k, r.t, r.n, r.e⟩ : GRec) = r := rfl
/-- A record in memory. -/
def rcO (r : GRec) : AObj := ⟨80, 12, [GRec.cells r], true, 2, .rw⟩
@[simp] theorem rcO_inj {r s : GRec} : rcO r = rcO s ↔ r = s := ⟨fun h => by simp only [rcO, AObj.mk.injEq, List.cons.injEq, true_and, and_true] at h; exact GRec.cells_inj h, fun h => by rw [h]⟩
@[simp] theorem rc_elems (r : GRec) : (rcO r).elems = [GRec.cells r] := rfl
@[simp] theorem rc_et (r : GRec) : (rcO r).et = 80 := rfl
@[simp] theorem rc_es (r : GRec) : (rcO r).es = 12 := rfl
@[simp] theorem rc_tight (r : GRec) : (rcO r).tight = true := rfl
@[simp] theorem rc_md (r : GRec) : (rcO r).md = .rw := rfl
@[simp] theorem rc_fl (r : GRec) : (rcO r).fl = 2 := rfl
@[simp] theorem rc_fold (a0 a1 a2 a3 a4 a5 a6 a7 a8 a9 a10 a11 : Int) : (⟨80, 12, [[.int .i64 a0, .int .i64 a1, .int .i64 a2, .int .i64 a3, .int .i64 a4, .int .i64 a5, .int .i64 a6, .int .i64 a7, .int .i64 a8, .int .i64 a9, .int .i64 a10, .int .i64 a11]], true, 2, .rw⟩ : AObj) = rcO ⟨a0, a1, a2, ⟨a3, a4, a5, a6, a7, a8, a9, a10, a11⟩⟩ := rfl
@[simp] theorem rc_shut (r : GRec) : nameless (rcO r) = true := rfl
@[simp] theorem rc_linked (r : GRec) (l : List Nat) : linkedO l (rcO r) = true := rfl
@[simp] theorem rc_names (r : GRec) (f : Nat → Nat) : (rcO r).ren f = rcO r := AObj.ren_nl (rc_shut r)
@[simp] theorem rc_within (r : GRec) (D : Nat → Bool) : (rcO r).within D = true := rfl
@[simp] theorem rc_scalar (r : GRec) : scalarO (rcO r) = true := rfl
/-- A log in memory. -/
def lgO (l : List GLogged) : AObj := ⟨73, 10, GLogged.row l, false, 2, .rw⟩

noncomputable def jnSyncSp := fam (fun _ : JN => [V.ptr 0 0 0]) (fun i : JN => [jnO i]) (fun i : JN => (i.b.length ≤ 4611686018427387904)) (fun i : JN => ⟨.tup [], [jnO (syncJ i)]⟩)
@[simp] theorem jnSyncSp_eq {J : JN} (h1 : J.b.length ≤ 4611686018427387904) : jnSyncSp ([V.ptr 0 0 0]) ([jnO J]) = some (⟨.tup [], [jnO (syncJ J)]⟩) :=
  fam_eq (A := fun _ : JN => [V.ptr 0 0 0]) (O := fun i : JN => [jnO i]) (res := fun i : JN => ⟨.tup [], [jnO (syncJ i)]⟩) (by intro a b h h' <;> simp at h h' <;> simp_all) J h1

noncomputable def CKT1 := mkC [(39, dksyncSp), (58, dkbytesSp), (38, dkappendSp), (49, dkcrashSp), (19, dnewSp)]
theorem CKT1_ok : SpecsOk Tryz.prog CKT1 := mkC_ok (all_cons dksync_spec (all_cons dkbytes_spec (all_cons dkappend_spec (all_cons dkcrash_spec (all_cons dnew_spec all_nil)))))
@[simp] theorem CKT1_1 : CKT1 39 = dksyncSp := rfl
@[simp] theorem CKT1_2 : CKT1 58 = dkbytesSp := rfl
@[simp] theorem CKT1_3 : CKT1 38 = dkappendSp := rfl
@[simp] theorem CKT1_4 : CKT1 49 = dkcrashSp := rfl
@[simp] theorem CKT1_5 : CKT1 19 = dnewSp := rfl

theorem jnSync_spec : Lift.Spec Tryz.prog 22 jnSyncSp := by
  refine spec_famO [] (C := CKT1) types_ok CKT1_ok follows Tryz.func22 (by kernel_rfl) rfl (by kernel_rfl) rfl ?_
  rintro J h1
  try simp only at h1
  refine ⟨by simp, ?_⟩
  intro r hr
  simp [h1]
  rw [hr]
  refine retC [] [.inl 0] [] rfl ?_
  simp [syncJ]

noncomputable def jnBytesSp := fam (fun _ : JN => [V.ptr 0 0 0]) (fun i : JN => [jnO i]) (fun i : JN => (i.b.length ≤ 140737488355328)) (fun i : JN => ⟨.own 1 0 i.b.length, [jnO i, ⟨5, 1, byteRow i.b, false, 2, .rw⟩]⟩)
@[simp] theorem jnBytesSp_eq {J : JN} (h1 : J.b.length ≤ 140737488355328) : jnBytesSp ([V.ptr 0 0 0]) ([jnO J]) = some (⟨.own 1 0 J.b.length, [jnO J, ⟨5, 1, byteRow J.b, false, 2, .rw⟩]⟩) :=
  fam_eq (A := fun _ : JN => [V.ptr 0 0 0]) (O := fun i : JN => [jnO i]) (res := fun i : JN => ⟨.own 1 0 i.b.length, [jnO i, ⟨5, 1, byteRow i.b, false, 2, .rw⟩]⟩) (by intro a b h h' <;> simp at h h' <;> simp_all) J h1

theorem jnBytes_spec : Lift.Spec Tryz.prog 42 jnBytesSp := by
  refine spec_famO [] (C := CKT1) types_ok CKT1_ok follows Tryz.func42 (by kernel_rfl) rfl (by kernel_rfl) rfl ?_
  rintro J h1
  try simp only at h1
  refine ⟨by simp, ?_⟩
  intro r hr
  simp [h1]
  rw [hr]
  refine retC [] [.inl 0] [.inl 0, .inr 2] rfl ?_
  simp

noncomputable def nothingSp := fam (fun _ : Unit => []) (fun _ : Unit => []) (fun _ : Unit => True) (fun _ : Unit => ⟨.agg [.int .i64 0, .int .i64 (-1), .sl 0 1 []], []⟩)
theorem nothingSp_eq {u : Unit}  : nothingSp ([]) ([]) = some (⟨.agg [.int .i64 0, .int .i64 (-1), .sl 0 1 []], []⟩) :=
  fam_eq (A := fun _ : Unit => []) (O := fun _ : Unit => []) (res := fun _ : Unit => ⟨.agg [.int .i64 0, .int .i64 (-1), .sl 0 1 []], []⟩) (by intro a b h h' <;> simp at h h' <;> simp_all) u trivial

@[simp] theorem nothingSp_at : nothingSp [] [] = some ⟨.agg [.int .i64 0, .int .i64 (-1), .sl 0 1 []], []⟩ := nothingSp_eq (u := ())
theorem nothing_spec : Lift.Spec Tryz.prog 18 nothingSp := by
  refine spec_fam (C := C0) types_ok C0_ok follows Tryz.func18 (by kernel_rfl) rfl (by kernel_rfl) rfl ?_
  rintro u _
  try simp only at _
  refine ⟨by simp, ?_⟩
  intro r hr
  simp
  ((repeat refine ⟨⟨by kernel_rfl, by kernel_rfl⟩, ?_⟩); rw [hr]; refine ret_closed rfl ?_ rfl; simp)
noncomputable def CKT2 := mkC [(19, dnewSp), (18, nothingSp)]
theorem CKT2_ok : SpecsOk Tryz.prog CKT2 := mkC_ok (all_cons dnew_spec (all_cons nothing_spec all_nil))
@[simp] theorem CKT2_1 : CKT2 19 = dnewSp := rfl
@[simp] theorem CKT2_2 : CKT2 18 = nothingSp := rfl

noncomputable def jnNewSp := fam (fun _ : Unit => []) (fun _ : Unit => []) (fun _ : Unit => True) (fun _ : Unit => ⟨.ptr 0 0 0, [jnO zeroJ]⟩)
theorem jnNewSp_eq {u : Unit}  : jnNewSp ([]) ([]) = some (⟨.ptr 0 0 0, [jnO zeroJ]⟩) :=
  fam_eq (A := fun _ : Unit => []) (O := fun _ : Unit => []) (res := fun _ : Unit => ⟨.ptr 0 0 0, [jnO zeroJ]⟩) (by intro a b h h' <;> simp at h h' <;> simp_all) u trivial

@[simp] theorem jnNewSp_at : jnNewSp [] [] = some ⟨.ptr 0 0 0, [jnO zeroJ]⟩ := jnNewSp_eq (u := ())
theorem jnNew_spec : Lift.Spec Tryz.prog 5 jnNewSp := by
  refine spec_fam (C := CKT2) types_ok CKT2_ok follows Tryz.func5 (by kernel_rfl) rfl (by kernel_rfl) rfl ?_
  rintro u _
  try simp only at _
  refine ⟨by simp, ?_⟩
  intro r hr
  simp
  rw [hr]
  refine retC [(.inr 0, 2, 73, 10)] [.inr 0] [.inr 0] rfl ?_
  simp [zeroJ]

noncomputable def sclSp := fam (fun i : Nat × (List GLogged) => [V.sl i.1 10 (GLogged.row i.2)]) (fun _ : Nat × (List GLogged) => []) (fun i : Nat × (List GLogged) => (i.1 ≠ 0) ∧ (i.2.length ≤ 1000000000)) (fun i : Nat × (List GLogged) => ⟨.own 0 0 i.2.length, [lgO i.2]⟩)
@[simp] theorem sclSp_eq {t : Nat} {l : List GLogged} (h1 : t ≠ 0) (h2 : l.length ≤ 1000000000) : sclSp ([V.sl t 10 (GLogged.row l)]) ([]) = some (⟨.own 0 0 l.length, [lgO l]⟩) :=
  fam_eq (A := fun i : Nat × (List GLogged) => [V.sl i.1 10 (GLogged.row i.2)]) (O := fun _ : Nat × (List GLogged) => []) (res := fun i : Nat × (List GLogged) => ⟨.own 0 0 i.2.length, [lgO i.2]⟩) (by rintro ⟨a0, a1⟩ ⟨b0, b1⟩ h h' <;> simp at h h' <;> simp_all) (t, l) ⟨h1, h2⟩

noncomputable def CKT3 := mkC []
theorem CKT3_ok : SpecsOk Tryz.prog CKT3 := mkC_ok all_nil

noncomputable def jnCopySp := fam (fun _ : JN => [V.ptr 0 0 0]) (fun i : JN => [jnO i]) (fun i : JN => (i.b.length ≤ 140737488355328) ∧ (i.log.length ≤ 1000000000)) (fun i : JN => ⟨.ptr 1 0 0, [jnO i, jnO i]⟩)
@[simp] theorem jnCopySp_eq {J : JN} (h1 : J.b.length ≤ 140737488355328) (h2 : J.log.length ≤ 1000000000) : jnCopySp ([V.ptr 0 0 0]) ([jnO J]) = some (⟨.ptr 1 0 0, [jnO J, jnO J]⟩) :=
  fam_eq (A := fun _ : JN => [V.ptr 0 0 0]) (O := fun i : JN => [jnO i]) (res := fun i : JN => ⟨.ptr 1 0 0, [jnO i, jnO i]⟩) (by intro a b h h' <;> simp at h h' <;> simp_all) J ⟨h1, h2⟩

end Go.Proofs.YtlelalnahlpcpaaGreat
