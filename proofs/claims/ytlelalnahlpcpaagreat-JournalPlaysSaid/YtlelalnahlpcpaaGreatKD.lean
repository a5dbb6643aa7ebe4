/-
  journal: what the laws say; awake, note, grown.
-/
import Derived.Test.YtlelalnahlpcpaaGreatKC
set_option linter.unusedSimpArgs false
set_option linter.unusedVariables false
namespace Go.Proofs.YtlelalnahlpcpaaGreat
open Go.Lift

noncomputable def jnTermSp := fam (fun _ : JN => [V.ptr 0 0 0]) (fun i : JN => [jnO i]) (fun _ : JN => True) (fun i : JN => ⟨.int .i64 i.term, [jnO i]⟩)
@[simp] theorem jnTermSp_eq {J : JN}  : jnTermSp ([V.ptr 0 0 0]) ([jnO J]) = some (⟨.int .i64 J.term, [jnO J]⟩) :=
  fam_eq (A := fun _ : JN => [V.ptr 0 0 0]) (O := fun i : JN => [jnO i]) (res := fun i : JN => ⟨.int .i64 i.term, [jnO i]⟩) (by intro a b h h' <;> simp at h h' <;> simp_all) J trivial

theorem jnTerm_spec : Lift.Spec Tryz.prog 26 jnTermSp := by
  refine spec_famO [] (C := C0) types_ok C0_ok follows Tryz.func26 (by kernel_rfl) rfl (by kernel_rfl) rfl ?_
  rintro J _
  refine ⟨by simp, ?_⟩
  intro r hr
  simp
  rw [hr]
  refine retC [] [.inl 0] [] rfl ?_
  simp
noncomputable def jnVoteSp := fam (fun _ : JN => [V.ptr 0 0 0]) (fun i : JN => [jnO i]) (fun _ : JN => True) (fun i : JN => ⟨.int .i64 i.vote, [jnO i]⟩)
@[simp] theorem jnVoteSp_eq {J : JN}  : jnVoteSp ([V.ptr 0 0 0]) ([jnO J]) = some (⟨.int .i64 J.vote, [jnO J]⟩) :=
  fam_eq (A := fun _ : JN => [V.ptr 0 0 0]) (O := fun i : JN => [jnO i]) (res := fun i : JN => ⟨.int .i64 i.vote, [jnO i]⟩) (by intro a b h h' <;> simp at h h' <;> simp_all) J trivial

theorem jnVote_spec : Lift.Spec Tryz.prog 27 jnVoteSp := by
  refine spec_famO [] (C := C0) types_ok C0_ok follows Tryz.func27 (by kernel_rfl) rfl (by kernel_rfl) rfl ?_
  rintro J _
  refine ⟨by simp, ?_⟩
  intro r hr
  simp
  rw [hr]
  refine retC [] [.inl 0] [] rfl ?_
  simp
noncomputable def jnLenSp := fam (fun _ : JN => [V.ptr 0 0 0]) (fun i : JN => [jnO i]) (fun _ : JN => True) (fun i : JN => ⟨.int .i64 i.log.length, [jnO i]⟩)
@[simp] theorem jnLenSp_eq {J : JN}  : jnLenSp ([V.ptr 0 0 0]) ([jnO J]) = some (⟨.int .i64 J.log.length, [jnO J]⟩) :=
  fam_eq (A := fun _ : JN => [V.ptr 0 0 0]) (O := fun i : JN => [jnO i]) (res := fun i : JN => ⟨.int .i64 i.log.length, [jnO i]⟩) (by intro a b h h' <;> simp at h h' <;> simp_all) J trivial

theorem jnLen_spec : Lift.Spec Tryz.prog 24 jnLenSp := by
  refine spec_famO [] (C := C0) types_ok C0_ok follows Tryz.func24 (by kernel_rfl) rfl (by kernel_rfl) rfl ?_
  rintro J _
  refine ⟨by simp, ?_⟩
  intro r hr
  simp
  rw [hr]
  refine retC [] [.inl 0] [] rfl ?_
  simp

def noteE (n : Int) : GEntry := ⟨16, 0, -1, -1, -1, 0, 0, 0, n % 1000⟩
theorem note_ok (n : Int) : GEntry.ok (noteE n) := by
  unfold GEntry.ok noteE In64
  simp only
  omega
theorem note_shape (n : Int) : shapeE (noteE n) = true := by
  have h1 : 0 ≤ n % 1000 := by omega
  have h2 : n % 1000 ≤ 1000000 := by omega
  simp [shapeE, fitE, inR, rngK, inB, twB, noteE]
  try omega
noncomputable def noteSp := fam (fun i : Int => [V.int .i64 i]) (fun _ : Int => []) (fun _ : Int => True) (fun i : Int => ⟨vEntry (noteE i), []⟩)
@[simp] theorem noteSp_eq {n : Int}  : noteSp ([V.int .i64 n]) ([]) = some (⟨vEntry (noteE n), []⟩) :=
  fam_eq (A := fun i : Int => [V.int .i64 i]) (O := fun _ : Int => []) (res := fun i : Int => ⟨vEntry (noteE i), []⟩) (by intro a b h h' <;> simp at h h' <;> simp_all) n trivial

noncomputable def CNE := mkC [(9, modSp)]
theorem CNE_ok : SpecsOk Tryz.prog CNE := mkC_ok (all_cons mod_spec all_nil)
@[simp] theorem CNE_1 : CNE 9 = modSp := rfl

theorem note_spec : Lift.Spec Tryz.prog 13 noteSp := by
  refine spec_fam (C := CNE) types_ok CNE_ok follows Tryz.func13 (by kernel_rfl) rfl (by kernel_rfl) rfl ?_
  rintro n _
  try simp only at _
  refine ⟨by simp, ?_⟩
  intro r hr
  simp [GEntry.cells]
  ((repeat refine ⟨⟨by kernel_rfl, by kernel_rfl⟩, ?_⟩); rw [hr]; refine ret_closed rfl ?_ rfl; simp [GEntry.cells, noteE, vEntry])

/-! ### Bounds -/
theorem putJ_bd (J : JN) (p : List UInt8) : (putJ J p).b.length ≤ J.b.length + 65600 := by
  have := putB_any p
  unfold putJ; simp only [List.length_append]; omega
theorem setTermJ_bd (J : JN) (t v : Int) : (setTermJ J t v).b.length ≤ J.b.length + 65600 := by
  unfold setTermJ
  split
  · have := putJ_bd (stJ J t v) (recA t v); rw [stJ_b] at this; exact this
  · omega
theorem appendJ_bd (J : JN) (t : Int) (e : GEntry) : (appendJ J t e).b.length ≤ J.b.length + 65600 := by
  unfold appendJ
  split
  · have := putJ_bd (adJ J t e) (recE t e); rw [adJ_b] at this; exact this
  · omega
theorem cutJ_bd (J : JN) (n : Int) : (cutJ J n).b.length ≤ J.b.length + 65600 := by
  unfold cutJ
  split
  · have := putJ_bd (cuJ J n) (recC n); rw [cuJ_b] at this; exact this
  · omega
theorem truncP_bd (b : List UInt8) (d n : Nat) (h : d ≤ b.length) : (truncP b d n).1.length ≤ b.length ∧ (truncP b d n).2 ≤ (truncP b d n).1.length := by
  unfold truncP
  split
  · exact ⟨Nat.le_refl _, h⟩
  · simp only [List.length_take]; omega
theorem crashJ_bd (J : JN) (keep : Int) (h : J.d ≤ J.b.length) : (crashJ J keep).b.length ≤ J.b.length ∧ (crashJ J keep).d ≤ (crashJ J keep).b.length := by
  have hc : crashN J.b.length J.d keep ≤ J.b.length := by unfold crashN; omega
  have hl : (J.b.take (crashN J.b.length J.d keep)).length = crashN J.b.length J.d keep := by rw [List.length_take]; omega
  have := truncP_bd (J.b.take (crashN J.b.length J.d keep)) (crashN J.b.length J.d keep) (replayJ (allT 8 (J.b.take (crashN J.b.length J.d keep))).1 ⟨J.b.take (crashN J.b.length J.d keep), crashN J.b.length J.d keep, 0, -1, []⟩ 0).2 (by omega)
  unfold crashJ readJ
  simp only
  omega
@[simp] theorem syncJ_b (J : JN) : (syncJ J).b = J.b := id rfl
@[simp] theorem syncJ_d (J : JN) : (syncJ J).d = J.b.length := id rfl
@[simp] theorem syncJ_term (J : JN) : (syncJ J).term = J.term := id rfl
@[simp] theorem syncJ_vote (J : JN) : (syncJ J).vote = J.vote := id rfl
@[simp] theorem syncJ_log (J : JN) : (syncJ J).log = J.log := id rfl
@[simp] theorem syncJ_fold (J : JN) : (⟨J.b, J.b.length, J.term, J.vote, J.log⟩ : JN) = syncJ J := rfl
@[simp] theorem zeroJ_fold : (⟨[], 0, 0, -1, []⟩ : JN) = zeroJ := rfl
@[simp] theorem zeroJ_b : zeroJ.b = [] := id rfl
@[simp] theorem zeroJ_d : zeroJ.d = 0 := id rfl
@[simp] theorem zeroJ_term : zeroJ.term = 0 := id rfl
@[simp] theorem zeroJ_vote : zeroJ.vote = -1 := id rfl
@[simp] theorem zeroJ_log : zeroJ.log = [] := id rfl
/-- A crash that keeps nothing that was not durable. -/
theorem Hist.crash0 {J : JN} {rs : List (List UInt8)} {s : Nat} (h : Hist J rs s) : (crashJ J 0).term = (finR (rs.take s) zeroJ).term ∧ (crashJ J 0).vote = (finR (rs.take s) zeroJ).vote ∧ (crashJ J 0).log = (finR (rs.take s) zeroJ).log := by
  have hK : Hist (setD (finR (rs.take s) zeroJ) (framesB 8 (rs.take s)) (framesB 8 (rs.take s)).length) (rs.take s) (rs.take s).length :=
    ⟨fun p hp => h.small p (List.mem_of_mem_take hp), AllR_take h.all s, by rw [List.take_length], Nat.le_refl _⟩
  have e := hK.crash_synced 0
  have eb : J.b = framesB 8 rs := by rw [h.eq]; rfl
  have ed : J.d = (framesB 8 (rs.take s)).length := by rw [h.eq]; rfl
  have c1 : crashN J.b.length J.d 0 = J.d := by unfold crashN; simp
  have c2 : crashN (framesB 8 (rs.take s)).length (framesB 8 (rs.take s)).length 0 = (framesB 8 (rs.take s)).length := by unfold crashN; simp
  have c3 : J.b.take J.d = framesB 8 (rs.take s) := by
    rw [ed, eb]
    have : framesB 8 rs = framesB 8 (rs.take s) ++ framesB 8 (rs.drop s) := by rw [← framesB_append, List.take_append_drop]
    rw [this, List.take_left]
  have e2 : crashJ J 0 = setD (finR (rs.take s) zeroJ) (framesB 8 (rs.take s)) (framesB 8 (rs.take s)).length := by
    rw [← e]
    unfold crashJ
    rw [c1, c3, setD_b, setD_d, c2, ed, List.take_length]
  rw [e2]; exact ⟨rfl, rfl, rfl⟩

noncomputable def CNF := mkC [(5, jnNewSp), (21, jnSetTermSp), (23, jnAppendSp), (29, jnCutASp), (22, jnSyncSp), (25, jnCrashSp), (26, jnTermSp), (27, jnVoteSp), (24, jnLenSp), (13, noteSp), (9, modSp)]
theorem CNF_ok : SpecsOk Tryz.prog CNF := mkC_ok (all_cons jnNew_spec (all_cons jnSetTerm_spec (all_cons jnAppend_spec (all_cons jnCutA_spec (all_cons jnSync_spec (all_cons jnCrash_spec (all_cons jnTerm_spec (all_cons jnVote_spec (all_cons jnLen_spec (all_cons note_spec (all_cons mod_spec all_nil)))))))))))
@[simp] theorem CNF_1 : CNF 5 = jnNewSp := rfl
@[simp] theorem CNF_2 : CNF 21 = jnSetTermSp := rfl
@[simp] theorem CNF_3 : CNF 23 = jnAppendSp := rfl
@[simp] theorem CNF_4 : CNF 29 = jnCutASp := rfl
@[simp] theorem CNF_5 : CNF 22 = jnSyncSp := rfl
@[simp] theorem CNF_6 : CNF 25 = jnCrashSp := rfl
@[simp] theorem CNF_7 : CNF 26 = jnTermSp := rfl
@[simp] theorem CNF_8 : CNF 27 = jnVoteSp := rfl
@[simp] theorem CNF_9 : CNF 24 = jnLenSp := rfl
@[simp] theorem CNF_10 : CNF 13 = noteSp := rfl
@[simp] theorem CNF_11 : CNF 9 = modSp := rfl

noncomputable def awake8Sp := fam (fun _ : Unit => []) (fun _ : Unit => []) (fun _ : Unit => True) (fun _ : Unit => ⟨.bool true, []⟩)
theorem awake8Sp_eq {u : Unit}  : awake8Sp ([]) ([]) = some (⟨.bool true, []⟩) :=
  fam_eq (A := fun _ : Unit => []) (O := fun _ : Unit => []) (res := fun _ : Unit => ⟨.bool true, []⟩) (by intro a b h h' <;> simp at h h' <;> simp_all) u trivial

@[simp] theorem awake8Sp_at : awake8Sp [] [] = some ⟨.bool true, []⟩ := awake8Sp_eq (u := ())
theorem in64_3 : In64 3 := by unfold In64; omega
theorem in64_2 : In64 2 := by unfold In64; omega
theorem in64_0 : In64 0 := by unfold In64; omega
theorem awake8_spec : Lift.Spec Tryz.prog 7 awake8Sp := by
  refine spec_fam (C := CNF) types_ok CNF_ok follows Tryz.func7 (by kernel_rfl) rfl (by kernel_rfl) rfl ?_
  rintro u _
  try simp only at _
  refine ⟨by simp, ?_⟩
  intro r hr
  have e1 : stE zeroJ 3 1 = 0 := by simp [stE]
  obtain ⟨J1, hJ1⟩ : ∃ J, J = setTermJ zeroJ 3 1 := ⟨_, rfl⟩
  have t1 : J1.term = 3 := by rw [hJ1, setTermJ_term, if_pos e1]
  have v1 : J1.vote = 1 := by rw [hJ1, setTermJ_vote, if_pos e1]
  have l1 : J1.log = [] := by rw [hJ1, setTermJ_log]; rfl
  have b1 : J1.b.length ≤ 65600 := by have := setTermJ_bd zeroJ 3 1; rw [← hJ1] at this; simpa using this
  have H1 : Hist J1 [recA 3 1] 0 := by
    have := Hist.zero.setTerm in64_3 in1
    rw [if_pos e1, ← hJ1] at this; exact this
  have H2 := H1.sync
  have e2 : adE (syncJ J1) 3 (noteE 7) = 0 := by simp [adE, note_shape, t1, l1, lastT]
  obtain ⟨J3, hJ3⟩ : ∃ J, J = appendJ (syncJ J1) 3 (noteE 7) := ⟨_, rfl⟩
  have t3 : J3.term = 3 := by rw [hJ3, appendJ_term]; exact t1
  have v3 : J3.vote = 1 := by rw [hJ3, appendJ_vote]; exact v1
  have l3 : J3.log.length = 1 := by rw [hJ3, appendJ_log, if_pos e2]; simp [l1]
  have b3 : J3.b.length ≤ 131200 := by have := appendJ_bd (syncJ J1) 3 (noteE 7); rw [← hJ3, syncJ_b] at this; omega
  have H3 : Hist J3 [recA 3 1, recE 3 (noteE 7)] 1 := by
    have := H2.append in64_3 (note_ok 7)
    rw [if_pos e2, ← hJ3] at this; exact this
  have d3 := H3.d_le
  have e3 : stE J3 3 2 = 20 := by simp [stE, t3, v3]
  have e4 : setTermJ J3 3 2 = J3 := by unfold setTermJ; rw [e3]; rfl
  obtain ⟨q1, q2, q3⟩ := H3.crash0
  have hf : finR (List.take 1 [recA 3 1, recE 3 (noteE 7)]) zeroJ = stJ zeroJ 3 1 := by
    show (recordJ zeroJ (recA 3 1)).1 = _
    rw [recA_back in64_3 in1]
  rw [hf] at q1 q2 q3
  have hs : stJ zeroJ 3 1 = ⟨[], 0, 3, 1, []⟩ := by unfold stJ; rw [if_pos e1]; rfl
  rw [hs] at q1 q2 q3
  simp only at q1 q2 q3
  have k1 : J1.b.length ≤ 1000000000 := by omega
  have k2 : J1.b.length ≤ 4611686018427387904 := by omega
  have k3 : J3.b.length ≤ 1000000000 := by omega
  simp [in64_3, in64_2, in1, note_ok, e1, ← hJ1, k1, k2, l1, e2, ← hJ3, k3, e3, e4, l3, d3, q1, q2, q3]
  ((repeat refine ⟨⟨by kernel_rfl, by kernel_rfl⟩, ?_⟩); rw [hr]; refine ret_closed rfl ?_ rfl; simp)

/-! ### grown -/
noncomputable def growGo (m : Int) : List Int → Nat → JN × Nat → JN × Nat
  | [], _, p => p
  | x :: xs, i, p => growGo m xs (i + 1) (if (i : Int) = m then (appendJ (syncJ p.1) 1 (noteE x), i) else (appendJ p.1 1 (noteE x), p.2))
noncomputable def grow0 : JN × Nat := (syncJ (setTermJ zeroJ 1 0), 0)
noncomputable def growJ (l : List Int) (sync : Int) : JN := (growGo (sync % 31) (l.take 30) 0 grow0).1
noncomputable def growN (l : List Int) (sync : Int) : Nat := (growGo (sync % 31) (l.take 30) 0 grow0).2
def outL (l : List Int) : List GLogged := l.map fun x => ⟨1, noteE x⟩
theorem outL_append (a b : List Int) : outL (a ++ b) = outL a ++ outL b := by simp [outL]
@[simp] theorem outL_length (a : List Int) : (outL a).length = a.length := by simp [outL]
/-- What holds of a journal that has grown by notes. -/
structure GrowI (p : JN × Nat) (l : List Int) : Prop where
  is : ∃ s, Grown p.1 (l.map noteE) s ∧ p.2 ≤ s
  bd : p.1.b.length ≤ 65600 * (l.length + 1)
theorem GrowI.zero : GrowI grow0 [] := ⟨⟨0, Grown.zero, Nat.le_refl _⟩, by
  have := setTermJ_bd zeroJ 1 0
  simpa [grow0] using this⟩
theorem GrowI.next {p : JN × Nat} {l : List Int} (h : GrowI p l) (hl : l.length < 4096) (x : Int) : GrowI (appendJ p.1 1 (noteE x), p.2) (l ++ [x]) := by
  obtain ⟨⟨s, h1, h2⟩, h3⟩ := h
  have := appendJ_bd p.1 1 (noteE x)
  refine ⟨⟨s, ?_, h2⟩, by simp only [List.length_append, List.length_cons, List.length_nil]; omega⟩
  rw [List.map_append]
  exact h1.append (by simpa using hl) (note_ok x) (note_shape x)
theorem GrowI.nextS {p : JN × Nat} {l : List Int} (h : GrowI p l) (hl : l.length < 4096) (x : Int) : GrowI (appendJ (syncJ p.1) 1 (noteE x), l.length) (l ++ [x]) := by
  obtain ⟨⟨s, h1, h2⟩, h3⟩ := h
  have := appendJ_bd (syncJ p.1) 1 (noteE x)
  rw [syncJ_b] at this
  have g := h1.sync
  rw [List.length_map] at g
  refine ⟨⟨l.length, ?_, Nat.le_refl _⟩, by simp only [List.length_append, List.length_cons, List.length_nil]; omega⟩
  rw [List.map_append]
  exact g.append (by simpa using hl) (note_ok x) (note_shape x)
theorem GrowI.log {p : JN × Nat} {l : List Int} (h : GrowI p l) (hl : l.length ≤ 4096) : p.1.term = 1 ∧ p.1.vote = 0 ∧ p.1.log = outL l := by
  obtain ⟨⟨s, h1, h2⟩, h3⟩ := h
  have := h1.is (by simpa using hl)
  rw [List.map_map] at this
  exact this
theorem growGo_inv (m : Int) : ∀ (xs : List Int) (l : List Int) (p : JN × Nat), GrowI p l → l.length + xs.length ≤ 4096 → GrowI (growGo m xs l.length p) (l ++ xs)
  | [], l, p, h, _ => by simpa [growGo] using h
  | x :: xs, l, p, h, hl => by
    simp only [List.length_cons] at hl
    rw [growGo]
    have e : l ++ x :: xs = (l ++ [x]) ++ xs := by simp
    have e2 : l.length + 1 = (l ++ [x]).length := by simp
    rw [e, e2]
    refine growGo_inv m xs _ _ ?_ (by simp only [List.length_append, List.length_cons, List.length_nil]; omega)
    split
    · exact h.nextS (by omega) x
    · exact h.next (by omega) x
theorem grow_inv (l : List Int) (sync : Int) : GrowI (growJ l sync, growN l sync) (l.take 30) := by
  have := growGo_inv (sync % 31) (l.take 30) [] grow0 GrowI.zero (by simp; omega)
  simpa [growJ, growN] using this

noncomputable def grownSp := fam (fun i : (List Int) × Int => [V.sl 2 1 (intRow i.1), .int .i64 i.2]) (fun _ : (List Int) × Int => []) (fun i : (List Int) × Int => (i.1.length ≤ 9223372036854775807)) (fun i : (List Int) × Int => ⟨.tup [.ptr 0 0 0, .sl 2 10 (GLogged.row (outL (i.1.take 30))), .int .i64 (growN i.1 i.2)], [jnO (growJ i.1 i.2)]⟩)
@[simp] theorem grownSp_eq {l : List Int} {sync : Int} (h1 : l.length ≤ 9223372036854775807) : grownSp ([V.sl 2 1 (intRow l), .int .i64 sync]) ([]) = some (⟨.tup [.ptr 0 0 0, .sl 2 10 (GLogged.row (outL (l.take 30))), .int .i64 (growN l sync)], [jnO (growJ l sync)]⟩) :=
  fam_eq (A := fun i : (List Int) × Int => [V.sl 2 1 (intRow i.1), .int .i64 i.2]) (O := fun _ : (List Int) × Int => []) (res := fun i : (List Int) × Int => ⟨.tup [.ptr 0 0 0, .sl 2 10 (GLogged.row (outL (i.1.take 30))), .int .i64 (growN i.1 i.2)], [jnO (growJ i.1 i.2)]⟩) (by rintro ⟨a0, a1⟩ ⟨b0, b1⟩ h h' <;> simp at h h' <;> simp_all) (l, sync) h1

def grSt (l : List Int) (sync : Int) (i : Nat × JN × Nat) : St := mkSt [(0, .sl 2 1 (intRow l)), (1, .int .i64 sync), (7, .ptr 0 0 0), (8, .own 1 0 i.1), (9, .int .i64 i.2.2), (10, .int .i64 i.1)] [(0, jnO i.2.1), (1, lgO (outL (l.take i.1)))] 2
end Go.Proofs.YtlelalnahlpcpaaGreat
