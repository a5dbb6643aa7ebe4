/-
  entry: bytes of entries, and reading them.
-/
import Derived.Test.YtlelalnahlpcpaaGreatE4
import Derived.Test.YtlelalnahlpcpaaGreatPW2
set_option linter.unusedSimpArgs false
set_option linter.unusedVariables false
namespace Go.Proofs.YtlelalnahlpcpaaGreat
open Go.Lift

def entL (e : GEntry) : List Int := [e.Kind, e.Tick, e.Tenant, e.Cell, e.Other, e.Epoch, e.From, e.Until, e.N]
def entO (e : GEntry) : AObj := ⟨43, 9, [GEntry.cells e], true, 2, .rw⟩
noncomputable def fieldsSp := fam (fun _ : GEntry => [V.ptr 0 0 0]) (fun i : GEntry => [entO i]) (fun _ : GEntry => True) (fun i : GEntry => ⟨.agg [.ptr 0 0 0, .ptr 0 0 1, .ptr 0 0 2, .ptr 0 0 3, .ptr 0 0 4, .ptr 0 0 5, .ptr 0 0 6, .ptr 0 0 7, .ptr 0 0 8], [entO i]⟩)
@[simp] theorem fieldsSp_eq {e : GEntry}  : fieldsSp ([V.ptr 0 0 0]) ([entO e]) = some (⟨.agg [.ptr 0 0 0, .ptr 0 0 1, .ptr 0 0 2, .ptr 0 0 3, .ptr 0 0 4, .ptr 0 0 5, .ptr 0 0 6, .ptr 0 0 7, .ptr 0 0 8], [entO e]⟩) :=
  fam_eq (A := fun _ : GEntry => [V.ptr 0 0 0]) (O := fun i : GEntry => [entO i]) (res := fun i : GEntry => ⟨.agg [.ptr 0 0 0, .ptr 0 0 1, .ptr 0 0 2, .ptr 0 0 3, .ptr 0 0 4, .ptr 0 0 5, .ptr 0 0 6, .ptr 0 0 7, .ptr 0 0 8], [entO i]⟩) (fun i j _ h => by simp [entO] at h; rw [GEntry.cells_inj h]) e trivial

theorem fields_spec : Lift.Spec Tryz.prog 107 fieldsSp := by
  refine spec_fam (C := C0) types_ok C0_ok follows Tryz.func107 (by kernel_rfl) rfl (by kernel_rfl) rfl ?_
  rintro e _
  refine ⟨by simp, ?_⟩
  intro r hr
  simp [entO, GEntry.cells]
  (repeat refine ⟨⟨by kernel_rfl, by kernel_rfl⟩, ?_⟩)
  rw [hr]
  refine ret_at [.inl 0] rfl ?_ ?_ (by simp) ?_ ?_ ?_ ?_ <;> simp [entO, GEntry.cells]

def encTo (ns : List Int) : List UInt8 := ns.flatMap fun n => enc (code n)
theorem encTo_push (ns : List Int) (n : Int) : encTo (ns ++ [n]) = encTo ns ++ enc (code n) := by simp [encTo]
theorem encTo_len : ∀ {ns : List Int}, (∀ n ∈ ns, In64 n) → (encTo ns).length ≤ 10 * ns.length
  | [], _ => by simp [encTo]
  | n :: ns, h => by
    have h1 := enc_ten _ (code_lt (h n (List.mem_cons_self ..)))
    have h2 := encTo_len (ns := ns) (fun x hx => h x (List.mem_cons_of_mem _ hx))
    have : encTo (n :: ns) = enc (code n) ++ encTo ns := by simp [encTo]
    rw [this, List.length_append, List.length_cons]; omega
def bytesE (e : GEntry) : List UInt8 := encTo (entL e)
theorem entL_64 {e : GEntry} (h : GEntry.ok e) : ∀ n ∈ entL e, In64 n := by
  obtain ⟨h1, h2, h3, h4, h5, h6, h7, h8, h9⟩ := h
  simp only [entL, List.mem_cons, List.not_mem_nil, or_false]
  rintro n (rfl | rfl | rfl | rfl | rfl | rfl | rfl | rfl | rfl) <;> assumption
theorem bytesE_len {e : GEntry} (h : GEntry.ok e) : (bytesE e).length ≤ 90 := by
  have := encTo_len (entL_64 h)
  exact this

noncomputable def CE9 := mkC [(107, fieldsSp), (95, intSp), (34, intSp)]
theorem CE9_ok : SpecsOk Tryz.prog CE9 := mkC_ok (all_cons fields_spec (all_cons int_spec (all_cons refint_spec all_nil)))
@[simp] theorem CE9_1 : CE9 107 = fieldsSp := rfl
@[simp] theorem CE9_2 : CE9 95 = intSp := rfl
@[simp] theorem CE9_3 : CE9 34 = intSp := rfl

noncomputable def bytesESp := fam (fun i : GEntry => [vEntry i]) (fun _ : GEntry => []) (fun i : GEntry => (GEntry.ok i)) (fun i : GEntry => ⟨.sl 2 1 (byteRow (bytesE i)), []⟩)
@[simp] theorem bytesESp_eq {e : GEntry} (h1 : GEntry.ok e) : bytesESp ([vEntry e]) ([]) = some (⟨.sl 2 1 (byteRow (bytesE e)), []⟩) :=
  fam_eq (A := fun i : GEntry => [vEntry i]) (O := fun _ : GEntry => []) (res := fun i : GEntry => ⟨.sl 2 1 (byteRow (bytesE i)), []⟩) (by intro a b h h' <;> simp at h h' <;> simp_all) e h1

def beSt (e : GEntry) (i : Nat × List UInt8) : St :=
  mkSt [(3, .own 1 0 i.2.length), (6, .agg [.ptr 0 0 0, .ptr 0 0 1, .ptr 0 0 2, .ptr 0 0 3, .ptr 0 0 4, .ptr 0 0 5, .ptr 0 0 6, .ptr 0 0 7, .ptr 0 0 8]), (7, .int .i64 i.1)] [(0, entO e), (1, rowOf i.2)] 2
theorem nine {i : Nat} (h : i < 9) : i = 0 ∨ i = 1 ∨ i = 2 ∨ i = 3 ∨ i = 4 ∨ i = 5 ∨ i = 6 ∨ i = 7 ∨ i = 8 := by omega
theorem encTo_take {ns : List Int} {i : Nat} {x : Int} (hx : ns[i]? = some x) : encTo (ns.take (i + 1)) = encTo (ns.take i) ++ enc (code x) := by
  rw [List.take_add_one, hx]; exact encTo_push _ _
theorem encTo_le {e : GEntry} (h : GEntry.ok e) (i : Nat) : (encTo ((entL e).take i)).length ≤ 90 := by
  have h1 := encTo_len (ns := (entL e).take i) (fun n hn => entL_64 h n (List.mem_of_mem_take hn))
  have h2 : ((entL e).take i).length ≤ 9 := by rw [List.length_take]; simp [entL]; omega
  omega
set_option maxHeartbeats 40000000 in
theorem bytesE_spec : Lift.Spec Tryz.prog 97 bytesESp := by
  refine spec_fam (C := CE9) types_ok CE9_ok follows Tryz.func97 (by kernel_rfl) rfl (by kernel_rfl) rfl ?_
  rintro e h
  try simp only at h
  refine ⟨by simp, ?_⟩
  intro r hr
  have hN := fieldsSp_eq (e := e)
  simp only [entO, GEntry.cells] at hN
  simp [GEntry.cells, hN]
  refine axwp_loop (beSt e) (fun i => i.1 ≤ 9 ∧ i.2 = encTo ((entL e).take i.1)) (fun i => 9 - i.1) (0, []) ?_ ⟨Nat.zero_le _, rfl⟩ ?_
  · refine weak_nil_mk 3 99 (sz := 1) (rowOf []) (fun n => if n = 1 then 99 else n) ?_ ?_ ?_ ?_ ?_ ?_ <;> simp [entO, GEntry.cells, rowOf]
  · rintro ⟨i, acc⟩ ⟨hi, ha⟩
    simp only at hi ha
    by_cases hik : i < 9
    · have hacc : acc.length ≤ 90 := by rw [ha]; exact encTo_le h i
      have q5 : (acc.length : Int) ≤ 140737488351222 := by omega
      obtain ⟨x, hx⟩ : ∃ x, (entL e)[i]? = some x := ⟨_, List.getElem?_eq_getElem (show i < (entL e).length from hik)⟩
      have hxi : In64 x := entL_64 h x (List.mem_of_getElem? hx)
      have hstep := encTo_take hx
      rw [← ha] at hstep
      clear ha
      have h9 := nine hik
      rcases h9 with rfl | rfl | rfl | rfl | rfl | rfl | rfl | rfl | rfl
      all_goals
        simp [entL] at hx
        subst hx
        simp [beSt, entO, GEntry.cells, hxi, q5, rowOf]
        refine Again.mk (_, _) ⟨Nat.le_of_ble_eq_true rfl, hstep.symm⟩ (by simp) ?_
        refine weak_at [.inl 0, .inr 3] ?_ ?_ ?_ ?_ <;> simp [entO, GEntry.cells, rowOf]
    · have e9 : i = 9 := by omega
      subst e9
      simp [beSt, rowOf]
      rw [hr]
      refine retData [2] ?_ rfl (by simp) ?_
      · simp
      · rw [show (entL e).take 9 = entL e from rfl] at ha
        simp [ha, bytesE]

noncomputable def refbytesSp := fam (fun e : GEntry => [vEntry e]) (fun _ => []) (fun e => GEntry.ok e) (fun e => ⟨.own 0 0 (bytesE e).length, [rowOf (bytesE e)]⟩)
@[simp] theorem refbytesSp_eq {e : GEntry} (h : GEntry.ok e) : refbytesSp [vEntry e] [] = some ⟨.own 0 0 (bytesE e).length, [rowOf (bytesE e)]⟩ :=
  fam_eq (A := fun e : GEntry => [vEntry e]) (fun i j h _ => by simp at h; rw [h]) e h
def rbStE (L : List Int) (i : Nat × List UInt8) : St :=
  mkSt [(3, .own 1 0 i.2.length), (4, .own 0 0 9), (5, .int .i64 i.1)] [(0, ⟨3, 1, intRow L, true, 2, .rw⟩), (1, rowOf i.2)] 2
set_option maxHeartbeats 40000000 in
theorem refbytes_spec : Lift.Spec Tryz.prog 36 refbytesSp := by
  refine spec_fam (C := CE9) types_ok CE9_ok follows Tryz.func36 (by kernel_rfl) rfl (by kernel_rfl) rfl ?_
  rintro e h
  try simp only at h
  refine ⟨by simp, ?_⟩
  intro r hr
  simp [GEntry.cells]
  refine axwp_loop (rbStE (entL e)) (fun i => i.1 ≤ 9 ∧ i.2 = encTo ((entL e).take i.1)) (fun i => 9 - i.1) (0, []) ?_ ⟨Nat.zero_le _, rfl⟩ ?_
  · refine (weak_nil 3 999 (sz := 1) (rowOf []) ?_ ?_ ?_).trans (weak_at [.inr 4, .inr 3] ?_ ?_ ?_ ?_) <;> simp [rowOf, entL, intRow]
  · have hl : (entL e).length = 9 := rfl
    have h64 := entL_64 h
    have hle := encTo_le h
    have hb : bytesE e = encTo (entL e) := rfl
    generalize entL e = L at *
    rintro ⟨i, acc⟩ ⟨hi, ha⟩
    simp only at hi ha
    by_cases hik : i < 9
    · have hacc : acc.length ≤ 90 := by rw [ha]; exact hle i
      have q5 : (acc.length : Int) ≤ 140737488351222 := by omega
      obtain ⟨x, hx, hx', _⟩ := get_of_lt (l := L) (k := i) (by omega)
      have hxi : In64 x := h64 x (List.mem_of_getElem? hx)
      have hstep := encTo_take hx
      rw [← ha] at hstep
      have w4 : IntKind.i64.wrap ((i : Int) + 1) = (i : Int) + 1 := wrap_i64_in (by omega) (by omega)
      have hi9 : (i : Int) < 9 := by omega
      simp [rbStE, hik, hi9, hx', hl, hxi, q5, rowOf]
      refine Again.mk (i + 1, _) ⟨hik, hstep.symm⟩ (by show 9 - (i + 1) < 9 - i; omega) ?_
      refine weak_at [.inr 4, .inr 3] ?_ ?_ ?_ ?_ <;> simp [rowOf, w4]
    · have e9 : i = 9 := by omega
      subst e9
      simp [rbStE, rowOf]
      rw [hr]
      rw [show L.take 9 = L by rw [← hl, List.take_length]] at ha
      refine ret_at [.inr 2] rfl ?_ ?_ (by simp) ?_ ?_ ?_ ?_ <;> simp [rowOf, ha, hb]

/-! ### Reading -/
/-- An entry out of numbers. -/
def entOf (vs : List Int) : GEntry := ⟨vs.getD 0 0, vs.getD 1 0, vs.getD 2 0, vs.getD 3 0, vs.getD 4 0, vs.getD 5 0, vs.getD 6 0, vs.getD 7 0, vs.getD 8 0⟩
noncomputable def rdN : Nat → List UInt8 → List Int → Nat → List Int × Nat × Int
  | 0, _, vs, u => (vs, u, 0)
  | m + 1, l, vs, u => if (takeT (l.drop u)).2.2 = 0 then rdN m l (vs ++ [(takeT (l.drop u)).1]) (u + (takeT (l.drop u)).2.1.toNat) else ([], 0, (takeT (l.drop u)).2.2)
noncomputable def rdT (l : List UInt8) : List Int × Nat × Int := hush (rdN 9 l [] 0)
theorem rdT_eq (l : List UInt8) : rdT l = rdN 9 l [] 0 := hush_eq _
def zeroE : GEntry := ⟨0, 0, 0, 0, 0, 0, 0, 0, 0⟩
/-- What Read answers. -/
noncomputable def readE0 (l : List UInt8) : GEntry × Int × Int :=
  if (rdT l).2.2 = 0 then (if shapeE (entOf (rdT l).1) = true then (entOf (rdT l).1, ((rdT l).2.1 : Int), 0) else (zeroE, 0, 18)) else (zeroE, 0, (rdT l).2.2)
noncomputable def readE (l : List UInt8) : GEntry × Int × Int := hush (readE0 l)
theorem readE_eq (l : List UInt8) : readE l = readE0 l := hush_eq _
noncomputable def readV (l : List UInt8) : V := .tup [vEntry (readE l).1, .int .i64 (readE l).2.1, .int .i64 (readE l).2.2]
theorem readV_of {l : List UInt8} {e : GEntry} {u x : Int} (h : readE l = (e, u, x)) : readV l = .tup [.agg (GEntry.cells e), .int .i64 u, .int .i64 x] := by rw [readV, h]; rfl
noncomputable def readSp := fam (fun i : Nat × List UInt8 => [V.sl i.1 1 (byteRow i.2)]) (fun _ => []) (fun i => (i.2.length : Int) ≤ 140737488355328) (fun i => ⟨readV i.2, []⟩)
@[simp] theorem readSp_eq {t : Nat} {l : List UInt8} (h : (l.length : Int) ≤ 140737488355328) : readSp [V.sl t 1 (byteRow l)] [] = some ⟨readV l, []⟩ :=
  fam_eq (A := fun i : Nat × List UInt8 => [V.sl i.1 1 (byteRow i.2)]) (fun i j h _ => by simp at h; rw [h.2]) (t, l) h

noncomputable def CEA := mkC [(107, fieldsSp), (92, shapeSp), (56, shapeSp), (87, takeSp), (65, takeSp)]
theorem CEA_ok : SpecsOk Tryz.prog CEA := mkC_ok (all_cons fields_spec (all_cons shape_spec (all_cons refshape_spec (all_cons take_spec (all_cons reftake_spec all_nil)))))
@[simp] theorem CEA_1 : CEA 107 = fieldsSp := rfl
@[simp] theorem CEA_2 : CEA 92 = shapeSp := rfl
@[simp] theorem CEA_3 : CEA 56 = shapeSp := rfl
@[simp] theorem CEA_4 : CEA 87 = takeSp := rfl
@[simp] theorem CEA_5 : CEA 65 = takeSp := rfl

structure RdOk (l : List UInt8) (i : Nat) (vs : List Int) (u : Nat) : Prop where
  le : i ≤ 9
  len : vs.length = i
  ul : u ≤ l.length
  tot : rdN (9 - i) l vs u = rdT l
theorem RdOk.init (l : List UInt8) : RdOk l 0 [] 0 := ⟨Nat.zero_le _, rfl, Nat.zero_le _, (rdT_eq l).symm⟩
theorem RdOk.bad {l : List UInt8} {i : Nat} {vs : List Int} {u : Nat} (h : RdOk l i vs u) (hi : i < 9) {n k e : Int} (ht : takeT (l.drop u) = (n, k, e)) (he : ¬ e = 0) : readE l = (zeroE, 0, e) := by
  have := h.tot
  obtain ⟨m, hm⟩ : ∃ m, 9 - i = m + 1 := ⟨8 - i, by omega⟩
  rw [hm, rdN, ht] at this
  simp only at this
  rw [if_neg he] at this
  rw [readE_eq, readE0, ← this]
  simp [he]
theorem RdOk.good {l : List UInt8} {i : Nat} {vs : List Int} {u : Nat} (h : RdOk l i vs u) (hi : i < 9) {n k : Int} (ht : takeT (l.drop u) = (n, k, 0)) : RdOk l (i + 1) (vs ++ [n]) (u + k.toNat) ∧ 0 ≤ k := by
  obtain ⟨_, rest, h1, h2⟩ := takeT_back ht
  have h3 := h.tot
  obtain ⟨m, hm⟩ : ∃ m, 9 - i = m + 1 := ⟨8 - i, by omega⟩
  rw [hm, rdN, ht] at h3
  simp only [if_true] at h3
  have hl := congrArg List.length h1
  rw [List.length_drop, List.length_append] at hl
  have := h.ul
  refine ⟨⟨hi, by simp [h.len], by omega, ?_⟩, by omega⟩
  rw [show 9 - (i + 1) = m by omega]; exact h3
theorem RdOk.fin {l : List UInt8} {vs : List Int} {u : Nat} (h : RdOk l 9 vs u) : readE l = if shapeE (entOf vs) = true then (entOf vs, (u : Int), 0) else (zeroE, 0, 18) := by
  have := h.tot
  rw [show 9 - 9 = 0 from rfl, rdN] at this
  rw [readE_eq, readE0, ← this]
  rfl
def rdSt (t : Nat) (l : List UInt8) (i : Nat × List Int × Nat) : St :=
  mkSt [(0, .sl t 1 (byteRow l)), (2, .ptr 1 0 0), (5, .ptr 0 0 0), (6, .int .i64 i.2.2), (12, .agg [.ptr 0 0 0, .ptr 0 0 1, .ptr 0 0 2, .ptr 0 0 3, .ptr 0 0 4, .ptr 0 0 5, .ptr 0 0 6, .ptr 0 0 7, .ptr 0 0 8]), (13, .int .i64 i.1)] [(0, entO (entOf i.2.1)), (1, entO zeroE)] 2
set_option maxHeartbeats 40000000 in
theorem read_spec : Lift.Spec Tryz.prog 102 readSp := by
  refine spec_fam (C := CEA) types_ok CEA_ok follows Tryz.func102 (by kernel_rfl) rfl (by kernel_rfl) rfl ?_
  rintro ⟨t, l⟩ hl
  try simp only at hl
  refine ⟨by simp, ?_⟩
  intro r hr
  have hN := fieldsSp_eq (e := zeroE)
  simp only [entO, GEntry.cells, zeroE] at hN
  simp [hN]
  refine axwp_loop (rdSt t l) (fun i => RdOk l i.1 i.2.1 i.2.2) (fun i => 9 - i.1) (0, [], 0) ?_ (RdOk.init l) ?_
  · refine weak_at [.inr 5, .inr 2] ?_ ?_ ?_ ?_ <;> simp [entO, GEntry.cells, entOf, zeroE]
  · rintro ⟨i, vs, u⟩ hI
    simp only at hI
    by_cases hik : i < 9
    · have hu := hI.ul
      have hvl := hI.len
      have hu' : (u : Int) ≤ (l.length : Int) := by omega
      have htd : (l.drop u).take (l.length - u) = l.drop u := List.take_of_length_le (by simp)
      rcases hT : takeT (l.drop u) with ⟨n, k, e⟩
      have h9 := nine hik
      by_cases he : e = 0
      · subst he
        obtain ⟨hG, hk⟩ := hI.good hik hT
        have hGu := hG.ul
        have wk : IntKind.i64.wrap ((u : Int) + k) = (u : Int) + k := wrap_i64_in (by omega) (by omega)
        have hkk : ((u + k.toNat : Nat) : Int) = (u : Int) + k := by omega
        clear hI
        rcases h9 with rfl | rfl | rfl | rfl | rfl | rfl | rfl | rfl | rfl
        all_goals
          simp [rdSt, entO, GEntry.cells, entOf, zeroE, takeV, htd, hT, hu', wk]
          refine Again.mk (_, _, _) hG (by simp) ?_
          refine weak_at [.inl 0, .inl 1] ?_ ?_ ?_ ?_ <;> simp [entO, GEntry.cells, entOf, zeroE, hkk, hvl]
      · have hB := hI.bad hik hT he
        clear hI
        rcases h9 with rfl | rfl | rfl | rfl | rfl | rfl | rfl | rfl | rfl
        all_goals
          simp [rdSt, entO, GEntry.cells, entOf, zeroE, takeV, htd, hT, hu', he]
          rw [hr]; refine ret_closed rfl ?_ rfl
          show _ = some (readV l)
          rw [readV_of hB]
          simp [zeroE, GEntry.cells]
    · have e9 : i = 9 := by have := hI.le; omega
      subst e9
      have hF := hI.fin
      cases hs : shapeE (entOf vs)
      · simp [rdSt, entO, GEntry.cells, zeroE, hs]
        rw [hr]; refine ret_closed rfl ?_ rfl
        show _ = some (readV l)
        rw [readV_of (by rw [hF, hs]; first | done | rfl)]
        simp [zeroE, GEntry.cells]
      · simp [rdSt, entO, GEntry.cells, zeroE, hs]
        rw [hr]; refine ret_closed rfl ?_ rfl
        show _ = some (readV l)
        rw [readV_of (by rw [hF, hs]; first | done | rfl)]
        simp [GEntry.cells]

def rrSt (t : Nat) (l : List UInt8) (i : Nat × List Int × Nat) : St :=
  mkSt [(0, .sl t 1 (byteRow l)), (2, .ptr 1 0 0), (5, .ptr 0 0 0), (6, .int .i64 i.2.2), (7, .int .i64 i.1)] [(0, ⟨105, 9, [GEntry.cells (entOf i.2.1)], true, 2, .rw⟩), (1, entO zeroE)] 2
set_option maxHeartbeats 40000000 in
theorem refread_spec : Lift.Spec Tryz.prog 66 readSp := by
  refine spec_fam (C := CEA) types_ok CEA_ok follows Tryz.func66 (by kernel_rfl) rfl (by kernel_rfl) rfl ?_
  rintro ⟨t, l⟩ hl
  try simp only at hl
  refine ⟨by simp, ?_⟩
  intro r hr
  simp
  refine axwp_loop (rrSt t l) (fun i => RdOk l i.1 i.2.1 i.2.2) (fun i => 9 - i.1) (0, [], 0) ?_ (RdOk.init l) ?_
  · refine weak_at [.inr 5, .inr 2] ?_ ?_ ?_ ?_ <;> simp [entO, GEntry.cells, entOf, zeroE]
  · rintro ⟨i, vs, u⟩ hI
    simp only at hI
    by_cases hik : i < 9
    · have hu := hI.ul
      have hvl := hI.len
      have hu' : (u : Int) ≤ (l.length : Int) := by omega
      have htd : (l.drop u).take (l.length - u) = l.drop u := List.take_of_length_le (by simp)
      rcases hT : takeT (l.drop u) with ⟨n, k, e⟩
      have h9 := nine hik
      by_cases he : e = 0
      · subst he
        obtain ⟨hG, hk⟩ := hI.good hik hT
        have hGu := hG.ul
        have wk : IntKind.i64.wrap ((u : Int) + k) = (u : Int) + k := wrap_i64_in (by omega) (by omega)
        have hkk : ((u + k.toNat : Nat) : Int) = (u : Int) + k := by omega
        clear hI
        rcases h9 with rfl | rfl | rfl | rfl | rfl | rfl | rfl | rfl | rfl
        all_goals
          simp [rrSt, entO, GEntry.cells, entOf, zeroE, takeV, htd, hT, hu', wk]
          refine Again.mk (_, _, _) hG (by simp) ?_
          refine weak_at [.inl 0, .inl 1] ?_ ?_ ?_ ?_ <;> simp [entO, GEntry.cells, entOf, zeroE, hkk, hvl]
      · have hB := hI.bad hik hT he
        clear hI
        rcases h9 with rfl | rfl | rfl | rfl | rfl | rfl | rfl | rfl | rfl
        all_goals
          simp [rrSt, entO, GEntry.cells, entOf, zeroE, takeV, htd, hT, hu', he]
          rw [hr]; refine ret_closed rfl ?_ rfl
          show _ = some (readV l)
          rw [readV_of hB]
          simp [zeroE, GEntry.cells]
    · have e9 : i = 9 := by have := hI.le; omega
      subst e9
      have hF := hI.fin
      cases hs : shapeE (entOf vs)
      · simp [rrSt, entO, GEntry.cells, zeroE, hs]
        rw [hr]; refine ret_closed rfl ?_ rfl
        show _ = some (readV l)
        rw [readV_of (by rw [hF, hs]; first | done | rfl)]
        simp [zeroE, GEntry.cells]
      · simp [rrSt, entO, GEntry.cells, zeroE, hs]
        rw [hr]; refine ret_closed rfl ?_ rfl
        show _ = some (readV l)
        rw [readV_of (by rw [hF, hs]; first | done | rfl)]
        simp [GEntry.cells]
end Go.Proofs.YtlelalnahlpcpaaGreat
