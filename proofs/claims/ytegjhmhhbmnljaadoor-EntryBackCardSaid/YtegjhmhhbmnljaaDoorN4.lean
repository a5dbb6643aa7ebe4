/-
  tenant: cells of a tenant, sums, and the order by the reference.
-/
import Derived.Test.YtegjhmhhbmnljaaDoorN3
import Derived.Test.YtegjhmhhbmnljaaDoorP2
namespace Go.Proofs.YtegjhmhhbmnljaaDoor
open Go.Lift

noncomputable def CN4 := mkC [(63, maySp), (64, apartSp)]
theorem CN4_ok : SpecsOk Tryd.prog CN4 := mkC_ok (all_cons refmay_spec (all_cons refapart_spec all_nil))
@[simp] theorem CN4_1 : CN4 63 = maySp := rfl
@[simp] theorem CN4_2 : CN4 64 = apartSp := rfl

def hoP (C : GConfig) (t : Int) : Nat → Bool := fun k => mayB C t k
noncomputable def homesL (C : GConfig) (t : Int) : List Int := idxTo (hoP C t) C.Cells.length
noncomputable def homesSp := fam (fun i : GConfig × Int => [vConfig i.1, .int .i64 i.2]) (fun _ : GConfig × Int => []) (fun i : GConfig × Int => (TopoOk i.1)) (fun i : GConfig × Int => ⟨.sl 2 1 (intRow (homesL i.1 i.2)), []⟩)
@[simp] theorem homesSp_eq {C : GConfig} {t : Int} (h1 : TopoOk C) : homesSp ([vConfig C, .int .i64 t]) ([]) = some (⟨.sl 2 1 (intRow (homesL C t)), []⟩) :=
  fam_eq (A := fun i : GConfig × Int => [vConfig i.1, .int .i64 i.2]) (O := fun _ : GConfig × Int => []) (res := fun i : GConfig × Int => ⟨.sl 2 1 (intRow (homesL i.1 i.2)), []⟩) (by rintro ⟨a0, a1⟩ ⟨b0, b1⟩ h h' <;> simp at h h' <;> simp_all) (C, t) h1

def hoSt (C : GConfig) (t : Int) (i : Nat) : St :=
  mkSt [(1, .int .i64 t), (2, .ptr 0 0 0), (5, .own 1 0 (idxTo (hoP C t) i).length), (9, .int .i64 C.Cells.length), (10, .int .i64 i)] [(0, cfgO C), (1, intsO (idxTo (hoP C t) i))] 2
def horSt (C : GConfig) (t : Int) (i : Nat) : St :=
  mkSt [(1, .int .i64 t), (2, .ptr 0 0 0), (5, .own 1 0 (idxTo (hoP C t) i).length), (6, .int .i64 i)] [(0, cfgO C), (1, intsO (idxTo (hoP C t) i))] 2
theorem refhomes_spec : Lift.Spec Tryd.prog 45 homesSp := by
  refine spec_fam (C := CN4) types_ok CN4_ok follows Tryd.func45 (by kernel_rfl) rfl (by kernel_rfl) rfl ?_
  rintro ⟨C, t⟩ h
  try simp only at h
  refine ⟨by simp, ?_⟩
  intro r hr
  simp [GConfig.cells]
  refine axwp_loop (horSt C t) (fun i => i ≤ C.Cells.length) (fun i => C.Cells.length - i) 0 ?_ (Nat.zero_le _) ?_
  · refine weak_nil_mk 5 77 (sz := 1) (intsO []) (fun n => if n = 1 then 77 else n) ?_ ?_ ?_ ?_ ?_ ?_ <;> simp [intsO, cfgO, idxTo_zero, GConfig.cells]
  · intro i hi
    have hN := h.N
    obtain ⟨q1, q2⟩ := push_ok (idxTo_len (hoP C t) i) (by omega)
    by_cases hik : i < C.Cells.length
    · have w4 : IntKind.i64.wrap ((i : Int) + 1) = (i : Int) + 1 := wrap_i64_in (by omega) (by omega)
      cases hz : mayB C t i with
      | true =>
        have hp : hoP C t i = true := hz
        simp [horSt, cfgO, intsO, GConfig.cells, hik, h, hz, q1, q2]
        refine Again.mk (i + 1) hik (by omega) ?_
        refine weak_at [.inl 0, .inr 5] ?_ ?_ ?_ ?_ <;> simp [cfgO, intsO, GConfig.cells, w4, idxTo_t hp, intRow_push]
      | false =>
        have hp : hoP C t i = false := hz
        simp [horSt, cfgO, intsO, GConfig.cells, hik, h, hz]
        refine Again.mk (i + 1) hik (by omega) ?_
        refine weak_at [.inl 0, .inr 5] ?_ ?_ ?_ ?_ <;> simp [cfgO, intsO, GConfig.cells, w4, idxTo_f hp]
    · have e : i = C.Cells.length := by omega
      subst e
      simp [horSt, cfgO, intsO, GConfig.cells]
      rw [hr]
      refine retData [4] ?_ rfl (by simp) ?_
      · simp
      · simp [homesL]

/-! ### Standbys -/
theorem apart_comm (C : GConfig) (a b : Int) : apartB C a b = apartB C b a := by
  unfold apartB
  congr 1
  apply propext
  exact ⟨fun ⟨x, y, z⟩ => ⟨y, x, fun e => z e.symm⟩, fun ⟨x, y, z⟩ => ⟨y, x, fun e => z e.symm⟩⟩
def sbP (C : GConfig) (t a : Int) : Nat → Bool := fun k => mayB C t k && apartB C k a
noncomputable def standbysL (C : GConfig) (t a : Int) : List Int := idxTo (sbP C t a) C.Cells.length
theorem filter_idxTo (p : Nat → Bool) (q : Int → Bool) (n : Nat) : (idxTo p n).filter q = idxTo (fun k => p k && q k) n := by
  unfold idxTo
  rw [List.filter_map, List.filter_filter]
  congr 1
  exact List.filter_congr fun k _ => by simp [Function.comp, Bool.and_comm]
theorem standbys_eq (C : GConfig) (t a : Int) : standbysL C t a = (homesL C t).filter fun x => apartB C x a := by
  unfold homesL standbysL
  rw [filter_idxTo]; rfl
/-- The first elements of which something holds. -/
def keepTo (p : Int → Bool) (l : List Int) (i : Nat) : List Int := (l.take i).filter p
theorem keepTo_zero (p : Int → Bool) (l : List Int) : keepTo p l 0 = [] := by simp [keepTo]
theorem keepTo_t {p : Int → Bool} {l : List Int} {i : Nat} {x : Int} (hx : l[i]? = some x) (h : p x = true) : keepTo p l (i + 1) = keepTo p l i ++ [x] := by
  unfold keepTo; rw [List.take_add_one, hx, List.filter_append]; simp [h]
theorem keepTo_f {p : Int → Bool} {l : List Int} {i : Nat} {x : Int} (hx : l[i]? = some x) (h : p x = false) : keepTo p l (i + 1) = keepTo p l i := by
  unfold keepTo; rw [List.take_add_one, hx, List.filter_append]; simp [h]
theorem keepTo_len (p : Int → Bool) (l : List Int) (i : Nat) : (keepTo p l i).length ≤ i := by
  unfold keepTo
  exact Nat.le_trans (List.length_filter_le _ _) (by rw [List.length_take]; omega)
theorem keepTo_all (p : Int → Bool) (l : List Int) : keepTo p l l.length = l.filter p := by simp [keepTo]
theorem homes_len {C : GConfig} (h : TopoOk C) (t : Int) : (homesL C t).length ≤ 16 := Nat.le_trans (idxTo_len _ _) (by have := h.N; omega)

noncomputable def CN5 := mkC [(63, maySp), (64, apartSp)]
theorem CN5_ok : SpecsOk Tryd.prog CN5 := mkC_ok (all_cons refmay_spec (all_cons refapart_spec all_nil))
@[simp] theorem CN5_1 : CN5 63 = maySp := rfl
@[simp] theorem CN5_2 : CN5 64 = apartSp := rfl

noncomputable def standbysSp := fam (fun i : GConfig × Int × Int => [vConfig i.1, .int .i64 i.2.1, .int .i64 i.2.2]) (fun _ : GConfig × Int × Int => []) (fun i : GConfig × Int × Int => (TopoOk i.1)) (fun i : GConfig × Int × Int => ⟨.sl 2 1 (intRow (standbysL i.1 i.2.1 i.2.2)), []⟩)
@[simp] theorem standbysSp_eq {C : GConfig} {t : Int} {a : Int} (h1 : TopoOk C) : standbysSp ([vConfig C, .int .i64 t, .int .i64 a]) ([]) = some (⟨.sl 2 1 (intRow (standbysL C t a)), []⟩) :=
  fam_eq (A := fun i : GConfig × Int × Int => [vConfig i.1, .int .i64 i.2.1, .int .i64 i.2.2]) (O := fun _ : GConfig × Int × Int => []) (res := fun i : GConfig × Int × Int => ⟨.sl 2 1 (intRow (standbysL i.1 i.2.1 i.2.2)), []⟩) (by rintro ⟨a0, a1, a2⟩ ⟨b0, b1, b2⟩ h h' <;> simp at h h' <;> simp_all) (C, t, a) h1

def sbSt (C : GConfig) (a : Int) (l : List Int) (i : Nat) : St :=
  mkSt [(2, .int .i64 a), (3, .ptr 0 0 0), (7, .own 1 0 (keepTo (fun x => apartB C x a) l i).length), (12, .sl 2 1 (intRow l)), (13, .int .i64 l.length), (14, .int .i64 i)] [(0, cfgO C), (1, intsO (keepTo (fun x => apartB C x a) l i))] 2
def sbrSt (C : GConfig) (t a : Int) (i : Nat) : St :=
  mkSt [(1, .int .i64 t), (2, .int .i64 a), (3, .ptr 0 0 0), (7, .own 1 0 (idxTo (sbP C t a) i).length), (8, .int .i64 i)] [(0, cfgO C), (1, intsO (idxTo (sbP C t a) i))] 2
theorem refstandbys_spec : Lift.Spec Tryd.prog 46 standbysSp := by
  refine spec_fam (C := CN4) types_ok CN4_ok follows Tryd.func46 (by kernel_rfl) rfl (by kernel_rfl) rfl ?_
  rintro ⟨C, t, a⟩ h
  try simp only at h
  refine ⟨by simp, ?_⟩
  intro r hr
  simp [GConfig.cells]
  refine axwp_loop (sbrSt C t a) (fun i => i ≤ C.Cells.length) (fun i => C.Cells.length - i) 0 ?_ (Nat.zero_le _) ?_
  · refine weak_nil_mk 7 77 (sz := 1) (intsO []) (fun n => if n = 1 then 77 else n) ?_ ?_ ?_ ?_ ?_ ?_ <;> simp [intsO, cfgO, idxTo_zero, GConfig.cells]
  · intro i hi
    have hN := h.N
    obtain ⟨q1, q2⟩ := push_ok (idxTo_len (sbP C t a) i) (by omega)
    by_cases hik : i < C.Cells.length
    · have w4 : IntKind.i64.wrap ((i : Int) + 1) = (i : Int) + 1 := wrap_i64_in (by omega) (by omega)
      cases hz : mayB C t i with
      | true =>
        cases ha : apartB C a i with
        | true =>
          have hp : sbP C t a i = true := by simp [sbP, hz, apart_comm C i a, ha]
          simp [sbrSt, cfgO, intsO, GConfig.cells, hik, h, hz, ha, q1, q2]
          refine Again.mk (i + 1) hik (by omega) ?_
          refine weak_at [.inl 0, .inr 7] ?_ ?_ ?_ ?_ <;> simp [cfgO, intsO, GConfig.cells, w4, idxTo_t hp, intRow_push]
        | false =>
          have hp : sbP C t a i = false := by simp [sbP, apart_comm C i a, ha]
          simp [sbrSt, cfgO, intsO, GConfig.cells, hik, h, hz, ha]
          refine Again.mk (i + 1) hik (by omega) ?_
          refine weak_at [.inl 0, .inr 7] ?_ ?_ ?_ ?_ <;> simp [cfgO, intsO, GConfig.cells, w4, idxTo_f hp]
      | false =>
        have hp : sbP C t a i = false := by simp [sbP, hz]
        simp [sbrSt, cfgO, intsO, GConfig.cells, hik, h, hz]
        refine Again.mk (i + 1) hik (by omega) ?_
        refine weak_at [.inl 0, .inr 7] ?_ ?_ ?_ ?_ <;> simp [cfgO, intsO, GConfig.cells, w4, idxTo_f hp]
    · have e : i = C.Cells.length := by omega
      subst e
      simp [sbrSt, cfgO, intsO, GConfig.cells]
      rw [hr]
      refine retData [6] ?_ rfl (by simp) ?_
      · simp
      · simp [standbysL]

/-! ### Sums -/
def totTo (C : GConfig) : Nat → Int
  | 0 => 0
  | n + 1 => totTo C n + tnL C n
def LoadsOk (C : GConfig) : Prop := C.Tenants.length ≤ 32 ∧ ∀ t ∈ C.Tenants, 0 ≤ t.Load ∧ t.Load ≤ 65536
theorem LoadsOk.tot {C : GConfig} (h : LoadsOk C) : ∀ {n : Nat}, n ≤ C.Tenants.length → 0 ≤ totTo C n ∧ totTo C n ≤ 65536 * n
  | 0, _ => ⟨by simp [totTo], by simp [totTo]⟩
  | n + 1, hn => by
    obtain ⟨a, b⟩ := h.tot (n := n) (by omega)
    obtain ⟨x, hx, _, hm⟩ := get_of_lt (show n < C.Tenants.length by omega)
    have := h.2 x hm
    simp only [totTo, tnL_at hx]
    omega
noncomputable def totalSp := fam (fun i : GConfig => [vConfig i]) (fun _ : GConfig => []) (fun i : GConfig => (LoadsOk i)) (fun i : GConfig => ⟨.int .i64 (totTo i i.Tenants.length), []⟩)
@[simp] theorem totalSp_eq {C : GConfig} (h1 : LoadsOk C) : totalSp ([vConfig C]) ([]) = some (⟨.int .i64 (totTo C C.Tenants.length), []⟩) :=
  fam_eq (A := fun i : GConfig => [vConfig i]) (O := fun _ : GConfig => []) (res := fun i : GConfig => ⟨.int .i64 (totTo i i.Tenants.length), []⟩) (by intro a b h h' <;> simp at h h' <;> simp_all) C h1

def toSt (C : GConfig) (i : Nat) : St := mkSt [(1, .ptr 0 0 0), (3, .int .i64 (totTo C i)), (7, .sl 2 7 (GTenant.row C.Tenants)), (8, .int .i64 C.Tenants.length), (9, .int .i64 i)] [(0, cfgO C)] 1
def torSt (C : GConfig) (i : Nat) : St := mkSt [(1, .ptr 0 0 0), (3, .int .i64 (totTo C i)), (4, .int .i64 i)] [(0, cfgO C)] 1
/-! ### The order by the reference -/
noncomputable def beforeSp := fam (fun i : GConfig × Nat × Nat => [vConfig i.1, .int .i64 i.2.1, .int .i64 i.2.2]) (fun _ : GConfig × Nat × Nat => []) (fun i : GConfig × Nat × Nat => (i.2.1 < i.1.Tenants.length) ∧ (i.2.2 < i.1.Tenants.length)) (fun i : GConfig × Nat × Nat => ⟨.bool (bef i.1 i.2.1 i.2.2), []⟩)
@[simp] theorem beforeSp_eq {C : GConfig} {a : Nat} {b : Nat} (h1 : a < C.Tenants.length) (h2 : b < C.Tenants.length) : beforeSp ([vConfig C, .int .i64 a, .int .i64 b]) ([]) = some (⟨.bool (bef C a b), []⟩) :=
  fam_eq (A := fun i : GConfig × Nat × Nat => [vConfig i.1, .int .i64 i.2.1, .int .i64 i.2.2]) (O := fun _ : GConfig × Nat × Nat => []) (res := fun i : GConfig × Nat × Nat => ⟨.bool (bef i.1 i.2.1 i.2.2), []⟩) (by rintro ⟨C, a, b⟩ ⟨C', a', b'⟩ h _; simp at h; obtain ⟨h1, h2, h3⟩ := h; rw [h1, show a = a' by omega, show b = b' by omega]) (C, a, b) ⟨h1, h2⟩

end Go.Proofs.YtegjhmhhbmnljaaDoor
