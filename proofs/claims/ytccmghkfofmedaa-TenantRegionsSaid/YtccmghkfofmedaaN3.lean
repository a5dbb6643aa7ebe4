/-
  tenant: the sort by insertion, as slices.SortFunc makes it of few elements.
-/
import Derived.Test.YtccmghkfofmedaaN2
namespace Go.Proofs.Ytccmghkfofmedaa
open Go.Lift

noncomputable def CS3 := mkC [(47, ordCmpSp)]
theorem CS3_ok : SpecsOk Try.prog CS3 := mkC_ok (all_cons ordCmp_spec all_nil)
@[simp] theorem CS3_1 : CS3 47 = ordCmpSp := rfl

def natI (l : List Nat) : List Int := l.map fun (k : Nat) => (k : Int)
@[simp] theorem natI_length (l : List Nat) : (natI l).length = l.length := by simp [natI]
def srtO (L : List Int) : AObj := ⟨3, 1, intRow L, true, 2, .rw⟩
def lstN (C : GConfig) (i : Nat) : List Nat := ordN C (min i C.Tenants.length) ++ List.range' (min i C.Tenants.length) (C.Tenants.length - min i C.Tenants.length)
theorem lstN_len (C : GConfig) (i : Nat) : (lstN C i).length = C.Tenants.length := by simp [lstN, ordN_len]; omega
theorem lstN_first (C : GConfig) : lstN C 1 = List.range C.Tenants.length := by
  unfold lstN
  cases h : C.Tenants.length with
  | zero => rfl
  | succ n =>
    rw [show min 1 (n + 1) = 1 by omega, show n + 1 - 1 = n by omega, List.range_eq_range']
    rfl
theorem lstN_last {C : GConfig} {i : Nat} (h : C.Tenants.length ≤ i) : lstN C i = ordN C C.Tenants.length := by
  unfold lstN
  rw [show min i C.Tenants.length = C.Tenants.length by omega, Nat.sub_self]; simp
theorem lstN_at {C : GConfig} {i : Nat} (h : i < C.Tenants.length) : lstN C i = ordN C i ++ i :: List.range' (i + 1) (C.Tenants.length - i - 1) := by
  unfold lstN
  rw [show min i C.Tenants.length = i by omega]
  congr 1
  rw [show C.Tenants.length - i = (C.Tenants.length - i - 1) + 1 by omega, List.range'_succ]; simp
theorem lstN_next {C : GConfig} {i : Nat} (h : i < C.Tenants.length) : lstN C (i + 1) = ordN C (i + 1) ++ List.range' (i + 1) (C.Tenants.length - i - 1) := by
  unfold lstN
  rw [show min (i + 1) C.Tenants.length = i + 1 by omega, show C.Tenants.length - (i + 1) = C.Tenants.length - i - 1 by omega]

/-- A state of the inner loop: element i on its way, at place j. -/
def Way (C : GConfig) (i j : Nat) (L : List Int) : Prop := ∃ A B, L = natI (A ++ i :: (B ++ List.range' (i + 1) (C.Tenants.length - i - 1))) ∧ A.length = j ∧ ordN C i = A ++ B ∧ ∀ y ∈ B, bef C i y = true
theorem Way.first {C : GConfig} {i : Nat} (h : i < C.Tenants.length) : Way C i i (natI (lstN C i)) := ⟨ordN C i, [], by rw [lstN_at h]; rfl, ordN_len C i, by simp, by simp⟩
theorem Way.len {C : GConfig} {i j : Nat} {L : List Int} (hi : i < C.Tenants.length) (h : Way C i j L) : L.length = C.Tenants.length := by
  obtain ⟨A, B, rfl, h2, h3, _⟩ := h
  have := ordN_len C i
  rw [h3] at this
  simp at this ⊢; omega
theorem Way.le {C : GConfig} {i j : Nat} {L : List Int} (h : Way C i j L) : j ≤ i := by
  obtain ⟨A, B, rfl, h2, h3, _⟩ := h
  have := ordN_len C i
  rw [h3] at this
  simp at this; omega
theorem Way.stop0 {C : GConfig} {i : Nat} {L : List Int} (hi : i < C.Tenants.length) (h : Way C i 0 L) : L = natI (lstN C (i + 1)) := by
  obtain ⟨A, B, rfl, h2, h3, h4⟩ := h
  have : A = [] := List.eq_nil_of_length_eq_zero h2
  subst this
  rw [lstN_next hi]
  congr 1
  have : ordN C (i + 1) = i :: B := by
    show insN C i (ordN C i) = _
    rw [h3, insN_split (by simp) (fun y hy => bef_asymm (h4 y (List.mem_of_mem_head? hy)))]; rfl
  rw [this]; simp
/-- One round. -/
theorem Way.round {C : GConfig} {i k : Nat} {L : List Int} (hi : i < C.Tenants.length) (h : Way C i (k + 1) L) : ∃ a : Nat, a < i ∧ L[k + 1]? = some (i : Int) ∧ L[k]? = some (a : Int) ∧
    (bef C i a = true → Way C i k ((L.set (k + 1) (a : Int)).set k (i : Int))) ∧ (bef C i a = false → L = natI (lstN C (i + 1))) := by
  obtain ⟨A, B, rfl, h2, h3, h4⟩ := h
  have hne : A ≠ [] := fun e => by rw [e] at h2; simp at h2
  obtain ⟨A', a, rfl⟩ : ∃ A' a, A = A' ++ [a] := ⟨A.dropLast, A.getLast hne, (List.dropLast_concat_getLast hne).symm⟩
  have hk : A'.length = k := by simp at h2; exact h2
  have ha : a < i := ordN_mem (C := C) (n := i) (by rw [h3]; simp)
  subst hk
  have hs := ordN_sorted C i
  rw [h3] at hs
  refine ⟨a, ha, by simp [natI], by simp [natI], fun hb => ⟨A', a :: B, ?_, rfl, by rw [h3]; simp, fun y hy => ?_⟩, fun hb => ?_⟩
  · simp [natI]
  · rcases List.mem_cons.1 hy with rfl | hy
    · exact hb
    · exact h4 y hy
  · have hai : bef C a i = true := bef_total (by omega) hb
    rw [lstN_next hi]
    congr 1
    have : ordN C (i + 1) = A' ++ [a] ++ i :: B := by
      show insN C i (ordN C i) = _
      rw [h3]
      refine insN_split (fun y hy => ?_) (fun y hy => bef_asymm (h4 y (List.mem_of_mem_head? hy)))
      rcases List.mem_append.1 hy with hy | hy
      · have := (List.pairwise_append.1 (List.pairwise_append.1 hs).1).2.2 y hy a (by simp)
        exact bef_trans this hai
      · simp at hy; subst hy; exact hai
    rw [this]; simp

noncomputable def isortSp := fam (fun i : GConfig => [V.own 0 0 i.Tenants.length, .int .i64 0, .int .i64 i.Tenants.length, .clo 47 [.pp i.cells]]) (fun i : GConfig => [srtO (natI (List.range i.Tenants.length))]) (fun i : GConfig => (i.Tenants.length ≤ 12)) (fun i : GConfig => ⟨.tup [], [srtO (natI (ordN i i.Tenants.length))]⟩)
@[simp] theorem isortSp_eq {C : GConfig} (h1 : C.Tenants.length ≤ 12) : isortSp ([V.own 0 0 C.Tenants.length, .int .i64 0, .int .i64 C.Tenants.length, .clo 47 [.pp C.cells]]) ([srtO (natI (List.range C.Tenants.length))]) = some (⟨.tup [], [srtO (natI (ordN C C.Tenants.length))]⟩) :=
  fam_eq (A := fun i : GConfig => [V.own 0 0 i.Tenants.length, .int .i64 0, .int .i64 i.Tenants.length, .clo 47 [.pp i.cells]]) (O := fun i : GConfig => [srtO (natI (List.range i.Tenants.length))]) (res := fun i : GConfig => ⟨.tup [], [srtO (natI (ordN i i.Tenants.length))]⟩) (by intro C C' h _; simp at h; rw [GConfig.cells_inj h.2.2]) C h1

def soSt (C : GConfig) (i : Nat) : St := mkSt [(0, .own 0 0 C.Tenants.length), (1, .int .i64 0), (2, .int .i64 C.Tenants.length), (3, .clo 47 [.pp C.cells]), (8, .int .i64 i)] [(0, srtO (natI (lstN C i)))] 1
def isiSt (C : GConfig) (i : Nat) (x : Nat × List Int) : St := mkSt [(0, .own 0 0 C.Tenants.length), (1, .int .i64 0), (2, .int .i64 C.Tenants.length), (3, .clo 47 [.pp C.cells]), (8, .int .i64 i), (9, .int .i64 x.1)] [(0, srtO x.2)] 1
theorem isort_spec : Lift.Spec Try.prog 69 isortSp := by
  refine spec_fam (C := CS3) types_ok CS3_ok follows Try.func69 (by kernel_rfl) rfl (by kernel_rfl) rfl ?_
  rintro C h
  try simp only at h
  refine ⟨by simp, ?_⟩
  intro r hr
  simp
  refine axwp_loop (soSt C) (fun i => 1 ≤ i ∧ (i ≤ C.Tenants.length ∨ i = 1)) (fun i => C.Tenants.length - i) 1 ?_ ⟨by omega, by omega⟩ ?_
  · refine weak_mk id ?_ ?_ ?_ ?_ <;> simp [srtO, lstN_first]
  · rintro i ⟨h1, hi⟩
    by_cases hik : i < C.Tenants.length
    · have hik' : (i : Int) < (C.Tenants.length : Int) := by omega
      simp [soSt, srtO, hik]
      refine axwp_loop (isiSt C i) (fun x => Way C i x.1 x.2) (fun x => x.1) (i, natI (lstN C i)) ?_ (Way.first hik) ?_
      · refine weak_mk id ?_ ?_ ?_ ?_ <;> simp [srtO]
      · rintro ⟨j, L⟩ hw
        have hL := hw.len hik
        have hj := hw.le
        simp only at hL hj
        have w4 : IntKind.i64.wrap ((i : Int) + 1) = (i : Int) + 1 := wrap_i64_in (by omega) (by omega)
        cases j with
        | zero =>
          have hs := hw.stop0 hik
          simp only at hs
          simp [isiSt, srtO]
          refine ⟨⟨by kernel_rfl, by kernel_rfl⟩, ?_⟩
          refine Again.mk (i + 1) ⟨by omega, by omega⟩ (by omega) ?_
          refine weak_mk id ?_ ?_ ?_ ?_ <;> simp [srtO, w4, hs]
        | succ k =>
          obtain ⟨a, ha, g1, g2, n1, n2⟩ := hw.round hik
          have l1 : k + 1 < L.length := by omega
          have l2 : k < L.length := by omega
          have l1' : k + 1 < C.Tenants.length := by omega
          have l2' : k < C.Tenants.length := by omega
          have e1 : L[k + 1] = (i : Int) := by rw [List.getElem?_eq_getElem l1] at g1; simpa using g1
          have e2 : L[k] = (a : Int) := by rw [List.getElem?_eq_getElem l2] at g2; simpa using g2
          have hat : a < C.Tenants.length := by omega
          have q1 : (0 : Int) ≤ (k : Int) + 1 := by omega
          have q2 : (k : Int) + 1 < (C.Tenants.length : Int) := by omega
          have w5 : IntKind.i64.wrap (k : Int) = (k : Int) := wrap_i64_in (by omega) (by omega)
          simp only at n1 n2
          cases hb : bef C i a with
          | true =>
            have hc : cmpV C i a < 0 := cmpV_neg.2 hb
            simp [isiSt, srtO, hL, l1', l2', e1, e2, hat, hik, w5, hc, q1, q2]
            refine ⟨⟨by kernel_rfl, by kernel_rfl⟩, ⟨by kernel_rfl, by kernel_rfl⟩, ?_⟩
            refine Again.mk (k, (L.set (k + 1) (a : Int)).set k (i : Int)) (n1 hb) (by show k < k + 1; omega) ?_
            refine weak_mk id ?_ ?_ ?_ ?_ <;> simp [srtO, intRow_set]
          | false =>
            have hc : ¬ cmpV C i a < 0 := fun e => by rw [cmpV_neg.1 e] at hb; cases hb
            simp [isiSt, srtO, hL, l1', l2', e1, e2, hat, hik, w5, hc, q1, q2]
            refine ⟨⟨by kernel_rfl, by kernel_rfl⟩, ?_⟩
            refine Again.mk (i + 1) ⟨by omega, by omega⟩ (by omega) ?_
            refine weak_mk id ?_ ?_ ?_ ?_ <;> simp [srtO, w4, n2 hb]
    · have hik' : ¬ i < C.Tenants.length := hik
      simp [soSt, srtO, hik]
      rw [hr]
      refine ret_at [.inl 0] rfl ?_ ?_ (by simp) ?_ ?_ ?_ ?_ <;> simp [srtO, lstN_last (show C.Tenants.length ≤ i by omega)]

/-! The number of rounds that the sort may make: nobody looks at it here. -/
def len12 (n : Nat) : Int := if n = 0 then 0 else if n < 2 then 1 else if n < 4 then 2 else if n < 8 then 3 else 4
theorem len12_cases {n : Nat} (h : n ≤ 12) : n = 0 ∨ n = 1 ∨ n = 2 ∨ n = 3 ∨ n = 4 ∨ n = 5 ∨ n = 6 ∨ n = 7 ∨ n = 8 ∨ n = 9 ∨ n = 10 ∨ n = 11 ∨ n = 12 := by omega
noncomputable def bitLenSp := fam (fun i : Nat => [V.int .u64 i]) (fun _ : Nat => []) (fun i : Nat => (i ≤ 12)) (fun i : Nat => ⟨.int .i64 (len12 i), []⟩)
@[simp] theorem bitLenSp_eq {n : Nat} (h1 : n ≤ 12) : bitLenSp ([V.int .u64 n]) ([]) = some (⟨.int .i64 (len12 n), []⟩) :=
  fam_eq (A := fun i : Nat => [V.int .u64 i]) (O := fun _ : Nat => []) (res := fun i : Nat => ⟨.int .i64 (len12 i), []⟩) (by intro a b h _; simp at h; rw [show a = b by omega]) n h1

set_option maxRecDepth 100000 in
theorem bitLen64_spec : Lift.Spec Try.prog 78 bitLenSp := by
  refine spec_fam (C := C0) types_ok C0_ok follows Try.func78 (by kernel_rfl) rfl (by kernel_rfl) rfl ?_
  rintro n h
  try simp only at h
  refine ⟨by simp, ?_⟩
  intro r hr
  have b1 : (n : Int) ≤ 12 := by omega
  have b2 : ¬ (4294967296 : Int) ≤ n := by omega
  have b3 : ¬ (65536 : Int) ≤ n := by omega
  have b4 : ¬ (256 : Int) ≤ n := by omega
  have w8 : IntKind.u8.wrap (n : Int) = (n : Int) := wrap_u8_in (by omega) (by omega)
  simp [b2, b3, b4, w8]
  rcases len12_cases h with rfl | rfl | rfl | rfl | rfl | rfl | rfl | rfl | rfl | rfl | rfl | rfl | rfl
  all_goals
    simp
    rw [hr]; refine ret_closed rfl ?_ rfl
    simp [len12]
noncomputable def CS4 := mkC [(78, bitLenSp)]
theorem CS4_ok : SpecsOk Try.prog CS4 := mkC_ok (all_cons bitLen64_spec all_nil)
@[simp] theorem CS4_1 : CS4 78 = bitLenSp := rfl

theorem bitLen_spec : Lift.Spec Try.prog 65 bitLenSp := by
  refine spec_fam (C := CS4) types_ok CS4_ok follows Try.func65 (by kernel_rfl) rfl (by kernel_rfl) rfl ?_
  rintro n h
  try simp only at h
  refine ⟨by simp, ?_⟩
  intro r hr
  simp [h]
  rw [hr]; refine ret_closed rfl ?_ rfl
  simp
@[simp] theorem isortSp_sl {a b : Nat} {c : List (List V)} {v : List V} {os : List AObj} : isortSp (V.sl a b c :: v) os = none := fam_none (fun i h _ => by simp at h)
@[simp] theorem isortSp_at {C : GConfig} (h : C.Tenants.length ≤ 12) : isortSp [V.own 0 0 C.Tenants.length, .int .i64 0, .int .i64 C.Tenants.length, .clo 47 [.pp C.cells]] [⟨3, 1, intRow (natI (List.range C.Tenants.length)), true, 2, .rw⟩] = some ⟨.tup [], [srtO (natI (ordN C C.Tenants.length))]⟩ := isortSp_eq (C := C) h
noncomputable def CS5 := mkC [(69, isortSp)]
theorem CS5_ok : SpecsOk Try.prog CS5 := mkC_ok (all_cons isort_spec all_nil)
@[simp] theorem CS5_1 : CS5 69 = isortSp := rfl

noncomputable def pdqSp := fam (fun i : GConfig × Int => [V.own 0 0 i.1.Tenants.length, .int .i64 0, .int .i64 i.1.Tenants.length, .int .i64 i.2, .clo 47 [.pp i.1.cells]]) (fun i : GConfig × Int => [srtO (natI (List.range i.1.Tenants.length))]) (fun i : GConfig × Int => (i.1.Tenants.length ≤ 12)) (fun i : GConfig × Int => ⟨.tup [], [srtO (natI (ordN i.1 i.1.Tenants.length))]⟩)
@[simp] theorem pdqSp_eq {C : GConfig} {x : Int} (h1 : C.Tenants.length ≤ 12) : pdqSp ([V.own 0 0 C.Tenants.length, .int .i64 0, .int .i64 C.Tenants.length, .int .i64 x, .clo 47 [.pp C.cells]]) ([srtO (natI (List.range C.Tenants.length))]) = some (⟨.tup [], [srtO (natI (ordN C C.Tenants.length))]⟩) :=
  fam_eq (A := fun i : GConfig × Int => [V.own 0 0 i.1.Tenants.length, .int .i64 0, .int .i64 i.1.Tenants.length, .int .i64 i.2, .clo 47 [.pp i.1.cells]]) (O := fun i : GConfig × Int => [srtO (natI (List.range i.1.Tenants.length))]) (res := fun i : GConfig × Int => ⟨.tup [], [srtO (natI (ordN i.1 i.1.Tenants.length))]⟩) (by rintro ⟨C, x⟩ ⟨C', x'⟩ h _; simp at h; rw [GConfig.cells_inj h.2.2.2]) (C, x) h1

def pdSt (C : GConfig) (x : Int) (_ : Nat) : St := mkSt [(0, .own 0 0 C.Tenants.length), (1, .int .i64 0), (2, .int .i64 C.Tenants.length), (3, .int .i64 x), (4, .clo 47 [.pp C.cells]), (10, .bool true), (11, .bool true)] [(0, srtO (natI (List.range C.Tenants.length)))] 1
theorem pdq_spec : Lift.Spec Try.prog 64 pdqSp := by
  refine spec_fam (C := CS5) types_ok CS5_ok follows Try.func64 (by kernel_rfl) rfl (by kernel_rfl) rfl ?_
  rintro ⟨C, x⟩ h
  try simp only at h
  refine ⟨by simp, ?_⟩
  intro r hr
  have h' : (C.Tenants.length : Int) ≤ 12 := by omega
  have w0 : IntKind.i64.wrap (C.Tenants.length : Int) = (C.Tenants.length : Int) := wrap_i64_in (by omega) (by omega)
  simp
  refine axwp_loop (pdSt C x) (fun _ => True) (fun i => i) 0 ?_ trivial ?_
  · refine weak_mk id ?_ ?_ ?_ ?_ <;> simp [srtO]
  · intro i _
    simp [pdSt, srtO, h, h', w0]
    rw [hr]
    refine ret_at [.inl 0] rfl ?_ ?_ (by simp) ?_ ?_ ?_ ?_ <;> simp [srtO]

noncomputable def sortSp := fam (fun i : GConfig => [V.own 0 0 i.Tenants.length, .clo 47 [.pp i.cells]]) (fun i : GConfig => [srtO (natI (List.range i.Tenants.length))]) (fun i : GConfig => (i.Tenants.length ≤ 12)) (fun i : GConfig => ⟨.tup [], [srtO (natI (ordN i i.Tenants.length))]⟩)
@[simp] theorem sortSp_eq {C : GConfig} (h1 : C.Tenants.length ≤ 12) : sortSp ([V.own 0 0 C.Tenants.length, .clo 47 [.pp C.cells]]) ([srtO (natI (List.range C.Tenants.length))]) = some (⟨.tup [], [srtO (natI (ordN C C.Tenants.length))]⟩) :=
  fam_eq (A := fun i : GConfig => [V.own 0 0 i.Tenants.length, .clo 47 [.pp i.cells]]) (O := fun i : GConfig => [srtO (natI (List.range i.Tenants.length))]) (res := fun i : GConfig => ⟨.tup [], [srtO (natI (ordN i i.Tenants.length))]⟩) (by intro C C' h _; simp at h; rw [GConfig.cells_inj h.2]) C h1

@[simp] theorem pdqSp_sl {a b : Nat} {c : List (List V)} {v : List V} {os : List AObj} : pdqSp (V.sl a b c :: v) os = none := fam_none (fun i h _ => by simp at h)
@[simp] theorem pdqSp_at {C : GConfig} {x : Int} (h : C.Tenants.length ≤ 12) : pdqSp [V.own 0 0 C.Tenants.length, .int .i64 0, .int .i64 C.Tenants.length, .int .i64 x, .clo 47 [.pp C.cells]] [⟨3, 1, intRow (natI (List.range C.Tenants.length)), true, 2, .rw⟩] = some ⟨.tup [], [srtO (natI (ordN C C.Tenants.length))]⟩ := pdqSp_eq (C := C) (x := x) h
noncomputable def CS6 := mkC [(65, bitLenSp), (64, pdqSp)]
theorem CS6_ok : SpecsOk Try.prog CS6 := mkC_ok (all_cons bitLen_spec (all_cons pdq_spec all_nil))
@[simp] theorem CS6_1 : CS6 65 = bitLenSp := rfl
@[simp] theorem CS6_2 : CS6 64 = pdqSp := rfl

theorem sort_spec : Lift.Spec Try.prog 46 sortSp := by
  refine spec_fam (C := CS6) types_ok CS6_ok follows Try.func46 (by kernel_rfl) rfl (by kernel_rfl) rfl ?_
  rintro C h
  try simp only at h
  refine ⟨by simp, ?_⟩
  intro r hr
  have w0 : IntKind.u64.wrap (C.Tenants.length : Int) = (C.Tenants.length : Int) := wrap_u64_in (by omega) (by omega)
  simp [srtO, h, w0]
  rw [hr]
  refine ret_at [.inl 0] rfl ?_ ?_ (by simp) ?_ ?_ ?_ ?_ <;> simp [srtO]

@[simp] theorem sortSp_sl {a b : Nat} {c : List (List V)} {v : List V} {os : List AObj} : sortSp (V.sl a b c :: v) os = none := fam_none (fun i h _ => by simp at h)
@[simp] theorem sortSp_at {C : GConfig} (h : C.Tenants.length ≤ 12) : sortSp [V.own 0 0 C.Tenants.length, .clo 47 [.pp C.cells]] [⟨3, 1, intRow (natI (List.range C.Tenants.length)), true, 2, .rw⟩] = some ⟨.tup [], [srtO (natI (ordN C C.Tenants.length))]⟩ := sortSp_eq (C := C) h
noncomputable def CS7 := mkC [(46, sortSp)]
theorem CS7_ok : SpecsOk Try.prog CS7 := mkC_ok (all_cons sort_spec all_nil)
@[simp] theorem CS7_1 : CS7 46 = sortSp := rfl

noncomputable def orderSp := fam (fun i : GConfig => [vConfig i]) (fun _ : GConfig => []) (fun i : GConfig => (i.Tenants.length ≤ 12)) (fun i : GConfig => ⟨.sl 2 1 (intRow (natI (ordN i i.Tenants.length))), []⟩)
@[simp] theorem orderSp_eq {C : GConfig} (h1 : C.Tenants.length ≤ 12) : orderSp ([vConfig C]) ([]) = some (⟨.sl 2 1 (intRow (natI (ordN C C.Tenants.length))), []⟩) :=
  fam_eq (A := fun i : GConfig => [vConfig i]) (O := fun _ : GConfig => []) (res := fun i : GConfig => ⟨.sl 2 1 (intRow (natI (ordN i i.Tenants.length))), []⟩) (by intro a b h h' <;> simp at h h' <;> simp_all) C h1

def fillI (m i : Nat) : List Int := natI (List.range i) ++ List.replicate (m - i) 0
theorem fillI_len {m i : Nat} (h : i ≤ m) : (fillI m i).length = m := by simp [fillI]; omega
theorem fillI_zero (m : Nat) : fillI m 0 = List.replicate m 0 := by simp [fillI, natI]
theorem fillI_all (m : Nat) : fillI m m = natI (List.range m) := by simp [fillI]
theorem fillI_set {m i : Nat} (h : i < m) : (fillI m i).set i (i : Int) = fillI m (i + 1) := by
  unfold fillI
  rw [List.set_append_right _ _ (by simp)]
  simp only [natI_length, List.length_range, Nat.sub_self]
  rw [show m - i = (m - (i + 1)) + 1 by omega, List.replicate_succ, List.set_cons_zero, List.range_succ]
  simp [natI]
def ofSt (C : GConfig) (i : Nat) : St := mkSt [(1, .pp C.cells), (3, .own 0 0 C.Tenants.length), (10, .int .i64 C.Tenants.length), (11, .int .i64 i)] [(0, srtO (fillI C.Tenants.length i))] 1
theorem order_spec : Lift.Spec Try.prog 27 orderSp := by
  refine spec_fam (C := CS7) types_ok CS7_ok follows Try.func27 (by kernel_rfl) rfl (by kernel_rfl) rfl ?_
  rintro C h
  try simp only at h
  refine ⟨by simp, ?_⟩
  intro r hr
  have h' : (C.Tenants.length : Int) ≤ 12 := by omega
  have m1 : (C.Tenants.length : Int) ≤ 140737488351232 := by omega
  have m2 : 8 * (C.Tenants.length : Int) ≤ 140737488355328 := by omega
  simp [GConfig.cells, m1, m2]
  refine axwp_loop (ofSt C) (fun i => i ≤ C.Tenants.length) (fun i => C.Tenants.length - i) 0 ?_ (Nat.zero_le _) ?_
  · refine (weak_pp 1 0 (cfgO C) C.cells ?_ ?_ (by simp [cfgO]) ?_ rfl).trans (weak_at [.inr 3] ?_ ?_ ?_ ?_)
    · simp
    · simp [cfgO, GConfig.cells]
    · unfold cfgO; simp only; split <;> decide
    all_goals simp [srtO, fillI_zero, intRow]
  · intro i hi
    have hl := fillI_len hi
    have w4 : IntKind.i64.wrap ((i : Int) + 1) = (i : Int) + 1 := wrap_i64_in (by omega) (by omega)
    by_cases hik : i < C.Tenants.length
    · simp [ofSt, srtO, hik, hl]
      refine Again.mk (i + 1) hik (by omega) ?_
      refine weak_mk id ?_ ?_ ?_ ?_ <;> simp [srtO, w4, intRow_set, fillI_set hik]
    · have e : i = C.Tenants.length := by omega
      subst e
      simp [ofSt, srtO, fillI_all, h]
      rw [hr]
      have ht : List.take C.Tenants.length (natI (ordN C C.Tenants.length)) = natI (ordN C C.Tenants.length) := List.take_of_length_le (by simp [ordN_len])
      refine retData [2] ?_ rfl (by simp) ?_
      · simp
      · simp [ordN_len, ht]
end Go.Proofs.Ytccmghkfofmedaa
