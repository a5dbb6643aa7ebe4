/-
  frame: the laws' own functions.
-/
import Derived.Test.YtgnfgcpolbcaoaaF5
namespace Go.Proofs.Ytgnfgcpolbcaoaa
open Go.Lift

theorem putSp_nil {key : Int} {u : Nat} {p : List UInt8} (hk : In64 key) (hp : p.length ≤ 9223372036854775807) : putSp [V.sl 0 1 [], .int .i64 key, .sl u 1 (byteRow p)] [] = some ⟨.own 0 0 (putB key [] p).length, [rowOf (putB key [] p)]⟩ :=
  putSp_eq (b := []) (by simp) hk (by simp) hp
theorem putB_nil {key : Int} {p : List UInt8} (h : p.length ≤ 65536) : putB key [] p = frB key p := by
  unfold putB; rw [if_neg (by omega)]; rfl
theorem in5' : In64 5 := by unfold In64; omega
theorem putSp_seven : putSp [V.sl 0 1 [], .int .i64 5, .sl 2 1 [[.int .u8 7]]] [] = some ⟨.own 0 0 (frB 5 [7]).length, [rowOf (frB 5 [7])]⟩ := by
  have := putSp_nil (u := 2) (p := [7]) in5' (by simp)
  rw [putB_nil (by simp)] at this
  exact this
theorem frB_seven : (frB 5 [7]).length = 10 := by
  rw [frB_len]
  show (enc (code 1)).length + 8 + 1 = 10
  rw [show code 1 = 2 from rfl, enc_small (by omega)]; rfl

noncomputable def CF7 := mkC [(13, putSp), (14, putSp), (15, frTakeSp), (16, frTakeSp), (19, allSp), (20, allSp), (21, sameLSp), (12, sameSp)]
theorem CF7_ok : SpecsOk Try.prog CF7 := mkC_ok (all_cons put_spec (all_cons refput_spec (all_cons frTake_spec (all_cons refFrTake_spec (all_cons all_spec (all_cons refall_spec2 (all_cons sameL_spec (all_cons same_spec all_nil))))))))
@[simp] theorem CF7_1 : CF7 13 = putSp := rfl
@[simp] theorem CF7_2 : CF7 14 = putSp := rfl
@[simp] theorem CF7_3 : CF7 15 = frTakeSp := rfl
@[simp] theorem CF7_4 : CF7 16 = frTakeSp := rfl
@[simp] theorem CF7_5 : CF7 19 = allSp := rfl
@[simp] theorem CF7_6 : CF7 20 = allSp := rfl
@[simp] theorem CF7_7 : CF7 21 = sameLSp := rfl
@[simp] theorem CF7_8 : CF7 12 = sameSp := rfl

theorem awakeF_spec : Lift.Spec Try.prog 11 trueSp := by
  refine spec_fam (C := CF7) types_ok CF7_ok follows Try.func11 (by kernel_rfl) rfl (by kernel_rfl) rfl ?_
  intro _ _
  refine ⟨by simp, ?_⟩
  intro r hr
  have h10 := frB_seven
  have hT : frT 5 (frB 5 [7]) = ([7], 10, 0) := by
    have := frT_fr (key := 5) (key' := 5) (p := [7]) (more := []) (by simp) in5' in5'
    rw [List.append_nil, if_pos rfl, h10] at this; exact this
  have hC : frT 5 ((frB 5 [7]).take 9) = ([], 0, 17) := frT_cut (by simp) (by omega)
  have w : IntKind.i64.wrap (10 - 1) = 9 := by decide
  have e7 : byteRow [7] = [[V.int .u8 7]] := rfl
  generalize hX : frB 5 [7] = X at *
  have hX10 : X.take 10 = X := List.take_of_length_le (by omega)
  simp [putSp_seven, hX, h10, hX10, in5', hT, frRes_ok, rowOf, hC, frRes_err, e7]

  rw [hr]; refine ret_closed rfl ?_ rfl
  simp

noncomputable def fewL (l : List (List UInt8)) : Bool := decide (l.length ≤ 20 ∧ ∀ x ∈ l, x.length ≤ 300)
noncomputable def fewSp3 := fam (fun i : Nat × (List (List UInt8)) => [V.sl i.1 1 (listRow i.2)]) (fun _ : Nat × (List (List UInt8)) => []) (fun i : Nat × (List (List UInt8)) => (i.2.length ≤ 9223372036854775807)) (fun i : Nat × (List (List UInt8)) => ⟨.bool (fewL i.2), []⟩)
@[simp] theorem fewSp3_eq {t : Nat} {l : List (List UInt8)} (h1 : l.length ≤ 9223372036854775807) : fewSp3 ([V.sl t 1 (listRow l)]) ([]) = some (⟨.bool (fewL l), []⟩) :=
  fam_eq (A := fun i : Nat × (List (List UInt8)) => [V.sl i.1 1 (listRow i.2)]) (O := fun _ : Nat × (List (List UInt8)) => []) (res := fun i : Nat × (List (List UInt8)) => ⟨.bool (fewL i.2), []⟩) (by rintro ⟨a0, a1⟩ ⟨b0, b1⟩ h h' <;> simp at h h' <;> simp_all) (t, l) h1

def fwSt (t : Nat) (l : List (List UInt8)) (i : Nat) : St := mkSt [(0, .sl t 1 (listRow l)), (3, .int .i64 i)] [] 0

theorem few3_spec : Lift.Spec Try.prog 17 fewSp3 := by
  refine spec_fam (C := C0) types_ok C0_ok follows Try.func17 (by kernel_rfl) rfl (by kernel_rfl) rfl ?_
  rintro ⟨t, l⟩ hl
  simp only at hl
  refine ⟨by simp, ?_⟩
  intro r hr
  by_cases hc : l.length ≤ 20
  · have hc' : ¬ (20 : Int) < (l.length : Int) := by omega
    simp [hc']
    refine axwp_loop (fwSt t l) (fun i => i ≤ l.length ∧ ∀ x ∈ l.take i, x.length ≤ 300) (fun i => l.length - i) 0 ?_ ⟨Nat.zero_le _, by simp⟩ ?_
    · refine weak_mk id ?_ ?_ ?_ ?_ <;> simp
    · rintro i ⟨hi, he⟩
      by_cases hik : i < l.length
      · obtain ⟨x, hx, hx'⟩ : ∃ x, l[i]? = some x ∧ l[i] = x := ⟨_, List.getElem?_eq_getElem hik, rfl⟩
        have w4 : IntKind.i64.wrap ((i : Int) + 1) = (i : Int) + 1 := wrap_i64_in (by omega) (by omega)
        by_cases hxl : x.length ≤ 300
        · have hxl' : ¬ (300 : Int) < (x.length : Int) := by omega
          simp [fwSt, hik, hx', hxl', w4]
          refine Again.mk (i + 1) ⟨?_, ?_⟩ ?_ ?_
          · exact hik
          · rw [List.take_add_one, hx]
            intro y hy
            rcases List.mem_append.1 hy with hy | hy
            · exact he y hy
            · simp at hy; subst hy; exact hxl
          · omega
          · refine weak_mk id ?_ ?_ ?_ ?_ <;> simp
        · have hxl' : (300 : Int) < (x.length : Int) := by omega
          simp [fwSt, hik, hx', hxl']
          rw [hr]; refine ret_closed rfl ?_ rfl
          have : fewL l = false := decide_eq_false (fun h => hxl (h.2 x (List.mem_of_getElem? hx)))
          simp [this]
      · have e : i = l.length := by omega
        subst e
        simp [fwSt]
        rw [hr]; refine ret_closed rfl ?_ rfl
        rw [List.take_length] at he
        have : fewL l = true := decide_eq_true ⟨hc, he⟩
        simp [this]
  · have hc' : (20 : Int) < (l.length : Int) := by omega
    simp [hc']
    rw [hr]; refine ret_closed rfl ?_ rfl
    have : fewL l = false := decide_eq_false (fun h => hc h.1)
    simp [this]

theorem putB_few {key : Int} {b p : List UInt8} (h : p.length ≤ 65536) : putB key b p = b ++ frB key p := by
  unfold putB; rw [if_neg (by omega)]
theorem frB_le {key : Int} {p : List UInt8} (h : p.length ≤ 65536) : (frB key p).length ≤ p.length + 18 := by
  rw [frB_len]; have := enc_ten _ (code_lt (in64_len h)); omega
theorem framesB_le {key : Int} : ∀ {l : List (List UInt8)}, (∀ x ∈ l, x.length ≤ 300) → (framesB key l).length ≤ 318 * l.length
  | [], _ => by simp [framesB]
  | x :: l, h => by
    have h1 := framesB_le (key := key) (l := l) (fun y hy => h y (List.mem_cons_of_mem _ hy))
    have h2 := h x (List.mem_cons_self ..)
    have h3 := frB_le (key := key) (p := x) (by omega)
    have : framesB key (x :: l) = frB key x ++ framesB key l := by simp [framesB]
    rw [this, List.length_append, List.length_cons]; omega
theorem fewL_spec {l : List (List UInt8)} (h : fewL l = true) : l.length ≤ 20 ∧ ∀ x ∈ l, x.length ≤ 300 := of_decide_eq_true h

noncomputable def wholeSp := fam (fun i : Nat × (List (List UInt8)) × Int => [V.sl i.1 1 (listRow i.2.1), .int .i64 i.2.2]) (fun _ : Nat × (List (List UInt8)) × Int => []) (fun i : Nat × (List (List UInt8)) × Int => (fewL i.2.1 = true) ∧ (In64 i.2.2)) (fun i : Nat × (List (List UInt8)) × Int => ⟨.own 0 0 (framesB i.2.2 i.2.1).length, [rowOf (framesB i.2.2 i.2.1)]⟩)
@[simp] theorem wholeSp_eq {t : Nat} {l : List (List UInt8)} {key : Int} (h1 : fewL l = true) (h2 : In64 key) : wholeSp ([V.sl t 1 (listRow l), .int .i64 key]) ([]) = some (⟨.own 0 0 (framesB key l).length, [rowOf (framesB key l)]⟩) :=
  fam_eq (A := fun i : Nat × (List (List UInt8)) × Int => [V.sl i.1 1 (listRow i.2.1), .int .i64 i.2.2]) (O := fun _ : Nat × (List (List UInt8)) × Int => []) (res := fun i : Nat × (List (List UInt8)) × Int => ⟨.own 0 0 (framesB i.2.2 i.2.1).length, [rowOf (framesB i.2.2 i.2.1)]⟩) (by rintro ⟨a0, a1, a2⟩ ⟨b0, b1, b2⟩ h h' <;> simp at h h' <;> simp_all) (t, l, key) ⟨h1, h2⟩

noncomputable def whSt (t : Nat) (l : List (List UInt8)) (key : Int) (i : Nat) : St :=
  mkSt [(0, .sl t 1 (listRow l)), (1, .int .i64 key), (5, .own 0 0 (framesB key (l.take i)).length), (6, .int .i64 i)] [(0, rowOf (framesB key (l.take i)))] 1

theorem whole_spec : Lift.Spec Try.prog 18 wholeSp := by
  refine spec_fam (C := CF7) types_ok CF7_ok follows Try.func18 (by kernel_rfl) rfl (by kernel_rfl) rfl ?_
  rintro ⟨t, l, key⟩ ⟨hf, hk⟩
  simp only at hf hk
  refine ⟨by simp, ?_⟩
  intro r hr
  obtain ⟨hl, hx300⟩ := fewL_spec hf
  simp
  refine axwp_loop (whSt t l key) (fun i => i ≤ l.length) (fun i => l.length - i) 0 ?_ (Nat.zero_le _) ?_
  · refine weak_nil_mk 5 77 (sz := 1) (rowOf []) (fun _ => 77) ?_ ?_ ?_ ?_ ?_ ?_ <;> simp [rowOf, framesB]
  · intro i hi
    by_cases hik : i < l.length
    · obtain ⟨x, hx, hx'⟩ : ∃ x, l[i]? = some x ∧ l[i] = x := ⟨_, List.getElem?_eq_getElem hik, rfl⟩
      have w4 : IntKind.i64.wrap ((i : Int) + 1) = (i : Int) + 1 := wrap_i64_in (by omega) (by omega)
      have h1 : (framesB key (l.take i)).length ≤ 140737488200000 := by
        have := framesB_le (key := key) (l := l.take i) (fun y hy => hx300 y (List.mem_of_mem_take hy))
        rw [List.length_take] at this; omega
      have h2 := hx300 x (List.mem_of_getElem? hx)
      have h3 : x.length ≤ 9223372036854775807 := by omega
      have h4 := framesB_take (key := key) hx
      have h5 := putB_few (key := key) (b := framesB key (l.take i)) (p := x) (by omega)
      have h6 : (framesB key (l.take i)).take (framesB key (l.take i)).length = framesB key (l.take i) := List.take_length
      simp [whSt, rowOf, hik, hx', h1, h3, hk, w4]
      refine Again.mk (i + 1) hik ?_ ?_
      · omega
      · refine weak_at [.inr 5] ?_ ?_ ?_ ?_ <;> simp [rowOf, h4, h5]
    · have e : i = l.length := by omega
      subst e
      simp [whSt, rowOf]
      rw [hr]
      refine ret_at [.inr 4] rfl ?_ ?_ (by simp) ?_ ?_ ?_ ?_ <;> simp [rowOf]
end Go.Proofs.Ytgnfgcpolbcaoaa
