/-
  wire: laws on integers.
-/
import Derived.Test.YtopoplebnbcalaaW5
namespace Go.Proofs.Ytopoplebnbcalaa
open Go.Lift

noncomputable def fewSp1 := fam (fun n : Int => [V.int .i64 n]) (fun _ => []) (fun _ => True) (fun n => ⟨.bool (decide (n ≤ 300)), []⟩)
@[simp] theorem fewSp1_eq {n : Int} : fewSp1 [V.int .i64 n] [] = some ⟨.bool (decide (n ≤ 300)), []⟩ :=
  fam_eq (A := fun n : Int => [V.int .i64 n]) (fun i j h _ => by simp at h; rw [h]) n trivial
theorem few1_spec : Lift.Spec Try.prog 23 fewSp1 := by
  refine spec_fam (C := C0) types_ok C0_ok follows Try.func23 (by kernel_rfl) rfl (by kernel_rfl) rfl ?_
  intro n _
  refine ⟨by simp, ?_⟩
  intro r hr
  simp
  rw [hr]; refine ret_closed rfl ?_ rfl
  simp

noncomputable def CY := mkC [(17, intSp), (18, intSp), (24, takeSp), (25, takeSp), (16, sameSp), (15, trueSp1), (23, fewSp1)]
theorem CY_ok : SpecsOk Try.prog CY := mkC_ok (all_cons int_spec (all_cons refint_spec (all_cons take_spec (all_cons reftake_spec (all_cons same_spec (all_cons awakeW_spec (all_cons few1_spec all_nil)))))))
@[simp] theorem CY_1 : CY 17 = intSp := rfl
@[simp] theorem CY_2 : CY 18 = intSp := rfl
@[simp] theorem CY_3 : CY 24 = takeSp := rfl
@[simp] theorem CY_4 : CY 25 = takeSp := rfl
@[simp] theorem CY_5 : CY 16 = sameSp := rfl
@[simp] theorem CY_6 : CY 15 = trueSp1 := rfl
@[simp] theorem CY_7 : CY 23 = fewSp1 := rfl

theorem law_WireCanonical : Lift.Spec Try.prog 10 (fam (fun l : List UInt8 => [V.sl 2 1 (byteRow l)]) (fun _ => []) (fun _ => True) (fun _ => ⟨.bool true, []⟩)) := by
  refine spec_fam (C := CY) types_ok CY_ok follows Try.func10 (by kernel_rfl) rfl (by kernel_rfl) rfl ?_
  intro l _
  refine ⟨by simp, ?_⟩
  intro r hr
  rcases takeT_err l with h | h | ⟨n, k, h⟩
  · simp [takeV, h]
    rw [hr]; refine ret_closed rfl ?_ rfl
    simp
  · simp [takeV, h]
    rw [hr]; refine ret_closed rfl ?_ rfl
    simp
  · obtain ⟨hn, rest, h1, rfl⟩ := takeT_back h
    have p1 := enc_pos (code n)
    have hl : (enc (code n)).length ≤ l.length := by rw [h1]; simp
    have ht : l.take (enc (code n)).length = enc (code n) := by rw [h1]; simp
    generalize hE : enc (code n) = E at *
    have q1 : (1 : Int) ≤ (E.length : Int) := by omega
    have q2 : (E.length : Int) ≤ (l.length : Int) := by omega
    have q3 : 1 ≤ E.length := by omega
    simp [takeV, h, q1, q2, hn, intSp_nil, hE, rowOf, ht]
    refine ⟨⟨by kernel_rfl, by kernel_rfl⟩, ?_⟩
    rw [hr]; refine ret_closed rfl ?_ rfl
    simp

theorem iOr_u8 (a b : Int) : ∃ y : UInt8, iOr .u8 a b = (y.toNat : Int) := by
  refine ⟨UInt8.ofNat (BitVec.ofInt IntKind.u8.bits a ||| BitVec.ofInt IntKind.u8.bits b).toNat, ?_⟩
  unfold iOr
  rw [wrap_u8, u8_nat]; omega
theorem byteRow_set (l : List UInt8) (k : Nat) (x : UInt8) : (byteRow l).set k [V.int .u8 x.toNat] = byteRow (l.set k x) := by
  simp [byteRow, List.map_set]

def wtSt (l : List UInt8) (hi : Int) (i : Nat × List UInt8) : St :=
  mkSt [(0, .sl 2 1 (byteRow l)), (1, .int .i64 hi), (5, .own 0 0 i.2.length), (6, .int .i64 i.1)] [(0, rowOf i.2)] 1

theorem law_WireTake : Lift.Spec Try.prog 5 (fam (fun i : List UInt8 × Int => [V.sl 2 1 (byteRow i.1), .int .i64 i.2]) (fun _ => []) (fun _ => True) (fun _ => ⟨.bool true, []⟩)) := by
  refine spec_fam (C := CY) types_ok CY_ok follows Try.func5 (by kernel_rfl) rfl (by kernel_rfl) rfl ?_
  rintro ⟨l, hi⟩ _
  refine ⟨by simp, ?_⟩
  intro r hr
  by_cases h0 : l.length ≤ 300
  · have h0' : (l.length : Int) ≤ 300 := by omega
    have h4 : (l.length : Int) ≤ 140737488355328 := by omega
    simp [h0', h4]
    refine axwp_loop (wtSt l hi) (fun i => i.2.length = l.length ∧ i.1 ≤ l.length) (fun i => l.length - i.1) (0, l) ?_ ⟨rfl, Nat.zero_le _⟩ ?_
    · refine weak_at [.inr 5] ?_ ?_ ?_ ?_ <;> simp [rowOf]
    · rintro ⟨i, m⟩ ⟨hm, hi2⟩
      simp only at hm hi2
      by_cases hil : i < m.length
      · by_cases hih : (i : Int) < hi
        · obtain ⟨y, hy, hy'⟩ : ∃ y, m[i]? = some y ∧ m[i] = y := ⟨_, List.getElem?_eq_getElem hil, rfl⟩
          obtain ⟨z, hz⟩ := iOr_u8 (y.toNat : Int) 128
          have w4 : IntKind.i64.wrap ((i : Int) + 1) = (i : Int) + 1 := wrap_i64_in (by omega) (by omega)
          simp [wtSt, hil, hih, hy', hz, w4, rowOf, byteRow_set]
          refine Again.mk (i + 1, m.set i z) ⟨by simpa using hm, by show i + 1 ≤ l.length; omega⟩ (by show l.length - (i + 1) < l.length - i; omega) ?_
          refine weak_at [.inr 5] ?_ ?_ ?_ ?_ <;> simp [rowOf]
        · simp [wtSt, hil, hih, rowOf, takeV]
          rw [hr]; refine ret_closed rfl ?_ rfl
          simp
      · have hil' : ¬ (i : Int) < (m.length : Int) := by omega
        simp [wtSt, hil, rowOf, takeV]
        rw [hr]; refine ret_closed rfl ?_ rfl
        simp
  · have h0' : ¬ (l.length : Int) ≤ 300 := by omega
    simp [h0']
    rw [hr]; refine ret_closed rfl ?_ rfl
    simp

theorem enc_one (u : Nat) : (enc u).length = 1 ↔ u < 128 := by
  by_cases h : u < 128
  · rw [enc_small h]; simp [h]
  · rw [enc_great h, List.length_cons]
    have := enc_pos (u / 128)
    omega
theorem enc_at : ∀ (u i : Nat) (x : UInt8), (enc u)[i]? = some x → (x.toNat < 128 ↔ i + 1 = (enc u).length) := by
  intro u
  induction u using Nat.strongRecOn with
  | _ u ih =>
    intro i x hx
    by_cases h : u < 128
    · rw [enc_small h] at hx ⊢
      cases i with
      | zero => simp at hx; subst hx; simp [loB_nat h, h]
      | succ i => simp at hx
    · rw [enc_great h] at hx ⊢
      cases i with
      | zero =>
        simp at hx; subst hx
        rw [hiB_nat, List.length_cons]
        have := enc_pos (u / 128)
        omega
      | succ i =>
        rw [List.length_cons]
        have := ih (u / 128) (by omega) i x (by simpa using hx)
        omega
theorem code_one {n : Int} : code n < 128 ↔ -64 ≤ n ∧ n ≤ 63 := by unfold code; split <;> omega

def shSt (n : Int) (E : List UInt8) (i : Nat) : St :=
  mkSt [(0, .int .i64 n), (3, .own 0 0 E.length), (4, .int .i64 i)] [(0, rowOf E)] 1

theorem law_WireShort : Lift.Spec Try.prog 9 (fam (fun n : Int => [V.int .i64 n]) (fun _ => []) In64 (fun _ => ⟨.bool true, []⟩)) := by
  refine spec_fam (C := CY) types_ok CY_ok follows Try.func9 (by kernel_rfl) rfl (by kernel_rfl) rfl ?_
  intro n h1
  refine ⟨by simp, ?_⟩
  intro r hr
  have p1 := enc_pos (code n)
  have p2 := enc_ten _ (code_lt h1)
  have p3 := (enc_one (code n)).trans code_one
  have p4 := enc_at (code n)
  have hE := intSp_nil (t := 0) h1
  generalize enc (code n) = E at *
  have q1 : ¬ E.length < 1 := by omega
  have q2 : ¬ (10 : Int) < (E.length : Int) := by omega
  have q1' : ¬ (E.length : Int) < 1 := by omega
  have q0 : ¬ E = [] := by intro h; rw [h] at p1; simp at p1
  have q3 : decide ((E.length : Int) = 1) = (decide (-64 ≤ n) && decide (n ≤ 63)) := by
    rw [← Bool.decide_and]
    exact decide_eq_decide.2 (by rw [← p3]; omega)
  have cases : (-64 ≤ n ∧ n ≤ 63 ∧ (E.length : Int) = 1) ∨ (-64 ≤ n ∧ ¬ n ≤ 63 ∧ ¬ (E.length : Int) = 1) ∨ (¬ -64 ≤ n ∧ ¬ (E.length : Int) = 1) := by omega
  rcases cases with ⟨ha, hb, hc⟩ | ⟨ha, hb, hc⟩ | ⟨ha, hc⟩
  · have hc' : E.length = 1 := by omega
    simp [hE, rowOf, ha, hb, hc']
    refine axwp_loop (shSt n E) (fun i => i ≤ E.length) (fun i => E.length - i) 0 ?_ (Nat.zero_le _) ?_
    · refine weak_at [.inr 3] ?_ ?_ ?_ ?_ <;> simp [rowOf, hc']
    · intro i hi
      by_cases hi1 : i < E.length
      · obtain ⟨x, hx, hx'⟩ : ∃ x, E[i]? = some x ∧ E[i] = x := ⟨_, List.getElem?_eq_getElem hi1, rfl⟩
        have w4 : IntKind.i64.wrap ((i : Int) + 1) = (i : Int) + 1 := wrap_i64_in (by omega) (by omega)
        have w5 : IntKind.i64.wrap ((E.length : Int) - 1) = (E.length : Int) - 1 := wrap_i64_in (by omega) (by omega)
        have w6 : decide ((x.toNat : Int) < 128) = decide ((i : Int) = (E.length : Int) - 1) := decide_eq_decide.2 (by have := p4 i x hx; omega)
        simp [shSt, rowOf, hi1, hx', w4, w5, w6]
        refine Again.mk (i + 1) hi1 (by omega) ?_
        refine weak_at [.inr 3] ?_ ?_ ?_ ?_ <;> simp [rowOf]
      · simp [shSt, rowOf, hi1]
        rw [hr]; refine ret_closed rfl ?_ rfl
        simp
  · have hc' : ¬ E.length = 1 := by omega
    simp [hE, rowOf, q1', q2, ha, hb, hc]
    refine axwp_loop (shSt n E) (fun i => i ≤ E.length) (fun i => E.length - i) 0 ?_ (Nat.zero_le _) ?_
    · refine weak_at [.inr 3] ?_ ?_ ?_ ?_ <;> simp [rowOf]
    · intro i hi
      by_cases hi1 : i < E.length
      · obtain ⟨x, hx, hx'⟩ : ∃ x, E[i]? = some x ∧ E[i] = x := ⟨_, List.getElem?_eq_getElem hi1, rfl⟩
        have w4 : IntKind.i64.wrap ((i : Int) + 1) = (i : Int) + 1 := wrap_i64_in (by omega) (by omega)
        have w5 : IntKind.i64.wrap ((E.length : Int) - 1) = (E.length : Int) - 1 := wrap_i64_in (by omega) (by omega)
        have w6 : decide ((x.toNat : Int) < 128) = decide ((i : Int) = (E.length : Int) - 1) := decide_eq_decide.2 (by have := p4 i x hx; omega)
        simp [shSt, rowOf, hi1, hx', w4, w5, w6]
        refine Again.mk (i + 1) hi1 (by omega) ?_
        refine weak_at [.inr 3] ?_ ?_ ?_ ?_ <;> simp [rowOf]
      · simp [shSt, rowOf, hi1]
        rw [hr]; refine ret_closed rfl ?_ rfl
        simp
  · have hc' : ¬ E.length = 1 := by omega
    simp [hE, rowOf, q1', q2, ha, hc]
    refine axwp_loop (shSt n E) (fun i => i ≤ E.length) (fun i => E.length - i) 0 ?_ (Nat.zero_le _) ?_
    · refine weak_at [.inr 3] ?_ ?_ ?_ ?_ <;> simp [rowOf]
    · intro i hi
      by_cases hi1 : i < E.length
      · obtain ⟨x, hx, hx'⟩ : ∃ x, E[i]? = some x ∧ E[i] = x := ⟨_, List.getElem?_eq_getElem hi1, rfl⟩
        have w4 : IntKind.i64.wrap ((i : Int) + 1) = (i : Int) + 1 := wrap_i64_in (by omega) (by omega)
        have w5 : IntKind.i64.wrap ((E.length : Int) - 1) = (E.length : Int) - 1 := wrap_i64_in (by omega) (by omega)
        have w6 : decide ((x.toNat : Int) < 128) = decide ((i : Int) = (E.length : Int) - 1) := decide_eq_decide.2 (by have := p4 i x hx; omega)
        simp [shSt, rowOf, hi1, hx', w4, w5, w6]
        refine Again.mk (i + 1) hi1 (by omega) ?_
        refine weak_at [.inr 3] ?_ ?_ ?_ ?_ <;> simp [rowOf]
      · simp [shSt, rowOf, hi1]
        rw [hr]; refine ret_closed rfl ?_ rfl
        simp
end Go.Proofs.Ytopoplebnbcalaa
