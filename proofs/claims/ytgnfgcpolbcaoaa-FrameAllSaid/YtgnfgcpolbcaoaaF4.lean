/-
  frame: all records.
-/
import Derived.Test.YtgnfgcpolbcaoaaF3
namespace Go.Proofs.Ytgnfgcpolbcaoaa
open Go.Lift

theorem frT_two (key : Int) (b : List UInt8) : (∃ e, ¬ e = 0 ∧ frT key b = ([], 0, e)) ∨ ∃ (p : List UInt8) (n : Nat), frT key b = (p, (n : Int), 0) ∧ 9 ≤ n ∧ n ≤ b.length ∧ p.length ≤ 65536 := by
  rcases frT_cases key b with ⟨e, he, hT, hL⟩ | ⟨n, k, hL, hn, hk1, hk2, hk, _, hc⟩
  · exact .inl ⟨e, he, hT⟩
  · rcases hc with ⟨_, hT⟩ | ⟨_, _, hT⟩ | ⟨hs, _, hT⟩
    · exact .inl ⟨17, by decide, hT⟩
    · exact .inl ⟨18, by decide, hT⟩
    · exact .inr ⟨(b.drop (k + 8)).take n, k + 8 + n, by rw [hT]; simp, by omega, hs, by rw [List.length_take]; omega⟩
theorem frT_nil (key : Int) : frT key [] = ([], 0, 17) := by
  rw [frT_eq, frT0, lenT_eq, lenT0, takeT_eq]
  simp [takeAt]

noncomputable def allGo (key : Int) : Nat → List UInt8 → Nat → List (List UInt8) → List (List UInt8) × Nat
  | 0, _, at_, acc => (acc, at_)
  | f + 1, b, at_, acc => if (frT key (b.drop at_)).2.2 = 0 then allGo key f b (at_ + (frT key (b.drop at_)).2.1.toNat) (acc ++ [(frT key (b.drop at_)).1]) else (acc, at_)
theorem allGo_more (key : Int) (b : List UInt8) : ∀ (f at_ : Nat) (acc : List (List UInt8)), b.length + 1 ≤ f + at_ → at_ ≤ b.length → allGo key (f + 1) b at_ acc = allGo key f b at_ acc
  | 0, at_, acc, h, h2 => by omega
  | f + 1, at_, acc, h, h2 => by
    rw [allGo]
    conv => rhs; rw [allGo]
    rcases frT_two key (b.drop at_) with ⟨e, he, hT⟩ | ⟨p, n, hT, h9, hle, _⟩
    · rw [hT, if_neg he, if_neg he]
    · rw [hT, if_pos rfl, if_pos rfl]
      simp only [Int.toNat_natCast]
      rw [List.length_drop] at hle
      exact allGo_more key b f _ _ (by omega) (by omega)
theorem allGo_any (key : Int) (b : List UInt8) (at_ : Nat) (acc : List (List UInt8)) (h2 : at_ ≤ b.length) : ∀ d, allGo key (b.length + 1 - at_ + d) b at_ acc = allGo key (b.length + 1 - at_) b at_ acc
  | 0 => rfl
  | d + 1 => by rw [← Nat.add_assoc, allGo_more key b _ _ _ (by omega) h2, allGo_any key b at_ acc h2 d]
noncomputable def allAt (key : Int) (b : List UInt8) (at_ : Nat) (acc : List (List UInt8)) : List (List UInt8) × Nat := allGo key (b.length + 1 - at_) b at_ acc
theorem allAt_err {key : Int} {b : List UInt8} {at_ : Nat} {acc : List (List UInt8)} (h : at_ ≤ b.length) {e : Int} (he : ¬ e = 0) (hT : frT key (b.drop at_) = ([], 0, e)) : allAt key b at_ acc = (acc, at_) := by
  unfold allAt
  rw [show b.length + 1 - at_ = (b.length - at_) + 1 by omega, allGo, hT, if_neg he]
theorem allAt_ok {key : Int} {b : List UInt8} {at_ : Nat} {acc : List (List UInt8)} (h : at_ ≤ b.length) {p : List UInt8} {n : Nat} (hn : 1 ≤ n) (hle : at_ + n ≤ b.length) (hT : frT key (b.drop at_) = (p, (n : Int), 0)) : allAt key b at_ acc = allAt key b (at_ + n) (acc ++ [p]) := by
  unfold allAt
  rw [show b.length + 1 - at_ = (b.length - at_) + 1 by omega, allGo, hT, if_pos rfl]
  simp only [Int.toNat_natCast]
  have := allGo_any key b (at_ + n) (acc ++ [p]) hle (n - 1)
  rw [← this]
  congr 1
  omega
noncomputable def allT : Int → List UInt8 → List (List UInt8) × Nat := hush fun key b => allAt key b 0 []
theorem allT_eq (key : Int) (b : List UInt8) : allT key b = allAt key b 0 [] := by unfold allT; rw [hush_eq]

/-- Records in new memory. -/
def recOf (ls : List (List UInt8)) : AObj := ⟨22, 1, listRow ls, false, 1, .rw⟩
def allRes (x : List (List UInt8) × Nat) : CRes := ⟨.tup [.own 0 0 x.1.length, .int .i64 x.2], [recOf x.1]⟩

noncomputable def allSp := fam (fun i : Nat × (List UInt8) × Int => [V.sl i.1 1 (byteRow i.2.1), .int .i64 i.2.2]) (fun _ : Nat × (List UInt8) × Int => []) (fun i : Nat × (List UInt8) × Int => (NilOk i.1 i.2.1) ∧ (In64 i.2.2) ∧ (i.2.1.length ≤ 40000000000000)) (fun i : Nat × (List UInt8) × Int => allRes (allT i.2.2 i.2.1))
@[simp] theorem allSp_eq {t : Nat} {b : List UInt8} {key : Int} (h1 : NilOk t b) (h2 : In64 key) (h3 : b.length ≤ 40000000000000) : allSp ([V.sl t 1 (byteRow b), .int .i64 key]) ([]) = some (allRes (allT key b)) :=
  fam_eq (A := fun i : Nat × (List UInt8) × Int => [V.sl i.1 1 (byteRow i.2.1), .int .i64 i.2.2]) (O := fun _ : Nat × (List UInt8) × Int => []) (res := fun i : Nat × (List UInt8) × Int => allRes (allT i.2.2 i.2.1)) (by rintro ⟨a0, a1, a2⟩ ⟨b0, b1, b2⟩ h h' <;> simp at h h' <;> simp_all) (t, b, key) ⟨h1, h2, h3⟩

noncomputable def CF5 := mkC [(15, frTakeSp), (16, frTakeSp)]
theorem CF5_ok : SpecsOk Try.prog CF5 := mkC_ok (all_cons frTake_spec (all_cons refFrTake_spec all_nil))
@[simp] theorem CF5_1 : CF5 15 = frTakeSp := rfl
@[simp] theorem CF5_2 : CF5 16 = frTakeSp := rfl

def alSt (t : Nat) (b : List UInt8) (key : Int) (i : Nat × List (List UInt8)) : St :=
  mkSt [(0, .sl t 1 (byteRow b)), (1, .int .i64 key), (6, .own 0 0 i.2.length), (7, .int .i64 i.1)] [(0, recOf i.2)] 1

theorem all_spec : Lift.Spec Try.prog 19 allSp := by
  refine spec_fam (C := CF5) types_ok CF5_ok follows Try.func19 (by kernel_rfl) rfl (by kernel_rfl) rfl ?_
  rintro ⟨t, b, key⟩ ⟨h0, hkey, hb⟩
  simp only at h0 hkey hb
  refine ⟨by simp, ?_⟩
  intro r hr
  simp
  refine axwp_loop (alSt t b key) (fun i => i.1 ≤ b.length ∧ 9 * i.2.length ≤ i.1 ∧ allAt key b i.1 i.2 = allT key b) (fun i => b.length - i.1) (0, []) ?_ ⟨Nat.zero_le _, Nat.le_refl _, (allT_eq key b).symm⟩ ?_
  · refine weak_nil_mk 6 77 (sz := 1) (recOf []) (fun _ => 77) ?_ ?_ ?_ ?_ ?_ ?_ <;> simp [recOf]
  · rintro ⟨a, acc⟩ ⟨ha, hacc, hall⟩
    simp only at ha hacc hall
    have hd : (b.drop a).take (b.length - a) = b.drop a := List.take_of_length_le (by simp)
    have hnil : ∀ c, NilOk (cutTag t c) (b.drop a) := fun c h => by rw [h0 (cutTag_ne.1 h)]; simp
    have ha' : (a : Int) ≤ (b.length : Int) := by omega
    have hl : b.length - a ≤ 140737488355328 := by omega
    rcases frT_two key (b.drop a) with ⟨e, he, hT⟩ | ⟨p, n, hT, h9, hle, hp⟩
    · simp [alSt, recOf, ha', hd, hnil, hkey, hl, hT, frRes_err _ _ _ he, he]
      rw [hr]
      simp only [← hall, allAt_err ha he hT, allRes]
      refine ret_at [.inr 4] rfl ?_ ?_ (by simp) ?_ ?_ ?_ ?_ <;> simp [recOf]
    · rw [List.length_drop] at hle
      have q1 : ((acc.length : Int) + 1) * 24 ≤ 140737488355328 := by omega
      have q2 : (acc.length : Int) + 1 ≤ 140737488355328 := by omega
      have w1 : IntKind.i64.wrap ((a : Int) + (n : Int)) = ((a + n : Nat) : Int) := by rw [wrap_i64_in (by omega) (by omega)]; omega
      simp [alSt, recOf, ha', hd, hnil, hkey, hl, hT, frRes_ok, q1, q2]
      refine Again.mk (a + n, acc ++ [p]) ⟨?_, ?_, ?_⟩ ?_ ?_
      · show a + n ≤ b.length; omega
      · show 9 * (acc ++ [p]).length ≤ a + n; simp; omega
      · rw [← hall]; exact (allAt_ok ha (by omega) (by omega) hT).symm
      · show b.length - (a + n) < b.length - a; omega
      · refine (weak_fzS [8] ?_).trans (weak_at [.inr 6] ?_ ?_ ?_ ?_) <;> simp [recOf, rowOf, w1, listRow_one]

theorem refall_spec2 : Lift.Spec Try.prog 20 allSp := by
  refine spec_fam (C := CF5) types_ok CF5_ok follows Try.func20 (by kernel_rfl) rfl (by kernel_rfl) rfl ?_
  rintro ⟨t, b, key⟩ ⟨h0, hkey, hb⟩
  simp only at h0 hkey hb
  refine ⟨by simp, ?_⟩
  intro r hr
  simp
  refine axwp_loop (alSt t b key) (fun i => i.1 ≤ b.length ∧ 9 * i.2.length ≤ i.1 ∧ allAt key b i.1 i.2 = allT key b) (fun i => b.length - i.1) (0, []) ?_ ⟨Nat.zero_le _, Nat.le_refl _, (allT_eq key b).symm⟩ ?_
  · refine weak_nil_mk 6 77 (sz := 1) (recOf []) (fun _ => 77) ?_ ?_ ?_ ?_ ?_ ?_ <;> simp [recOf]
  · rintro ⟨a, acc⟩ ⟨ha, hacc, hall⟩
    simp only at ha hacc hall
    have hd : (b.drop a).take (b.length - a) = b.drop a := List.take_of_length_le (by simp)
    have hnil : ∀ c, NilOk (cutTag t c) (b.drop a) := fun c h => by rw [h0 (cutTag_ne.1 h)]; simp
    have ha' : (a : Int) ≤ (b.length : Int) := by omega
    have hl : b.length - a ≤ 140737488355328 := by omega
    by_cases hal : a < b.length
    · rcases frT_two key (b.drop a) with ⟨e, he, hT⟩ | ⟨p, n, hT, h9, hle, hp⟩
      · simp [alSt, recOf, ha', hal, hd, hnil, hkey, hl, hT, frRes_err _ _ _ he, he]
        rw [hr]
        simp only [← hall, allAt_err ha he hT, allRes]
        refine ret_at [.inr 4] rfl ?_ ?_ (by simp) ?_ ?_ ?_ ?_ <;> simp [recOf]
      · rw [List.length_drop] at hle
        have q1 : ((acc.length : Int) + 1) * 24 ≤ 140737488355328 := by omega
        have q2 : (acc.length : Int) + 1 ≤ 140737488355328 := by omega
        have w1 : IntKind.i64.wrap ((a : Int) + (n : Int)) = ((a + n : Nat) : Int) := by rw [wrap_i64_in (by omega) (by omega)]; omega
        simp [alSt, recOf, ha', hal, hd, hnil, hkey, hl, hT, frRes_ok, q1, q2]
        refine Again.mk (a + n, acc ++ [p]) ⟨?_, ?_, ?_⟩ ?_ ?_
        · show a + n ≤ b.length; omega
        · show 9 * (acc ++ [p]).length ≤ a + n; simp; omega
        · rw [← hall]; exact (allAt_ok ha (by omega) (by omega) hT).symm
        · show b.length - (a + n) < b.length - a; omega
        · refine (weak_fzS [8] ?_).trans (weak_at [.inr 6] ?_ ?_ ?_ ?_) <;> simp [recOf, rowOf, w1, listRow_one]
    · have e : a = b.length := by omega
      subst e
      have hT : frT key (b.drop b.length) = ([], 0, 17) := by rw [List.drop_length]; exact frT_nil key
      simp [alSt, recOf]
      rw [hr]
      simp only [← hall, allAt_err ha (by decide) hT, allRes]
      refine ret_at [.inr 4] rfl ?_ ?_ (by simp) ?_ ?_ ?_ ?_ <;> simp [recOf]

noncomputable def sameLSp := fam (fun i : Nat × Nat × (List (List UInt8)) × (List (List UInt8)) => [V.sl i.1 1 (listRow i.2.2.1), .sl i.2.1 1 (listRow i.2.2.2)]) (fun _ : Nat × Nat × (List (List UInt8)) × (List (List UInt8)) => []) (fun i : Nat × Nat × (List (List UInt8)) × (List (List UInt8)) => (i.2.2.1.length ≤ 9223372036854775807)) (fun i : Nat × Nat × (List (List UInt8)) × (List (List UInt8)) => ⟨.bool (decide (i.2.2.1 = i.2.2.2)), []⟩)
@[simp] theorem sameLSp_eq {t : Nat} {u : Nat} {a : List (List UInt8)} {b : List (List UInt8)} (h1 : a.length ≤ 9223372036854775807) : sameLSp ([V.sl t 1 (listRow a), .sl u 1 (listRow b)]) ([]) = some (⟨.bool (decide (a = b)), []⟩) :=
  fam_eq (A := fun i : Nat × Nat × (List (List UInt8)) × (List (List UInt8)) => [V.sl i.1 1 (listRow i.2.2.1), .sl i.2.1 1 (listRow i.2.2.2)]) (O := fun _ : Nat × Nat × (List (List UInt8)) × (List (List UInt8)) => []) (res := fun i : Nat × Nat × (List (List UInt8)) × (List (List UInt8)) => ⟨.bool (decide (i.2.2.1 = i.2.2.2)), []⟩) (by rintro ⟨a0, a1, a2, a3⟩ ⟨b0, b1, b2, b3⟩ h h' <;> simp at h h' <;> simp_all) (t, u, a, b) h1

noncomputable def CF6 := mkC [(12, sameSp), (14, putSp)]
theorem CF6_ok : SpecsOk Try.prog CF6 := mkC_ok (all_cons same_spec (all_cons refput_spec all_nil))
@[simp] theorem CF6_1 : CF6 12 = sameSp := rfl
@[simp] theorem CF6_2 : CF6 14 = putSp := rfl

def slSt (t u : Nat) (a b : List (List UInt8)) (i : Nat) : St :=
  mkSt [(0, .sl t 1 (listRow a)), (1, .sl u 1 (listRow b)), (5, .int .i64 i)] [] 0

theorem sameL_spec : Lift.Spec Try.prog 21 sameLSp := by
  refine spec_fam (C := CF6) types_ok CF6_ok follows Try.func21 (by kernel_rfl) rfl (by kernel_rfl) rfl ?_
  rintro ⟨t, u, a, b⟩ ha
  simp only at ha
  refine ⟨by simp, ?_⟩
  intro r hr
  by_cases hl : a.length = b.length
  · simp [hl]
    refine axwp_loop (slSt t u a b) (fun i => i ≤ a.length ∧ a.take i = b.take i) (fun i => a.length - i) 0 ?_ ⟨Nat.zero_le _, rfl⟩ ?_
    · refine weak_mk id ?_ ?_ ?_ ?_ <;> simp
    · rintro i ⟨hi, he⟩
      by_cases hik : i < a.length
      · obtain ⟨x, hx, hx'⟩ : ∃ x, a[i]? = some x ∧ a[i] = x := ⟨_, List.getElem?_eq_getElem hik, rfl⟩
        obtain ⟨y, hy, hy'⟩ : ∃ y, b[i]? = some y ∧ b[i]'(by omega) = y := ⟨_, List.getElem?_eq_getElem (by omega), rfl⟩
        have hik2 : i < b.length := by omega
        have w4 : IntKind.i64.wrap ((i : Int) + 1) = (i : Int) + 1 := wrap_i64_in (by omega) (by omega)
        by_cases hxy : x = y
        · simp [slSt, hik, hik2, hx', hy', hxy, w4]
          refine ⟨⟨by kernel_rfl, by kernel_rfl⟩, ?_⟩
          refine Again.mk (i + 1) ⟨?_, ?_⟩ ?_ ?_
          · exact hik
          · rw [List.take_add_one, List.take_add_one, he, hx, hy, hxy]
          · omega
          · refine weak_mk id ?_ ?_ ?_ ?_ <;> simp
        · simp [slSt, hik, hik2, hx', hy', hxy]
          refine ⟨⟨by kernel_rfl, by kernel_rfl⟩, ?_⟩
          rw [hr]; refine ret_closed rfl ?_ rfl
          have : ¬ a = b := fun h => hxy (by rw [h, hy] at hx; exact (Option.some.inj hx).symm)
          simp [this]
      · have e : i = a.length := by omega
        subst e
        simp [slSt, hl]
        rw [hr]; refine ret_closed rfl ?_ rfl
        have : a = b := by rw [List.take_length, hl, List.take_length] at he; exact he
        simp [this]
  · have hl2 : ¬ (a.length : Int) = (b.length : Int) := by omega
    simp [hl2]
    rw [hr]; refine ret_closed rfl ?_ rfl
    simp
    intro h; rw [h] at hl; exact hl rfl
end Go.Proofs.Ytgnfgcpolbcaoaa
