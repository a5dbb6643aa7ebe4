/-
  frame: laws.
-/
import Derived.Test.YtgnfgcpolbcaoaaF6
namespace Go.Proofs.Ytgnfgcpolbcaoaa
open Go.Lift

theorem sameSp_nil2 {t u : Nat} : sameSp [V.sl t 1 [], .sl u 1 []] [] = some ⟨.bool true, []⟩ := by
  have := sameSp_eq (t := t) (u := u) (l := []) (m := [])
  simpa using this
attribute [simp] sameSp_nil2

noncomputable def CF8 := mkC [(13, putSp), (14, putSp), (15, frTakeSp), (16, frTakeSp), (19, allSp), (20, allSp), (21, sameLSp), (12, sameSp), (11, trueSp), (17, fewSp3), (18, wholeSp)]
theorem CF8_ok : SpecsOk Try.prog CF8 := mkC_ok (all_cons put_spec (all_cons refput_spec (all_cons frTake_spec (all_cons refFrTake_spec (all_cons all_spec (all_cons refall_spec2 (all_cons sameL_spec (all_cons same_spec (all_cons awakeF_spec (all_cons few3_spec (all_cons whole_spec all_nil)))))))))))
@[simp] theorem CF8_1 : CF8 13 = putSp := rfl
@[simp] theorem CF8_2 : CF8 14 = putSp := rfl
@[simp] theorem CF8_3 : CF8 15 = frTakeSp := rfl
@[simp] theorem CF8_4 : CF8 16 = frTakeSp := rfl
@[simp] theorem CF8_5 : CF8 19 = allSp := rfl
@[simp] theorem CF8_6 : CF8 20 = allSp := rfl
@[simp] theorem CF8_7 : CF8 21 = sameLSp := rfl
@[simp] theorem CF8_8 : CF8 12 = sameSp := rfl
@[simp] theorem CF8_9 : CF8 11 = trueSp := rfl
@[simp] theorem CF8_10 : CF8 17 = fewSp3 := rfl
@[simp] theorem CF8_11 : CF8 18 = wholeSp := rfl

theorem law_FramePut : Lift.Spec Try.prog 3 (fam (fun i : (List UInt8) × Int × (List UInt8) => [V.sl 2 1 (byteRow i.1), .int .i64 i.2.1, .sl 2 1 (byteRow i.2.2)]) (fun _ => []) (fun i : (List UInt8) × Int × (List UInt8) => (i.1.length ≤ 1048575) ∧ (In64 i.2.1) ∧ (i.2.2.length ≤ 1048575)) (fun _ => ⟨.bool true, []⟩)) := by
  refine spec_fam (C := CF8) types_ok CF8_ok follows Try.func3 (by kernel_rfl) rfl (by kernel_rfl) rfl ?_
  rintro ⟨b, key, p⟩ ⟨h1, h2, h3⟩
  simp only at h1 h2 h3
  refine ⟨by simp, ?_⟩
  intro r hr
  have q1 : b.length ≤ 140737488200000 := by omega
  have q2 : p.length ≤ 9223372036854775807 := by omega
  simp [q1, q2, h2, rowOf]
  rw [hr]; refine ret_closed rfl ?_ rfl
  simp

theorem law_FrameKeys : Lift.Spec Try.prog 10 (fam (fun i : Int × Int × (List UInt8) => [V.int .i64 i.1, .int .i64 i.2.1, .sl 2 1 (byteRow i.2.2)]) (fun _ => []) (fun i : Int × Int × (List UInt8) => (In64 i.1) ∧ (In64 i.2.1) ∧ (i.2.2.length ≤ 9223372036854775807)) (fun _ => ⟨.bool true, []⟩)) := by
  refine spec_fam (C := CF8) types_ok CF8_ok follows Try.func10 (by kernel_rfl) rfl (by kernel_rfl) rfl ?_
  rintro ⟨key, other, p⟩ ⟨h1, h2, h3⟩
  simp only at h1 h2 h3
  refine ⟨by simp, ?_⟩
  intro r hr
  by_cases hp : p.length ≤ 300
  · have hp' : ¬ (300 : Int) < (p.length : Int) := by omega
    have h65 : p.length ≤ 65536 := by omega
    have hB := putB_nil (key := key) h65
    have hT := frT_fr (key := key) (key' := other) (p := p) (more := []) h65 h1 h2
    rw [List.append_nil] at hT
    have hL : (frB key p).length ≤ 140737488355328 := by have := frB_le (key := key) h65; omega
    by_cases e : key = other
    · subst e
      rw [if_pos rfl] at hT
      simp [hp', putSp_nil h1 h3, hB, h2, hL, hT, rowOf, frRes_ok]
      rw [hr]; refine ret_closed rfl ?_ rfl
      simp
    · rw [if_neg e] at hT
      simp [hp', putSp_nil h1 h3, hB, h2, hL, hT, rowOf, frRes_err, e]
      rw [hr]; refine ret_closed rfl ?_ rfl
      simp
  · have hp' : (300 : Int) < (p.length : Int) := by omega
    simp [hp']
    rw [hr]; refine ret_closed rfl ?_ rfl
    simp

theorem law_FrameCut : Lift.Spec Try.prog 9 (fam (fun i : Int × (List UInt8) × Int => [V.int .i64 i.1, .sl 2 1 (byteRow i.2.1), .int .i64 i.2.2]) (fun _ => []) (fun i : Int × (List UInt8) × Int => (In64 i.1) ∧ (i.2.1.length ≤ 9223372036854775807)) (fun _ => ⟨.bool true, []⟩)) := by
  refine spec_fam (C := CF8) types_ok CF8_ok follows Try.func9 (by kernel_rfl) rfl (by kernel_rfl) rfl ?_
  rintro ⟨key, p, cut⟩ ⟨h1, h2⟩
  simp only at h1 h2
  refine ⟨by simp, ?_⟩
  intro r hr
  by_cases hp : p.length ≤ 300
  · have hp' : ¬ (300 : Int) < (p.length : Int) := by omega
    have h65 : p.length ≤ 65536 := by omega
    have hB := putB_nil (key := key) h65
    have hle := frB_le (key := key) h65
    have hge := frB_len (key := key) (p := p)
    have hL : (frB key p).length ≤ 140737488355328 := by omega
    have h0 : ¬ (frB key p).length = 0 := by omega
    obtain ⟨k, hk, hkl⟩ := wrapIx (a := cut) (n := (frB key p).length) (by omega) (by omega)
    have hT := frT_cut (key := key) (p := p) (k := k) h65 (by omega)
    have hk2 : k ≤ (frB key p).length := by omega
    have hk3 : k ≤ 140737488355328 := by omega
    simp [hp', putSp_nil h1 h2, hB, h0, h1, hk, hk2, hk3, hT, rowOf, frRes_err]
    rw [hr]; refine ret_closed rfl ?_ rfl
    simp
  · have hp' : (300 : Int) < (p.length : Int) := by omega
    simp [hp']
    rw [hr]; refine ret_closed rfl ?_ rfl
    simp

theorem law_FrameDamage : Lift.Spec Try.prog 8 (fam (fun i : Int × (List UInt8) × Int × UInt8 => [V.int .i64 i.1, .sl 2 1 (byteRow i.2.1), .int .i64 i.2.2.1, .int .u8 i.2.2.2.toNat]) (fun _ => []) (fun i : Int × (List UInt8) × Int × UInt8 => (In64 i.1) ∧ (i.2.1.length ≤ 9223372036854775807)) (fun _ => ⟨.bool true, []⟩)) := by
  refine spec_fam (C := CF8) types_ok CF8_ok follows Try.func8 (by kernel_rfl) rfl (by kernel_rfl) rfl ?_
  rintro ⟨key, p, at_, by_⟩ ⟨h1, h2⟩
  simp only at h1 h2
  refine ⟨by simp, ?_⟩
  intro r hr
  by_cases hp : p.length ≤ 300
  · have hp' : ¬ (300 : Int) < (p.length : Int) := by omega
    have h65 : p.length ≤ 65536 := by omega
    have hB := putB_nil (key := key) h65
    have hle := frB_le (key := key) h65
    have hge := frB_len (key := key) (p := p)
    have hpos := enc_pos (code (p.length : Int))
    have hL : (frB key p).length ≤ 140737488355328 := by omega
    have w1 : IntKind.i64.wrap ((p.length : Int) + 8) = (p.length : Int) + 8 := wrap_i64_in (by omega) (by omega)
    have h0 : ¬ ((frB key p).length : Int) ≤ (p.length : Int) + 8 := by omega
    obtain ⟨k, hk, hkl⟩ := wrapIx (a := at_) (n := (p.length : Int) + 8) (by omega) (by omega)
    have hn0 : ¬ (p.length : Int) + 8 = 0 := by omega
    have w2 : IntKind.i64.wrap (((frB key p).length : Int) - ((p.length : Int) + 8)) = ((frB key p).length : Int) - ((p.length : Int) + 8) := wrap_i64_in (by omega) (by omega)
    obtain ⟨m, hm⟩ : ∃ m : Nat, m = (frB key p).length - (p.length + 8) + k := ⟨_, rfl⟩
    have w3 : IntKind.i64.wrap (((frB key p).length : Int) - ((p.length : Int) + 8) + (k : Int)) = (m : Int) := by rw [wrap_i64_in (by omega) (by omega)]; omega
    have hml : m < (frB key p).length := by omega
    obtain ⟨was, hw, hw'⟩ : ∃ y, (frB key p)[m]? = some y ∧ (frB key p)[m] = y := ⟨_, List.getElem?_eq_getElem hml, rfl⟩
    have hD := frT_damage (key := key) (p := p) (k := m) (x := by_) h65 (by omega) hw
    have ht : ((frB key p).set m by_).take (frB key p).length = (frB key p).set m by_ := List.take_of_length_le (by simp)
    rcases hF : frT key ((frB key p).set m by_) with ⟨a, b, c⟩
    rw [hF] at hD
    simp only at hD
    have hres : frRes (a, b, c) = if was = by_ then ⟨.tup [.own 0 0 a.length, .int .i64 b, .int .i64 0], [rowOf a]⟩ else ⟨.tup [.sl 0 1 [], .int .i64 0, .int .i64 18], []⟩ := by
      rw [hD]
      by_cases e : was = by_
      · rw [if_pos e, if_pos e, frRes_ok]
      · rw [if_neg e, if_neg e, frRes_err _ _ _ (by decide)]
    by_cases e : was = by_
    · rw [if_pos e] at hres
      simp [hp', putSp_nil h1 h2, hB, w1, w2, w3, h0, hn0, h1, hL, hk, hml, hw', byteRow_set, ht, hF, hres, rowOf, e]
      rw [hr]; refine ret_closed rfl ?_ rfl
      simp
    · rw [if_neg e] at hres
      have e' : ¬ (was.toNat : Int) = (by_.toNat : Int) := fun h => e (UInt8.toNat_inj.1 (Int.natCast_inj.1 h))
      simp [hp', putSp_nil h1 h2, hB, w1, w2, w3, h0, hn0, h1, hL, hk, hml, hw', byteRow_set, ht, hF, hres, rowOf, e']
      rw [hr]; refine ret_closed rfl ?_ rfl
      simp
  · have hp' : (300 : Int) < (p.length : Int) := by omega
    simp [hp']
    rw [hr]; refine ret_closed rfl ?_ rfl
    simp

theorem law_FrameBack : Lift.Spec Try.prog 6 (fam (fun i : Int × (List UInt8) × (List UInt8) => [V.int .i64 i.1, .sl 2 1 (byteRow i.2.1), .sl 2 1 (byteRow i.2.2)]) (fun _ => []) (fun i : Int × (List UInt8) × (List UInt8) => (In64 i.1) ∧ (i.2.1.length ≤ 1048575) ∧ (i.2.2.length ≤ 1048575)) (fun _ => ⟨.bool true, []⟩)) := by
  refine spec_fam (C := CF8) types_ok CF8_ok follows Try.func6 (by kernel_rfl) rfl (by kernel_rfl) rfl ?_
  rintro ⟨key, p, more⟩ ⟨h1, h2, h3⟩
  simp only at h1 h2 h3
  refine ⟨by simp, ?_⟩
  intro r hr
  have q2 : p.length ≤ 9223372036854775807 := by omega
  by_cases hp : p.length ≤ 65536
  · have hp' : ¬ (65536 : Int) < (p.length : Int) := by omega
    have hB := putB_nil (key := key) hp
    have hle := frB_le (key := key) hp
    have hL : ((frB key p).length : Int) ≤ 140737488355328 := by omega
    have hL2 : ((frB key p).length : Int) + (more.length : Int) ≤ 140737488355328 := by omega
    have hL3 : (frB key p).length + more.length ≤ 140737488355328 := by omega
    have hT := frT_fr (key := key) (key' := key) (p := p) (more := more) hp h1 h1
    rw [if_pos rfl] at hT
    have ht : (frB key p ++ more).take ((frB key p).length + more.length) = frB key p ++ more := List.take_of_length_le (by simp)
    simp [hp', putSp_nil h1 q2, hB, h1, hL, hL2, hL3, hT, ht, rowOf, frRes_ok]
    rw [hr]; refine ret_closed rfl ?_ rfl
    simp
  · have hp' : (65536 : Int) < (p.length : Int) := by omega
    have hB : putB key [] p = [] := by unfold putB; rw [if_pos (by omega)]
    simp [hp', putSp_nil h1 q2, hB, rowOf]
    rw [hr]; refine ret_closed rfl ?_ rfl
    simp

theorem law_FrameTake : Lift.Spec Try.prog 4 (fam (fun i : (List UInt8) × Int × (List UInt8) × Int × UInt8 => [V.sl 2 1 (byteRow i.1), .int .i64 i.2.1, .sl 2 1 (byteRow i.2.2.1), .int .i64 i.2.2.2.1, .int .u8 i.2.2.2.2.toNat]) (fun _ => []) (fun i : (List UInt8) × Int × (List UInt8) × Int × UInt8 => (i.1.length ≤ 9223372036854775807) ∧ (In64 i.2.1) ∧ (i.2.2.1.length ≤ 9223372036854775807)) (fun _ => ⟨.bool true, []⟩)) := by
  refine spec_fam (C := CF8) types_ok CF8_ok follows Try.func4 (by kernel_rfl) rfl (by kernel_rfl) rfl ?_
  rintro ⟨b, key, p, at_, by_⟩ ⟨h1, h2, h3⟩
  simp only at h1 h2 h3
  refine ⟨by simp, ?_⟩
  intro r hr
  by_cases hb : b.length ≤ 400
  · have hb' : ¬ (400 : Int) < (b.length : Int) := by omega
    by_cases hp : p.length ≤ 300
    · have hp' : ¬ (300 : Int) < (p.length : Int) := by omega
      have h65 : p.length ≤ 65536 := by omega
      have hB := putB_nil (key := key) h65
      have hle := frB_le (key := key) h65
      have hge := frB_len (key := key) (p := p)
      have hL : (frB key p).length ≤ 140737488355328 := by omega
      have hbl : b.length ≤ 140737488355328 := by omega
      have h0 : ¬ (frB key p).length = 0 := by omega
      obtain ⟨k, hk, hkl⟩ := wrapIx (a := at_) (n := (frB key p).length) (by omega) (by omega)
      have hkl' : k < (frB key p).length := by omega
      obtain ⟨was, hw, hw'⟩ : ∃ y, (frB key p)[k]? = some y ∧ (frB key p)[k] = y := ⟨_, List.getElem?_eq_getElem hkl', rfl⟩
      have ht : ((frB key p).set k by_).take (frB key p).length = (frB key p).set k by_ := List.take_of_length_le (by simp)
      rcases frT_two key b with ⟨e, he, hT⟩ | ⟨q, n, hT, _, _, hql⟩ <;> rcases frT_two key ((frB key p).set k by_) with ⟨e2, he2, hT2⟩ | ⟨q2, n2, hT2, _, _, hql2⟩
      · simp [hb', hp', putSp_nil h2 h3, hB, h0, h2, hL, hbl, hk, hkl', hw', byteRow_set, ht, hT, hT2, frRes_err _ _ _ he, frRes_err _ _ _ he2, rowOf]
        rw [hr]; refine ret_closed rfl ?_ rfl
        simp
      · simp [hb', hp', putSp_nil h2 h3, hB, h0, h2, hL, hbl, hk, hkl', hw', byteRow_set, ht, hT, hT2, frRes_err _ _ _ he, frRes_ok, rowOf]
        rw [hr]; refine ret_closed rfl ?_ rfl
        simp
      · simp [hb', hp', putSp_nil h2 h3, hB, h0, h2, hL, hbl, hk, hkl', hw', byteRow_set, ht, hT, hT2, frRes_ok, frRes_err _ _ _ he2, rowOf]
        rw [hr]; refine ret_closed rfl ?_ rfl
        simp
      · simp [hb', hp', putSp_nil h2 h3, hB, h0, h2, hL, hbl, hk, hkl', hw', byteRow_set, ht, hT, hT2, frRes_ok, rowOf]
        rw [hr]; refine ret_closed rfl ?_ rfl
        simp
    · have hp' : (300 : Int) < (p.length : Int) := by omega
      simp [hb', hp']
      rw [hr]; refine ret_closed rfl ?_ rfl
      simp
  · have hb' : (400 : Int) < (b.length : Int) := by omega
    simp [hb']
    rw [hr]; refine ret_closed rfl ?_ rfl
    simp

noncomputable def frcSt (l : List (List UInt8)) (key : Int) (last : List UInt8) (cut : Int) (i : Nat) : St := mkSt [(0, .sl 2 1 (listRow l)), (1, .int .i64 key), (2, .sl 2 1 (byteRow last)), (3, .int .i64 cut), (9, .own 0 0 (framesB key (l.take i)).length), (10, .int .i64 i)] [(0, rowOf (framesB key (l.take i)))] 1

theorem law_FrameRecords : Lift.Spec Try.prog 7 (fam (fun i : (List (List UInt8)) × Int × (List UInt8) × Int => [V.sl 2 1 (listRow i.1), .int .i64 i.2.1, .sl 2 1 (byteRow i.2.2.1), .int .i64 i.2.2.2]) (fun _ => []) (fun i : (List (List UInt8)) × Int × (List UInt8) × Int => (i.1.length ≤ 9223372036854775807) ∧ (In64 i.2.1) ∧ (i.2.2.1.length ≤ 9223372036854775807)) (fun _ => ⟨.bool true, []⟩)) := by
  refine spec_fam (C := CF8) types_ok CF8_ok follows Try.func7 (by kernel_rfl) rfl (by kernel_rfl) rfl ?_
  rintro ⟨l, key, last, cut⟩ ⟨h1, h2, h3⟩
  simp only at h1 h2 h3
  refine ⟨by simp, ?_⟩
  intro r hr
  by_cases hf : fewL l = true
  · by_cases hp : last.length ≤ 300
    · have hp' : ¬ (300 : Int) < (last.length : Int) := by omega
      obtain ⟨hl, hx300⟩ := fewL_spec hf
      simp [h1, hf, hp']
      refine axwp_loop (frcSt l key last cut) (fun i => i ≤ l.length) (fun i => l.length - i) 0 ?_ (Nat.zero_le _) ?_
      · refine weak_nil_mk 9 77 (sz := 1) (rowOf []) (fun _ => 77) ?_ ?_ ?_ ?_ ?_ ?_ <;> simp [rowOf, framesB]
      · intro i hi
        by_cases hik : i < l.length
        · obtain ⟨x, hx, hx'⟩ : ∃ x, l[i]? = some x ∧ l[i] = x := ⟨_, List.getElem?_eq_getElem hik, rfl⟩
          have w4 : IntKind.i64.wrap ((i : Int) + 1) = (i : Int) + 1 := wrap_i64_in (by omega) (by omega)
          have q1 : (framesB key (l.take i)).length ≤ 140737488200000 := by
            have := framesB_le (key := key) (l := l.take i) (fun y hy => hx300 y (List.mem_of_mem_take hy))
            rw [List.length_take] at this; omega
          have q2 := hx300 x (List.mem_of_getElem? hx)
          have q3 : x.length ≤ 9223372036854775807 := by omega
          have q4 := framesB_take (key := key) hx
          have q5 := putB_few (key := key) (b := framesB key (l.take i)) (p := x) (by omega)
          simp [frcSt, rowOf, hik, hx', q1, q3, h2, w4]
          refine Again.mk (i + 1) hik ?_ ?_
          · omega
          · refine weak_at [.inr 9] ?_ ?_ ?_ ?_ <;> simp [rowOf, q4, q5]
        · have e : i = l.length := by omega
          subst e
          have hFl := framesB_le (key := key) hx300
          have h65 : last.length ≤ 65536 := by omega
          have hB := putB_nil (key := key) h65
          have hle := frB_le (key := key) h65
          have hge := frB_len (key := key) (p := last)
          have h0 : ¬ (frB key last).length = 0 := by omega
          have hL : (frB key last).length ≤ 140737488355328 := by omega
          obtain ⟨k, hk, hkl⟩ := wrapIx (a := cut) (n := (frB key last).length) (by omega) (by omega)
          have hkl' : k ≤ (frB key last).length := by omega
          have hT := frT_cut (key := key) (p := last) (k := k) h65 (by omega)
          have hA := allT_frames (key := key) h2 (l := l) (rest := (frB key last).take k) (fun x hx => by have := hx300 x hx; omega) (by decide) hT
          have q1 : ((framesB key l).length : Int) ≤ 140737488355328 := by omega
          have q2 : ((framesB key l).length : Int) + (k : Int) ≤ 140737488355328 := by omega
          have q3 : (framesB key l).length + k ≤ 40000000000000 := by omega
          have ht : (framesB key l ++ (frB key last).take k).take ((framesB key l).length + k) = framesB key l ++ (frB key last).take k := List.take_of_length_le (by simp; omega)
          simp [frcSt, rowOf, putSp_nil h2 h3, hB, h0, hk, hkl', q1, q2, q3, h2, ht, hA, allRes, recOf, h1]
          refine ⟨⟨by kernel_rfl, by kernel_rfl⟩, ?_⟩
          rw [hr]; refine ret_closed rfl ?_ rfl
          simp
    · have hp' : (300 : Int) < (last.length : Int) := by omega
      simp [h1, hf, hp']
      rw [hr]; refine ret_closed rfl ?_ rfl
      simp
  · simp [h1, hf]
    rw [hr]; refine ret_closed rfl ?_ rfl
    simp

theorem allAt_len (key : Int) (b : List UInt8) : ∀ (m at_ : Nat) (acc : List (List UInt8)), b.length - at_ ≤ m → acc.length ≤ at_ → at_ ≤ b.length → (allAt key b at_ acc).1.length ≤ b.length := by
  intro m
  induction m with
  | zero =>
    intro at_ acc h1 h2 h3
    have e : at_ = b.length := by omega
    rw [allAt_err h3 (e := 17) (by decide) (by rw [e, List.drop_length]; exact frT_nil key)]
    exact Nat.le_trans h2 h3
  | succ m ih =>
    intro at_ acc h1 h2 h3
    rcases frT_two key (b.drop at_) with ⟨e, he, hT⟩ | ⟨p, n, hT, h9, hle, _⟩
    · rw [allAt_err h3 he hT]; exact Nat.le_trans h2 h3
    · rw [List.length_drop] at hle
      rw [allAt_ok h3 (by omega) (by omega) hT]
      exact ih _ _ (by omega) (by simp; omega) (by omega)
theorem allT_len (key : Int) (b : List UInt8) : (allT key b).1.length ≤ b.length := by
  rw [allT_eq]; exact allAt_len key b b.length 0 [] (by omega) (Nat.le_refl _) (Nat.zero_le _)

/-- The four byte strings of the law FrameAll. -/
noncomputable def faL (B more : List UInt8) (k : Nat) : List (List UInt8) := [B, B.take k, B.take k ++ more, more]
noncomputable def faSt (B more : List UInt8) (k : Nat) (key : Int) (i : Nat) : St := mkSt [(1, .int .i64 key), (11, .sl 2 1 (listRow (faL B more k))), (12, .int .i64 i)] [] 1

theorem law_FrameAll : Lift.Spec Try.prog 5 (fam (fun i : (List (List UInt8)) × Int × Int × (List UInt8) => [V.sl 2 1 (listRow i.1), .int .i64 i.2.1, .int .i64 i.2.2.1, .sl 2 1 (byteRow i.2.2.2)]) (fun _ => []) (fun i : (List (List UInt8)) × Int × Int × (List UInt8) => (i.1.length ≤ 9223372036854775807) ∧ (In64 i.2.1) ∧ (In64 i.2.2.1) ∧ (i.2.2.2.length ≤ 9223372036854775807)) (fun _ => ⟨.bool true, []⟩)) := by
  refine spec_fam (C := CF8) types_ok CF8_ok follows Try.func5 (by kernel_rfl) rfl (by kernel_rfl) rfl ?_
  rintro ⟨l, key, cut, more⟩ ⟨h1, h2, h3, h4⟩
  simp only at h1 h2 h3 h4
  refine ⟨by simp, ?_⟩
  intro r hr
  by_cases hf : fewL l = true
  · by_cases hp : more.length ≤ 300
    · have hp' : ¬ (300 : Int) < (more.length : Int) := by omega
      obtain ⟨hl, hx300⟩ := fewL_spec hf
      have hFl := framesB_le (key := key) hx300
      generalize hB : framesB key l = B at *
      have w1 : IntKind.i64.wrap ((B.length : Int) + 1) = (B.length : Int) + 1 := wrap_i64_in (by omega) (by omega)
      have hn0 : ¬ (B.length : Int) + 1 = 0 := by omega
      have hc1 := Int.tmod_lt_of_pos cut (show (0 : Int) < (B.length : Int) + 1 by omega)
      have hc2 := Int.lt_tmod_of_pos cut (show (0 : Int) < (B.length : Int) + 1 by omega)
      have w2 : IntKind.i64.wrap (cut.tmod ((B.length : Int) + 1) + (B.length : Int)) = cut.tmod ((B.length : Int) + 1) + (B.length : Int) := wrap_i64_in (by omega) (by omega)
      obtain ⟨k, hk, hkl⟩ := wrapIx (a := cut) (n := (B.length : Int) + 1) (by omega) (by omega)
      rw [← Int.add_assoc] at hk
      have hkl' : k ≤ B.length := by omega
      have q1 : (k : Int) ≤ 140737488355328 := by omega
      have q2 : (k : Int) + (more.length : Int) ≤ 140737488355328 := by omega
      simp [h1, h2, hf, hp', hB, rowOf, w1, w2, hn0, hk, hkl', q1, q2]
      refine ⟨⟨by kernel_rfl, by kernel_rfl⟩, ?_⟩
      have hlen : ∀ x ∈ faL B more k, x.length ≤ 100000 := by
        intro x hx
        simp only [faL, List.mem_cons, List.not_mem_nil, or_false] at hx
        rcases hx with rfl | rfl | rfl | rfl <;> (try simp only [List.length_take, List.length_append]) <;> omega
      have hmin : k ≤ min k B.length := by omega
      have ht : (B.take k ++ more).take (k + more.length) = B.take k ++ more := List.take_of_length_le (by simp; omega)
      refine axwp_loop (faSt B more k key) (fun i => i ≤ 4) (fun i => 4 - i) 0 ?_ (Nat.zero_le _) ?_
      · refine (weak_fzS [9, 52] ?_).trans ((weak_fzS [11] ?_).trans (weak_mk id ?_ ?_ ?_ ?_)) <;> simp [faL, listRow, hkl', ht]
      · intro i hi
        by_cases hik : i < 4
        · obtain ⟨x, hx, hx'⟩ : ∃ x, (faL B more k)[i]? = some x ∧ (faL B more k)[i]'(by simpa [faL] using hik) = x := ⟨_, List.getElem?_eq_getElem _, rfl⟩
          have w4 : IntKind.i64.wrap ((i : Int) + 1) = (i : Int) + 1 := wrap_i64_in (by omega) (by omega)
          have hxl := hlen x (List.mem_of_getElem? hx)
          have q3 : x.length ≤ 40000000000000 := by omega
          have hfl : (faL B more k).length = 4 := rfl
          rcases hA : allT key x with ⟨a, n⟩
          have q4 : a.length ≤ 9223372036854775807 := by have := allT_len key x; rw [hA] at this; simp only at this; omega
          have hik' : (i : Int) < 4 := by omega
          simp [faSt, hfl, hik, hik', hx', h2, q3, q4, hA, allRes, recOf]
          refine Again.mk (i + 1) ?_ ?_ ?_
          · exact hik
          · omega
          · refine weak_mk id ?_ ?_ ?_ ?_ <;> simp [w4]
        · have e : i = 4 := by omega
          subst e
          have hfl : (faL B more k).length = 4 := rfl
          simp [faSt, hfl]
          rw [hr]; refine ret_closed rfl ?_ rfl
          simp
    · have hp' : (300 : Int) < (more.length : Int) := by omega
      simp [h1, hf, hp']
      rw [hr]; refine ret_closed rfl ?_ rfl
      simp
  · simp [h1, hf]
    rw [hr]; refine ret_closed rfl ?_ rfl
    simp
end Go.Proofs.Ytgnfgcpolbcaoaa
