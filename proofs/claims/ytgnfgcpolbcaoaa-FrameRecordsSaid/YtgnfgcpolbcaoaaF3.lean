/-
  frame: what is put and taken.
-/
import Derived.Test.YtgnfgcpolbcaoaaF2
namespace Go.Proofs.Ytgnfgcpolbcaoaa
open Go.Lift

theorem allI_in (h : Int) (l : List UInt8) : InU64 (allI h l) := mixI_in _ _
theorem sumI_in (key : Int) (l : List UInt8) : InU64 (sumI key l) := by rw [sumI_eq]; exact allI_in _ _
attribute [simp] sumI_in

/-- The frame of a byte string. -/
noncomputable def frB : Int → List UInt8 → List UInt8 := hush fun key p => enc (code p.length) ++ sumBs (sumI key p) ++ p
theorem frB_eq (key : Int) (p : List UInt8) : frB key p = enc (code p.length) ++ sumBs (sumI key p) ++ p := by unfold frB; rw [hush_eq]
noncomputable def putB (key : Int) (b p : List UInt8) : List UInt8 := if 65536 < p.length then b else b ++ frB key p

noncomputable def CF3 := mkC [(22, cloneSp), (26, joinSp), (23, apSumSp), (24, intSp), (25, sumSp), (28, intSp), (29, sumSp), (27, eightSp)]
theorem CF3_ok : SpecsOk Try.prog CF3 := mkC_ok (all_cons clone_spec (all_cons join_spec (all_cons apSum_spec (all_cons int_spec (all_cons sum_spec (all_cons refint_spec (all_cons refsum_spec (all_cons eight_spec all_nil))))))))
@[simp] theorem CF3_1 : CF3 22 = cloneSp := rfl
@[simp] theorem CF3_2 : CF3 26 = joinSp := rfl
@[simp] theorem CF3_3 : CF3 23 = apSumSp := rfl
@[simp] theorem CF3_4 : CF3 24 = intSp := rfl
@[simp] theorem CF3_5 : CF3 25 = sumSp := rfl
@[simp] theorem CF3_6 : CF3 28 = intSp := rfl
@[simp] theorem CF3_7 : CF3 29 = sumSp := rfl
@[simp] theorem CF3_8 : CF3 27 = eightSp := rfl

noncomputable def putSp := fam (fun i : Nat × (List UInt8) × Int × Nat × (List UInt8) => [V.sl i.1 1 (byteRow i.2.1), .int .i64 i.2.2.1, .sl i.2.2.2.1 1 (byteRow i.2.2.2.2)]) (fun _ : Nat × (List UInt8) × Int × Nat × (List UInt8) => []) (fun i : Nat × (List UInt8) × Int × Nat × (List UInt8) => (NilOk i.1 i.2.1) ∧ (In64 i.2.2.1) ∧ (i.2.1.length ≤ 140737488200000) ∧ (i.2.2.2.2.length ≤ 9223372036854775807)) (fun i : Nat × (List UInt8) × Int × Nat × (List UInt8) => ⟨.own 0 0 (putB i.2.2.1 i.2.1 i.2.2.2.2).length, [rowOf (putB i.2.2.1 i.2.1 i.2.2.2.2)]⟩)
@[simp] theorem putSp_eq {t : Nat} {b : List UInt8} {key : Int} {u : Nat} {p : List UInt8} (h1 : NilOk t b) (h2 : In64 key) (h3 : b.length ≤ 140737488200000) (h4 : p.length ≤ 9223372036854775807) : putSp ([V.sl t 1 (byteRow b), .int .i64 key, .sl u 1 (byteRow p)]) ([]) = some (⟨.own 0 0 (putB key b p).length, [rowOf (putB key b p)]⟩) :=
  fam_eq (A := fun i : Nat × (List UInt8) × Int × Nat × (List UInt8) => [V.sl i.1 1 (byteRow i.2.1), .int .i64 i.2.2.1, .sl i.2.2.2.1 1 (byteRow i.2.2.2.2)]) (O := fun _ : Nat × (List UInt8) × Int × Nat × (List UInt8) => []) (res := fun i : Nat × (List UInt8) × Int × Nat × (List UInt8) => ⟨.own 0 0 (putB i.2.2.1 i.2.1 i.2.2.2.2).length, [rowOf (putB i.2.2.1 i.2.1 i.2.2.2.2)]⟩) (by rintro ⟨a0, a1, a2, a3, a4⟩ ⟨b0, b1, b2, b3, b4⟩ h h' <;> simp at h h' <;> simp_all) (t, b, key, u, p) ⟨h1, h2, h3, h4⟩

theorem put_spec : Lift.Spec Try.prog 13 putSp := by
  refine spec_fam (C := CF3) types_ok CF3_ok follows Try.func13 (by kernel_rfl) rfl (by kernel_rfl) rfl ?_
  rintro ⟨t, b, key, u, p⟩ ⟨h0, hk, hb, hp⟩
  simp only at h0 hk hb hp
  refine ⟨by simp, ?_⟩
  intro r hr
  have hp' : (p.length : Int) ≤ 9223372036854775807 := by omega
  by_cases hbig : 65536 < p.length
  · have h1 : putB key b p = b := by simp [putB, hbig]
    have h2 : b.length ≤ 140737488355328 := by omega
    have h3 : (65536 : Int) < (p.length : Int) := by omega
    simp [h3, h0, h2]
    simp only [h1] at hr
    rw [hr]
    refine ret_at [.inr 6] rfl ?_ ?_ (by simp) ?_ ?_ ?_ ?_ <;> simp [rowOf]
  · have h1 : putB key b p = b ++ frB key p := by simp [putB, hbig]
    have h3 : ¬ (65536 : Int) < (p.length : Int) := by omega
    have hn : In64 (p.length : Int) := by unfold In64; omega
    have he := enc_ten _ (code_lt hn)
    have h4 : ((enc (code (p.length : Int))).length : Int) ≤ 140737488355318 := by omega
    have h5 : b.length + ((enc (code (p.length : Int))).length + 8) + p.length ≤ 140737488351232 := by omega
    simp [h3, intSp_nil hn, hk, hp', h4, h5, rowOf]
    have h6 : (b ++ (enc (code (p.length : Int)) ++ (sumBs (sumI key p) ++ p))) = putB key b p := by rw [h1, frB_eq]; simp
    have h7 : b.length + ((enc (code (p.length : Int))).length + 8) + p.length = (putB key b p).length := by rw [← h6]; simp; omega
    rw [hr]
    have h8 : ((enc (code (p.length : Int))) ++ sumBs (sumI key p)).take ((enc (code (p.length : Int))).length + 8) = enc (code (p.length : Int)) ++ sumBs (sumI key p) := List.take_of_length_le (by simp)
    refine ret_at [.inr 6] rfl ?_ ?_ (by simp) ?_ ?_ ?_ ?_ <;> simp [rowOf, h6, h7, h8]

theorem refput_spec : Lift.Spec Try.prog 14 putSp := by
  refine spec_fam (C := CF3) types_ok CF3_ok follows Try.func14 (by kernel_rfl) rfl (by kernel_rfl) rfl ?_
  rintro ⟨t, b, key, u, p⟩ ⟨h0, hk, hb, hp⟩
  simp only at h0 hk hb hp
  refine ⟨by simp, ?_⟩
  intro r hr
  have hp' : (p.length : Int) ≤ 9223372036854775807 := by omega
  by_cases hbig : 65536 < p.length
  · have h1 : putB key b p = b := by simp [putB, hbig]
    have h2 : (b.length : Int) ≤ 140737488355328 := by omega
    have h3 : (65536 : Int) < (p.length : Int) := by omega
    simp [h3, h2]
    simp only [h1] at hr
    rw [hr]
    refine ret_at [.inr 6] rfl ?_ ?_ (by simp) ?_ ?_ ?_ ?_ <;> simp [rowOf]
  · have h1 : putB key b p = b ++ frB key p := by simp [putB, hbig]
    have h3 : ¬ (65536 : Int) < (p.length : Int) := by omega
    have hn : In64 (p.length : Int) := by unfold In64; omega
    have he := enc_ten _ (code_lt hn)
    have h2 : (b.length : Int) ≤ 140737488351222 := by omega
    have h4 : (b.length : Int) + ((enc (code (p.length : Int))).length : Int) ≤ 140737488355318 := by omega
    have h5 : (b.length : Int) + ((enc (code (p.length : Int))).length : Int) + 8 + (p.length : Int) ≤ 140737488355328 := by omega
    simp [h2, h3, hn, hk, hp', h4, h5, rowOf]
    have h6 : (b ++ (enc (code (p.length : Int)) ++ (sumBs (sumI key p) ++ p))) = putB key b p := by rw [h1, frB_eq]; simp
    have h7 : b.length + (enc (code (p.length : Int))).length + 8 + p.length = (putB key b p).length := by rw [← h6]; simp; omega
    rw [hr]
    have h8 : (b ++ enc (code (p.length : Int))).take (b.length + (enc (code (p.length : Int))).length) = b ++ enc (code (p.length : Int)) := List.take_of_length_le (by simp)
    have h9 : b ++ enc (code (p.length : Int)) ++ (sumBs (sumI key p) ++ p) = putB key b p := by rw [← h6]; simp
    refine ret_at [.inr 6] rfl ?_ ?_ (by simp) ?_ ?_ ?_ ?_ <;> simp [rowOf, h6, h7, h8]

/-- What Take returns. -/
noncomputable def frT0 (key : Int) (b : List UInt8) : List UInt8 × Int × Int :=
  if (lenT b).2.2 = 0 then
    (if b.length < (lenT b).2.1.toNat + 8 + (lenT b).1.toNat then ([], 0, 17)
    else if (backN ((b.drop (lenT b).2.1.toNat).take 8) : Int) = sumI key ((b.drop ((lenT b).2.1.toNat + 8)).take (lenT b).1.toNat) then ((b.drop ((lenT b).2.1.toNat + 8)).take (lenT b).1.toNat, (lenT b).2.1 + 8 + (lenT b).1, 0) else ([], 0, 18))
  else ([], 0, (lenT b).2.2)
noncomputable def frT : Int → List UInt8 → List UInt8 × Int × Int := hush frT0
theorem frT_eq (key : Int) (b : List UInt8) : frT key b = frT0 key b := by unfold frT; rw [hush_eq]
def frRes (x : List UInt8 × Int × Int) : CRes := if x.2.2 = 0 then ⟨.tup [.own 0 0 x.1.length, .int .i64 x.2.1, .int .i64 0], [rowOf x.1]⟩ else ⟨.tup [.sl 0 1 [], .int .i64 0, .int .i64 x.2.2], []⟩
theorem frRes_ok (p : List UInt8) (n : Int) : frRes (p, n, 0) = ⟨.tup [.own 0 0 p.length, .int .i64 n, .int .i64 0], [rowOf p]⟩ := by simp [frRes]
theorem frRes_err (p : List UInt8) (n e : Int) (h : ¬ e = 0) : frRes (p, n, e) = ⟨.tup [.sl 0 1 [], .int .i64 0, .int .i64 e], []⟩ := by simp [frRes, h]

/-- What Take returns, case by case. -/
theorem frT_cases (key : Int) (b : List UInt8) : (∃ e, ¬ e = 0 ∧ frT key b = ([], 0, e) ∧ lenT b = (0, 0, e)) ∨ ∃ n k : Nat, lenT b = ((n : Int), (k : Int), 0) ∧ n ≤ 65536 ∧ 1 ≤ k ∧ k ≤ 10 ∧ k ≤ b.length ∧ (∃ rest, b = enc (code (n : Int)) ++ rest ∧ k = (enc (code (n : Int))).length) ∧
    ((b.length < k + 8 + n ∧ frT key b = ([], 0, 17)) ∨ (k + 8 + n ≤ b.length ∧ ¬ (backN ((b.drop k).take 8) : Int) = sumI key ((b.drop (k + 8)).take n) ∧ frT key b = ([], 0, 18)) ∨
      (k + 8 + n ≤ b.length ∧ (backN ((b.drop k).take 8) : Int) = sumI key ((b.drop (k + 8)).take n) ∧ frT key b = ((b.drop (k + 8)).take n, (k : Int) + 8 + n, 0))) := by
  rcases lenT_cases b with ⟨e, he, hL⟩ | ⟨n, k, hL, hn, hk, hk1, hk2, hr⟩
  · exact .inl ⟨e, he, by rw [frT_eq, frT0, hL]; simp [he], hL⟩
  · refine .inr ⟨n, k, hL, hn, hk1, hk2, hk, hr, ?_⟩
    by_cases hs : b.length < k + 8 + n
    · exact .inl ⟨hs, by rw [frT_eq, frT0, hL]; simp [hs]⟩
    · by_cases hq : (backN ((b.drop k).take 8) : Int) = sumI key ((b.drop (k + 8)).take n)
      · exact .inr (.inr ⟨by omega, hq, by rw [frT_eq, frT0, hL]; simp [hs, hq]⟩)
      · exact .inr (.inl ⟨by omega, hq, by rw [frT_eq, frT0, hL]; simp [hs, hq]⟩)

noncomputable def frTakeSp := fam (fun i : Nat × (List UInt8) × Int => [V.sl i.1 1 (byteRow i.2.1), .int .i64 i.2.2]) (fun _ : Nat × (List UInt8) × Int => []) (fun i : Nat × (List UInt8) × Int => (NilOk i.1 i.2.1) ∧ (In64 i.2.2) ∧ (i.2.1.length ≤ 140737488355328)) (fun i : Nat × (List UInt8) × Int => frRes (frT i.2.2 i.2.1))
@[simp] theorem frTakeSp_eq {t : Nat} {b : List UInt8} {key : Int} (h1 : NilOk t b) (h2 : In64 key) (h3 : b.length ≤ 140737488355328) : frTakeSp ([V.sl t 1 (byteRow b), .int .i64 key]) ([]) = some (frRes (frT key b)) :=
  fam_eq (A := fun i : Nat × (List UInt8) × Int => [V.sl i.1 1 (byteRow i.2.1), .int .i64 i.2.2]) (O := fun _ : Nat × (List UInt8) × Int => []) (res := fun i : Nat × (List UInt8) × Int => frRes (frT i.2.2 i.2.1)) (by rintro ⟨a0, a1, a2⟩ ⟨b0, b1, b2⟩ h h' <;> simp at h h' <;> simp_all) (t, b, key) ⟨h1, h2, h3⟩

noncomputable def CF4 := mkC [(22, cloneSp), (30, lenSp), (31, backSp), (25, sumSp), (32, takeSp), (29, sumSp), (33, backSp)]
theorem CF4_ok : SpecsOk Try.prog CF4 := mkC_ok (all_cons clone_spec (all_cons flen_spec (all_cons back_spec (all_cons sum_spec (all_cons reftake_spec (all_cons refsum_spec (all_cons refback_spec all_nil)))))))
@[simp] theorem CF4_1 : CF4 22 = cloneSp := rfl
@[simp] theorem CF4_2 : CF4 30 = lenSp := rfl
@[simp] theorem CF4_3 : CF4 31 = backSp := rfl
@[simp] theorem CF4_4 : CF4 25 = sumSp := rfl
@[simp] theorem CF4_5 : CF4 32 = takeSp := rfl
@[simp] theorem CF4_6 : CF4 29 = sumSp := rfl
@[simp] theorem CF4_7 : CF4 33 = backSp := rfl

theorem frTake_spec : Lift.Spec Try.prog 15 frTakeSp := by
  refine spec_fam (C := CF4) types_ok CF4_ok follows Try.func15 (by kernel_rfl) rfl (by kernel_rfl) rfl ?_
  rintro ⟨t, b, key⟩ ⟨h0, hkey, hb⟩
  simp only at h0 hkey hb
  refine ⟨by simp, ?_⟩
  intro r hr
  rcases frT_cases key b with ⟨e, he, hT, hL⟩ | ⟨n, k, hL, hn, hk1, hk2, hk, _, hc⟩
  · simp [lenV, hL, he]
    rw [hr]
    simp only [hT, frRes_err _ _ _ he]
    refine ret_closed rfl ?_ rfl
    simp
  · have w1 : IntKind.i64.wrap ((k : Int) + 8) = (k : Int) + 8 := wrap_i64_in (by omega) (by omega)
    have w2 : IntKind.i64.wrap ((k : Int) + 8 + (n : Int)) = (k : Int) + 8 + (n : Int) := wrap_i64_in (by omega) (by omega)
    have ht0 : t ≠ 0 := fun h => by rw [h0 h] at hk; simp at hk; omega
    rcases hc with ⟨hs, hT⟩ | hc
    · have hs' : (b.length : Int) < (k : Int) + 8 + (n : Int) := by omega
      simp [lenV, hL, w1, w2, hs']
      rw [hr]
      simp only [hT]
      rw [frRes_err _ _ _ (by decide)]
      refine ret_closed rfl ?_ rfl
      simp
    · have hs : k + 8 + n ≤ b.length := by rcases hc with hc | hc <;> exact hc.1
      have hs' : ¬ (b.length : Int) < (k : Int) + 8 + (n : Int) := by omega
      have q1 : (k : Int) + 8 + (n : Int) ≤ (b.length : Int) := by omega
      have q2 : (k : Int) + 8 ≤ (k : Int) + 8 + (n : Int) := by omega
      have q3 : (k : Int) ≤ (k : Int) + 8 := by omega
      have q4 : (k : Int) + 8 ≤ (b.length : Int) := by omega
      have e1 : ((k : Int) + 8).toNat = k + 8 := by omega
      have e2 : ((k : Int) + 8 + (n : Int)).toNat - (k + 8) = n := by omega
      have q0 : (0 : Int) ≤ (k : Int) + 8 := by omega
      have q5 : ((b.drop k).take 8).length ≤ 8 := by rw [List.length_take]; omega
      have q6 : (((b.drop (k + 8)).take n).length : Int) ≤ 9223372036854775807 := by rw [List.length_take]; omega
      have q7 : ((b.drop (k + 8)).take n).length ≤ 140737488355328 := by rw [List.length_take]; omega
      have e3 : k + 8 - k = 8 := by omega
      have q8 : ((b.drop (k + 8)).take n).length = n := by rw [List.length_take, List.length_drop]; omega
      have hnil : ∀ c, NilOk (cutTag t c) ((b.drop (k + 8)).take n) := fun c => nilOk_cut ht0
      simp only [List.length_take, List.length_drop] at q5 q6 q7 q8
      simp [lenV, hL, w1, w2, hs', q0, q1, q2, q3, q4, q5, q6, e1, e2, e3, hkey]
      rcases hc with ⟨_, hq, hT⟩ | ⟨_, hq, hT⟩
      · simp [hq]
        rw [hr]
        simp only [hT]
        rw [frRes_err _ _ _ (by decide)]
        refine ret_closed rfl ?_ rfl
        simp
      · simp [hq, hnil, q7]
        rw [hr]
        simp only [hT]
        rw [frRes_ok]
        refine ret_at [.inr 4] rfl ?_ ?_ (by simp) ?_ ?_ ?_ ?_ <;> simp [rowOf, q8]

theorem refFrTake_spec : Lift.Spec Try.prog 16 frTakeSp := by
  refine spec_fam (C := CF4) types_ok CF4_ok follows Try.func16 (by kernel_rfl) rfl (by kernel_rfl) rfl ?_
  rintro ⟨t, b, key⟩ ⟨h0, hkey, hb⟩
  simp only at h0 hkey hb
  refine ⟨by simp, ?_⟩
  intro r hr
  rcases frT_cases key b with ⟨e, he, hT, hL⟩ | ⟨n, k, hL, hn, hk1, hk2, hk, _, hc⟩
  · rcases hTk : takeT b with ⟨a, c, d⟩
    rw [lenT_eq, lenT0, hTk] at hL
    simp only at hL
    have hr2 : r = ⟨.tup [.sl 0 1 [], .int .i64 0, .int .i64 e], []⟩ := by rw [hr]; simp only [hT, frRes_err _ _ _ he]
    by_cases hd : d = 0
    · subst hd
      by_cases ha : a < 0
      · simp [ha] at hL
        simp [takeV, hTk, ha]
        rw [hr2, ← hL]; refine ret_closed rfl ?_ rfl
        simp
      · by_cases hb : 65536 < a
        · simp [ha, hb] at hL
          simp [takeV, hTk, ha, hb]
          rw [hr2, ← hL]; refine ret_closed rfl ?_ rfl
          simp
        · simp [ha, hb] at hL
          exact absurd hL.2.2.symm he
    · simp [hd] at hL
      simp [takeV, hTk, hd]
      rw [hr2, ← hL]; refine ret_closed rfl ?_ rfl
      simp
  · have hTk : takeT b = ((n : Int), (k : Int), 0) := by
      rcases hTk : takeT b with ⟨a, c, d⟩
      rw [lenT_eq, lenT0, hTk] at hL
      simp only at hL
      by_cases hd : d = 0
      · rw [if_pos hd] at hL
        by_cases ha : a < 0
        · rw [if_pos ha] at hL; simp at hL
        · rw [if_neg ha] at hL
          by_cases hb : 65536 < a
          · rw [if_pos hb] at hL; simp at hL
          · rw [if_neg hb] at hL; rw [hd]; exact hL
      · rw [if_neg hd] at hL; simp at hL; exact absurd hL.2.2 hd
    have w0 : IntKind.i64.wrap ((b.length : Int) - (k : Int)) = (b.length : Int) - (k : Int) := wrap_i64_in (by omega) (by omega)
    have w1 : IntKind.i64.wrap ((k : Int) + 8) = (k : Int) + 8 := wrap_i64_in (by omega) (by omega)
    have w2 : IntKind.i64.wrap ((k : Int) + 8 + (n : Int)) = (k : Int) + 8 + (n : Int) := wrap_i64_in (by omega) (by omega)
    have w3 : IntKind.i64.wrap ((n : Int) + 8) = (n : Int) + 8 := wrap_i64_in (by omega) (by omega)
    have hn2 : ¬ (65536 : Int) < (n : Int) := by omega
    have hn3 : ¬ (n : Int) < 0 := by omega
    rcases hc with ⟨hs, hT⟩ | hc
    · have hs' : (b.length : Int) - (k : Int) < (n : Int) + 8 := by omega
      simp [takeV, hTk, hn2, hn3, w0, w3, hs']
      rw [hr]
      simp only [hT]
      rw [frRes_err _ _ _ (by decide)]
      refine ret_closed rfl ?_ rfl
      simp
    · have hs : k + 8 + n ≤ b.length := by rcases hc with hc | hc <;> exact hc.1
      have hs' : ¬ (b.length : Int) - (k : Int) < (n : Int) + 8 := by omega
      have q1 : (k : Int) + 8 + (n : Int) ≤ (b.length : Int) := by omega
      have q2 : (k : Int) + 8 ≤ (k : Int) + 8 + (n : Int) := by omega
      have q3 : (k : Int) ≤ (k : Int) + 8 := by omega
      have q4 : (k : Int) + 8 ≤ (b.length : Int) := by omega
      have e1 : ((k : Int) + 8).toNat = k + 8 := by omega
      have e2 : ((k : Int) + 8 + (n : Int)).toNat - (k + 8) = n := by omega
      have q0 : (0 : Int) ≤ (k : Int) + 8 := by omega
      have q5 : ((b.drop k).take 8).length ≤ 8 := by rw [List.length_take]; omega
      have q8 : ((b.drop (k + 8)).take n).length = n := by rw [List.length_take, List.length_drop]; omega
      have q6 : ((((b.drop (k + 8)).take n).length : Nat) : Int) ≤ 9223372036854775807 := by omega
      have q7 : ((((b.drop (k + 8)).take n).length : Nat) : Int) ≤ 140737488355328 := by omega
      have e3 : k + 8 - k = 8 := by omega
      have e4 : min n (b.length - (k + 8)) = n := by omega
      have q9 : (n : Int) ≤ 140737488355328 := by omega
      have q10 : (n : Int) ≤ 9223372036854775807 := by omega
      simp only [List.length_take, List.length_drop] at q5 q6 q7 q8
      have e5 : ((b.drop (k + 8)).take n).take n = (b.drop (k + 8)).take n := by rw [List.take_take, Nat.min_self]
      simp [takeV, hTk, hn2, hn3, w0, w1, w2, w3, hs', q0, q1, q2, q3, q4, q5, q9, q10, e1, e2, e3, e4, hkey]
      refine ⟨⟨by kernel_rfl, by kernel_rfl⟩, ?_⟩
      rw [e5]
      rcases hc with ⟨_, hq, hT⟩ | ⟨_, hq, hT⟩
      · have hq' : ¬ sumI key ((b.drop (k + 8)).take n) = (backN ((b.drop k).take 8) : Int) := fun h => hq h.symm
        simp [hq']
        rw [hr]
        simp only [hT]
        rw [frRes_err _ _ _ (by decide)]
        refine ret_closed rfl ?_ rfl
        simp
      · simp [hq, w1, w2]
        rw [hr]
        simp only [hT]
        rw [frRes_ok]
        refine ret_at [.inr 4] rfl ?_ ?_ (by simp) ?_ ?_ ?_ ?_ <;> simp [rowOf, e4]
end Go.Proofs.Ytgnfgcpolbcaoaa
