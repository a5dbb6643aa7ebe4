/-
  digest: the laws with a copy.
-/
import Derived.Test.YtopoplebnbcalabD3
namespace Go.Proofs.Ytopoplebnbcalab
open Go.Lift

theorem wrapIx {a n : Int} (hn : 0 < n) (hm : n ≤ 140737488355328) : ∃ k : Nat, (IntKind.i64.wrap (a.tmod n + n)).tmod n = (k : Int) ∧ (k : Int) < n := by
  have h1 := Int.tmod_lt_of_pos a hn
  have h2 := Int.lt_tmod_of_pos a hn
  rw [wrap_i64_in (by omega) (by omega)]
  have h3 : 0 ≤ (a.tmod n + n).tmod n := Int.tmod_nonneg _ (by omega)
  have h4 := Int.tmod_lt_of_pos (a.tmod n + n) hn
  exact ⟨((a.tmod n + n).tmod n).toNat, by omega, by omega⟩
theorem byteRow_set (l : List UInt8) (k : Nat) (x : UInt8) : (byteRow l).set k [V.int .u8 x.toNat] = byteRow (l.set k x) := by
  simp [byteRow, List.map_set]

theorem sum_set {k : Int} {l : List UInt8} {i : Nat} {x y : UInt8} (hy : l[i]? = some y) : sumI k l = sumI k (l.set i x) ↔ y = x := by
  have hi : i < l.length := (List.getElem?_eq_some_iff.1 hy).1
  have e1 : l = l.take i ++ y :: l.drop (i + 1) := by
    have : l[i] = y := (List.getElem?_eq_some_iff.1 hy).2
    rw [← this, ← List.drop_eq_getElem_cons hi, List.take_append_drop]
  have e2 : l.set i x = l.take i ++ x :: l.drop (i + 1) := by rw [List.set_eq_take_append_cons_drop, if_pos hi]
  have key : ∀ (h : Int) (a b : List UInt8) (c : UInt8), foldI h (a ++ c :: b) = foldI (mixI (foldI h a) (c.toNat : Int)) b := by
    intro h a b c
    rw [foldI_eq, foldI_eq, foldI_eq, List.foldl_append]; rfl
  rw [sumI_eq, sumI_eq, allI, allI, List.length_set, mixI_inj' (foldI_in (mixI_in _ _) _) (foldI_in (mixI_in _ _) _), e2]
  generalize mixI 14695981039346656037 k = h
  have : foldI h l = foldI (mixI (foldI h (l.take i)) (y.toNat : Int)) (l.drop (i + 1)) := by rw [← key, ← e1]
  rw [this, key, foldI_inj _ (mixI_in _ _) (mixI_in _ _), mixI_inj (in64_byte _) (in64_byte _), Int.natCast_inj, ← UInt8.toNat_inj]

theorem law_DigestByte : Lift.Spec Try.prog 5 (fam (fun i : Int × List UInt8 × Int × UInt8 => [V.int .i64 i.1, .sl 2 1 (byteRow i.2.1), .int .i64 i.2.2.1, .int .u8 i.2.2.2.toNat]) (fun _ => []) (fun i => In64 i.1 ∧ i.2.1.length ≤ 140737488355328) (fun _ => ⟨.bool true, []⟩)) := by
  refine spec_fam (C := CE) types_ok CE_ok follows Try.func5 (by kernel_rfl) rfl (by kernel_rfl) rfl ?_
  rintro ⟨k, l, a, x⟩ ⟨h1, h3⟩
  simp only at h1 h3
  have h4 : (l.length : Int) ≤ 140737488355328 := by omega
  have h5 : (l.length : Int) ≤ 9223372036854775807 := by omega
  refine ⟨by simp, ?_⟩
  intro r hr
  by_cases h0 : l.length = 0
  · simp [h0]
    rw [hr]; refine ret_closed rfl ?_ rfl
    simp
  · obtain ⟨i, hi, hil⟩ := wrapIx (a := a) (n := l.length) (by omega) h4
    have hil' : i < l.length := by omega
    obtain ⟨y, hy, hy'⟩ : ∃ y, l[i]? = some y ∧ l[i] = y := ⟨_, List.getElem?_eq_getElem hil', rfl⟩
    have hs := sum_set (k := k) (x := x) hy
    simp [h0, h1, h4, h5, hi, hil', hy, hy', byteRow_set]
    refine ⟨⟨by kernel_rfl, by kernel_rfl⟩, ?_⟩
    rw [hr]; refine ret_closed rfl ?_ rfl
    have ht : (l.set i x).take l.length = l.set i x := List.take_of_length_le (by simp)
    simp [ht, hs]
    rw [Int.natCast_inj, UInt8.toNat_inj]

theorem law_DigestNothing : Lift.Spec Try.prog 8 (fam (fun i : Int × Int × List UInt8 => [V.int .i64 i.1, .int .u64 i.2.1, .sl 2 1 (byteRow i.2.2)]) (fun _ => []) (fun i => In64 i.1 ∧ InU64 i.2.1) (fun _ => ⟨.bool true, []⟩)) := by
  refine spec_fam (C := CE) types_ok CE_ok follows Try.func8 (by kernel_rfl) rfl (by kernel_rfl) rfl ?_
  rintro ⟨k, p, l⟩ ⟨h1, h2⟩
  simp only at h1 h2
  refine ⟨by simp, ?_⟩
  intro r hr
  by_cases h0 : l.length ≤ 300
  · have h0' : (l.length : Int) ≤ 300 := by omega
    have h4 : (l.length : Int) ≤ 140737488355328 := by omega
    have h5 : (l.length : Int) ≤ 9223372036854775807 := by omega
    simp [h0, h0', h1, h2, h4, h5]
    rw [hr]; refine ret_closed rfl ?_ rfl
    simp
  · have h0' : ¬ (l.length : Int) ≤ 300 := by omega
    simp [h0, h0']
    rw [hr]; refine ret_closed rfl ?_ rfl
    simp
end Go.Proofs.Ytopoplebnbcalab
