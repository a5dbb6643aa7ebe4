/-
  digest: the laws with a copy.
-/
import Derived.Test.YtgnfgcpolbcaoaaD3
namespace Go.Proofs.Ytgnfgcpolbcaoaa
open Go.Lift

theorem wrapIx {a n : Int} (hn : 0 < n) (hm : n ≤ 140737488355328) : ∃ k : Nat, (IntKind.i64.wrap (a.tmod n + n)).tmod n = (k : Int) ∧ (k : Int) < n := by
  have h1 := Int.tmod_lt_of_pos a hn
  have h2 := Int.lt_tmod_of_pos a hn
  rw [wrap_i64_in (by omega) (by omega)]
  have h3 : 0 ≤ (a.tmod n + n).tmod n := Int.tmod_nonneg _ (by omega)
  have h4 := Int.tmod_lt_of_pos (a.tmod n + n) hn
  exact ⟨((a.tmod n + n).tmod n).toNat, by omega, by omega⟩
theorem byteRow_set (l : List UInt8) (k : Nat) (x : UInt8) : (byteRow l).set k [V.int .u8 x.toNat] = byteRow (l.set k x) := by
  simp [byteRow, List.map_set]

theorem sum_set {k : Int} {l : List UInt8} {i : Nat} {x y : UInt8} (hy : l[i]? = some y) : sumI k l = sumI k (l.set i x) ↔ y = x := by
  have hi : i < l.length := (List.getElem?_eq_some_iff.1 hy).1
  have e1 : l = l.take i ++ y :: l.drop (i + 1) := by
    have : l[i] = y := (List.getElem?_eq_some_iff.1 hy).2
    rw [← this, ← List.drop_eq_getElem_cons hi, List.take_append_drop]
  have e2 : l.set i x = l.take i ++ x :: l.drop (i + 1) := by rw [List.set_eq_take_append_cons_drop, if_pos hi]
  have key : ∀ (h : Int) (a b : List UInt8) (c : UInt8), foldI h (a ++ c :: b) = foldI (mixI (foldI h a) (c.toNat : Int)) b := by
    intro h a b c
    rw [foldI_eq, foldI_eq, foldI_eq, List.foldl_append]; rfl
  rw [sumI_eq, sumI_eq, allI, allI, List.length_set, mixI_inj' (foldI_in (mixI_in _ _) _) (foldI_in (mixI_in _ _) _), e2]
  generalize mixI 14695981039346656037 k = h
  have : foldI h l = foldI (mixI (foldI h (l.take i)) (y.toNat : Int)) (l.drop (i + 1)) := by rw [← key, ← e1]
  rw [this, key, foldI_inj _ (mixI_in _ _) (mixI_in _ _), mixI_inj (in64_byte _) (in64_byte _), Int.natCast_inj, ← UInt8.toNat_inj]

end Go.Proofs.Ytgnfgcpolbcaoaa
