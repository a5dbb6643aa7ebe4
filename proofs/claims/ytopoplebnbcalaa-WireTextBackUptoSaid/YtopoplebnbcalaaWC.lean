/-
  wire: texts and lists are read back.
-/
import Derived.Test.YtopoplebnbcalaaWB
namespace Go.Proofs.Ytopoplebnbcalaa
open Go.Lift

theorem lenT_enc {n : Nat} (hn : n ≤ 65536) (rest : List UInt8) : lenT (enc (code (n : Int)) ++ rest) = ((n : Int), ((enc (code (n : Int))).length : Int), 0) := by
  have h := takeT_enc (n := (n : Int)) (by unfold In64; omega) rest
  rw [lenT_eq, lenT0, h]
  have h1 : ¬ (n : Int) < 0 := by omega
  have h2 : ¬ (65536 : Int) < (n : Int) := by omega
  simp [h2]

theorem tiGo_enc (more : List UInt8) : ∀ (ns : List Int) (l : List UInt8) (k : Nat) (acc : List Int), (∀ x ∈ ns, In64 x) → l.drop k = intsB ns ++ more → tiGo ns.length l k acc = (acc ++ ns, ((k + (intsB ns).length : Nat) : Int), 0)
  | [], l, k, acc, _, _ => by rw [List.length_nil, tiGo]; simp [intsB]
  | x :: ns, l, k, acc, h, hl => by
    have e : intsB (x :: ns) = enc (code x) ++ intsB ns := rfl
    rw [e, List.append_assoc] at hl
    have ht := takeT_enc (h x (List.mem_cons_self ..)) (intsB ns ++ more)
    rw [List.length_cons, tiGo, hl, ht, if_pos rfl]
    simp only [Int.toNat_natCast]
    have hd : l.drop (k + (enc (code x)).length) = intsB ns ++ more := by
      rw [← List.drop_drop, hl, List.drop_left]
    rw [tiGo_enc more ns l _ _ (fun y hy => h y (List.mem_cons_of_mem _ hy)) hd, e, List.length_append]
    simp only [List.append_assoc, List.cons_append, List.nil_append, Prod.mk.injEq, true_and, and_true]
    omega

theorem tiT_back {ns : List Int} (hn : ns.length ≤ 65536) (h : ∀ x ∈ ns, In64 x) (more : List UInt8) : tiT (intsL [] ns ++ more) = (ns, ((intsL [] ns).length : Int), 0) := by
  have hl : intsL [] ns ++ more = enc (code (ns.length : Int)) ++ (intsB ns ++ more) := by simp [intsL]
  have h1 := lenT_enc hn (intsB ns ++ more)
  rw [← hl] at h1
  have hd : (intsL [] ns ++ more).drop (enc (code (ns.length : Int))).length = intsB ns ++ more := by rw [hl, List.drop_left]
  unfold tiT
  rw [h1, if_pos rfl]
  simp only [Int.toNat_natCast]
  rw [tiGo_enc more ns _ _ [] h hd]
  simp [intsL]

theorem ttV_back {s : ByteArray} (hs : s.size ≤ 65536) (more : List UInt8) : ttV (textB [] s ++ more) = .tup [.str s, .int .i64 (textB [] s).length, .int .i64 0] := by
  have hl : textB [] s ++ more = enc (code (s.size : Int)) ++ (s.data.toList ++ more) := by simp [textB]
  have h1 := lenT_enc hs (s.data.toList ++ more)
  rw [← hl] at h1
  have hd : (textB [] s ++ more).drop (enc (code (s.size : Int))).length = s.data.toList ++ more := by rw [hl, List.drop_left]
  have hlen : (textB [] s ++ more).length = (enc (code (s.size : Int))).length + (s.size + more.length) := by rw [hl]; simp
  have hs2 : ¬ (((textB [] s ++ more).length : Nat) : Int) - ((enc (code (s.size : Int))).length : Int) < (s.size : Int) := by rw [hlen]; omega
  have ht : (s.data.toList ++ more).take s.size = s.data.toList := by
    apply List.take_left'
    simp
  unfold ttV
  rw [h1, if_pos rfl, if_neg hs2]
  simp only [Int.toNat_natCast]
  rw [hd, ht]
  simp [textB]

theorem textSp_nil {t : Nat} {s : ByteArray} (h : s.size ≤ 65536) : textSp [V.sl t 1 [], .str s] [] = some ⟨.own 0 0 (textB [] s).length, [rowOf (textB [] s)]⟩ :=
  textSp_eq (t := t) (l := []) (by simp; omega)

theorem law_WireTextBack : Lift.Spec Try.prog 8 (fam (fun i : ByteArray × List Int × List UInt8 => [V.str i.1, .sl 2 1 (intRow i.2.1), .sl 2 1 (byteRow i.2.2)]) (fun _ => []) (fun i => (∀ x ∈ i.2.1, In64 x) ∧ i.2.2.length ≤ 1048575) (fun _ => ⟨.bool true, []⟩)) := by
  refine spec_fam (C := CZ) types_ok CZ_ok follows Try.func8 (by kernel_rfl) rfl (by kernel_rfl) rfl ?_
  rintro ⟨s, ns, more⟩ ⟨h1, h2⟩
  simp only at h1 h2
  refine ⟨by simp, ?_⟩
  intro r hr
  by_cases hs : s.size ≤ 65536
  · have hs' : ¬ (65536 : Int) < (s.size : Int) := by omega
    have hs'' : ¬ 65536 < s.size := by omega
    by_cases hn : ns.length ≤ 65536
    · have hn' : ¬ (65536 : Int) < (ns.length : Int) := by omega
      have hn'' : ¬ 65536 < ns.length := by omega
      have n1 := textSp_nil (t := 0) hs
      have n2 := intsSp_nil (t := 0) (u := 2) (ns := ns) (by omega) h1
      have b1 := ttV_back hs more
      have b2 := tiT_back hn h1 more
      have hlen1 : (textB [] s).length ≤ 70000 := by
        have := enc_ten _ (code_lt (show In64 (s.size : Int) by unfold In64; omega))
        simp [textB]; omega
      have hlen2 : (intsL [] ns).length ≤ 700000 := by
        have := intsL_len (l := []) h1 (by unfold In64; omega) ns.length
        rw [List.take_length] at this
        have e : intsL [] ns = [] ++ enc (code (ns.length : Int)) ++ intsB ns := rfl
        rw [e]
        simp only [List.length_nil] at this
        omega
      generalize textB [] s = A at *
      generalize intsL [] ns = B at *
      have n3 := ttSp_eq (t := 2) (l := A ++ more) (by rw [List.length_append]; omega)
      have n4 := tiSp_eq (t := 2) (l := B ++ more) (by rw [List.length_append]; omega)
      rw [b1] at n3
      rw [b2] at n4
      simp only [tiRes, if_pos] at n4
      have n5 := sameISp_eq (t := 2) (u := 2) (l := ns) (m := ns) (by omega)
      have t1 : (A ++ more).take (A.length + more.length) = A ++ more := List.take_of_length_le (by simp)
      have t2 : (B ++ more).take (B.length + more.length) = B ++ more := List.take_of_length_le (by simp)
      have q1 : (A.length : Int) ≤ 140737488355328 := by omega
      have q2 : (A.length : Int) + (more.length : Int) ≤ 140737488355328 := by omega
      have q3 : (B.length : Int) ≤ 140737488355328 := by omega
      have q4 : (B.length : Int) + (more.length : Int) ≤ 140737488355328 := by omega
      simp [hs', hn', n1, n2, n3, n4, n5, rowOf, listOf, t1, t2, q1, q2, q3, q4]
      rw [hr]; refine ret_closed rfl ?_ rfl
      simp
    · have hn' : (65536 : Int) < (ns.length : Int) := by omega
      have hn'' : 65536 < ns.length := by omega
      simp [hs', hn']
      rw [hr]; refine ret_closed rfl ?_ rfl
      simp
  · have hs' : (65536 : Int) < (s.size : Int) := by omega
    have hs'' : 65536 < s.size := by omega
    simp [hs']
    rw [hr]; refine ret_closed rfl ?_ rfl
    simp
end Go.Proofs.Ytopoplebnbcalaa
