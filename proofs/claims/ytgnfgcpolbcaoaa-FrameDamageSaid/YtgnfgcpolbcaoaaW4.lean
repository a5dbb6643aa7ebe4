/-
  wire: the reference's TakeInt; lengths.
-/
import Derived.Test.YtgnfgcpolbcaoaaW3
namespace Go.Proofs.Ytgnfgcpolbcaoaa
open Go.Lift

theorem Int.ofNat_tmod_two (m : Nat) : (m : Int).tmod 2 = ((m % 2 : Nat) : Int) := rfl

def rkSt (t : Nat) (l : List UInt8) (i : Nat × Int) : St :=
  mkSt [(0, .sl t 1 (byteRow l)), (5, .int .u64 i.2), (6, .int .i64 i.1)] [] 0

theorem reftake_spec : Lift.Spec Try.prog 32 takeSp := by
  refine spec_fam (C := C0) types_ok C0_ok follows Try.func32 (by kernel_rfl) rfl (by kernel_rfl) rfl ?_
  rintro ⟨t, l⟩ _
  refine ⟨by simp, ?_⟩
  intro r hr
  simp
  refine axwp_loop (rkSt t l) (fun i => i.1 ≤ 10 ∧ i.1 ≤ l.length ∧ (i.1 < 10 → ∃ c : Nat, i.2 = c ∧ c < 2 ^ (7 * i.1) ∧ takeAt (l.drop i.1) i.1 c = takeAt l 0 0) ∧ (i.1 = 10 → takeAt l 0 0 = (0, 0, 18))) (fun i => 10 - i.1) (0, 0) ?_ ⟨by simp, by simp, fun _ => ⟨0, by simp⟩, fun h => by simp at h⟩ ?_
  · refine weak_mk id ?_ ?_ ?_ ?_ <;> simp
  · rintro ⟨i, c⟩ ⟨h1, hl, h2, h3⟩
    simp only at h1 hl h2 h3
    by_cases hik : i < 10
    · obtain ⟨n, rfl, hn, ht⟩ := h2 hik
      clear h2
      have hik' : (i : Int) < 10 := by omega
      by_cases hil : i = l.length
      · subst hil
        simp [rkSt, hik']
        rw [hr]; refine ret_closed rfl ?_ rfl
        rw [List.drop_length, takeAt, if_pos (by omega)] at ht
        simp [takeV, takeT_eq, ← ht]
      · have hil' : ¬ (i : Int) = (l.length : Int) := by omega
        obtain ⟨x, hx⟩ : ∃ x, l[i]? = some x := ⟨_, List.getElem?_eq_getElem (by omega)⟩
        have hd : l.drop i = x :: l.drop (i + 1) := by
          have hi : i < l.length := by omega
          rw [List.drop_eq_getElem_cons hi]; rw [List.getElem?_eq_getElem hi] at hx; cases hx; rfl
        rw [hd, takeAt, if_neg (by omega)] at ht
        have w1 : IntKind.i64.wrap (7 * (i : Int)) = 7 * (i : Int) := wrap_i64_in (by omega) (by omega)
        have w2 : (min (7 * (i : Int)).toNat 64) = 7 * i := by omega
        have w0 : ¬ (7 * (i : Int) < 0) := by omega
        have w4 : IntKind.i64.wrap ((i : Int) + 1) = (i : Int) + 1 := wrap_i64_in (by omega) (by omega)
        have w5 : IntKind.u64.wrap (7 * (i : Int)) = 7 * (i : Int) := wrap_u64_in (by omega) (by omega)
        have w6 : IntKind.u64.wrap (x.toNat : Int) = (x.toNat : Int) := wrap_u64_in (by omega) (by have := x.toNat_lt; omega)
        by_cases hb : 128 ≤ x.toNat
        · have hb' : ¬ (x.toNat : Int) < 128 := by omega
          rw [if_pos hb] at ht
          have w7 : IntKind.u8.wrap ((x.toNat : Int) - 128) = ((x.toNat % 128 : Nat) : Int) := by rw [wrap_u8_in (by omega) (by have := x.toNat_lt; omega)]; have := x.toNat_lt; omega
          have w8 : IntKind.u64.wrap ((x.toNat % 128 : Nat) : Int) = ((x.toNat % 128 : Nat) : Int) := wrap_u64_in (by omega) (by omega)
          generalize hy : x.toNat % 128 = y at *
          simp [rkSt, hik', hil', hx, hb', w0, w1, w2, w4, w5, w7, w8]
          refine Again.mk (i + 1, iOr .u64 (n : Int) (IntKind.u64.wrap ((y : Int) * 2 ^ (7 * i)))) ⟨by show i + 1 ≤ 10; omega, by show i + 1 ≤ l.length; omega, fun h => ?_, fun h => ?_⟩ (by show 10 - (i + 1) < 10 - i; omega) ?_
          · have hp := pow_bits hn (show i ≤ 8 by simp only at h; omega) (show y < 128 by omega)
            exact ⟨_, or_bits hn hp.2, hp.1, ht⟩
          · simp only at h
            rw [← ht, show i + 1 = 10 from h, takeAt_ten]
          · refine weak_mk id ?_ ?_ ?_ ?_ <;> simp
        · have hb' : (x.toNat : Int) < 128 := by omega
          rw [if_neg hb] at ht
          by_cases hp : 0 < i ∧ x.toNat = 0
          · rw [if_pos (.inl hp)] at ht
            simp [rkSt, hik', hil', hx, hp.1, hp.2]
            rw [hr]; refine ret_closed rfl ?_ rfl
            simp [takeV, takeT_eq, ← ht]
          · by_cases hg : i = 9 ∧ 1 < x.toNat
            · rw [if_pos (.inr hg)] at ht
              obtain ⟨rfl, hg⟩ := hg
              have hx0 : ¬ x.toNat = 0 := by omega
              have hg2 : (1 : Int) < (x.toNat : Int) := by omega
              simp at hil'
              simp [rkSt, hil', hx, hb', hx0, hg2]
              rw [hr]; refine ret_closed rfl ?_ rfl
              simp [takeV, takeT_eq, ← ht]
            · rw [if_neg (by omega)] at ht
              have hc : n + x.toNat * 2 ^ (7 * i) < 18446744073709551616 := by
                by_cases h9 : i = 9
                · subst h9
                  have : x.toNat ≤ 1 := by omega
                  have e63 : 2 ^ (7 * 9) = 9223372036854775808 := by decide
                  rw [e63] at hn ⊢
                  have : x.toNat * 9223372036854775808 ≤ 9223372036854775808 := by omega
                  omega
                · exact (pow_bits hn (show i ≤ 8 by omega) (show x.toNat < 128 by omega)).2
              have ho := or_bits hn hc
              generalize n + x.toNat * 2 ^ (7 * i) = m at *
              have m1 : IntKind.i64.wrap ((m : Int) / 2) = (m : Int) / 2 := wrap_i64_in (by omega) (by omega)
              have m2 : IntKind.u64.wrap ((m : Int) / 2) = (m : Int) / 2 := wrap_u64_in (by omega) (by omega)
              have m3 : IntKind.i64.wrap (-((m : Int) / 2)) = -((m : Int) / 2) := wrap_i64_in (by omega) (by omega)
              have m4 : IntKind.i64.wrap (-((m : Int) / 2) - 1) = -((m : Int) / 2) - 1 := wrap_i64_in (by omega) (by omega)
              have hx0 : 0 < i → ¬ x.toNat = 0 := by omega
              by_cases h0 : 0 < i
              · have hx0 := hx0 h0
                by_cases h9 : i = 9
                · have hx1 : ¬ (1 : Int) < (x.toNat : Int) := by omega
                  simp [rkSt, hik', hil', hx, hb', h0, hx0]
                  refine thenG_split (fun g9 => ?_) (fun g9 => absurd h9 (by simp at g9; omega))
                  simp [hx, hx1, g9, w0, w1, w2, w5, w6, ho]
                  refine condV_split (fun hq => ?_) (fun hq => ?_)
                  · rw [Int.ofNat_tmod_two, Int.natCast_eq_zero] at hq
                    simp [m1, m2, w4]
                    rw [hr]; refine ret_closed rfl ?_ rfl
                    simp [decodeN, hq] at ht
                    simp [takeV, takeT_eq, ← ht]
                  · rw [Int.ofNat_tmod_two, Int.natCast_eq_zero] at hq
                    have hq : m % 2 = 1 := by omega
                    simp [m1, m2, m3, m4, w4]
                    rw [hr]; refine ret_closed rfl ?_ rfl
                    simp [decodeN, hq] at ht
                    simp [takeV, takeT_eq, ← ht]
                · have h9' : ¬ (i : Int) = 9 := by omega
                  simp [rkSt, hik', hil', hx, hb', w0, w1, w2, w5, w6, ho, h0, hx0, h9']
                  refine condV_split (fun hq => ?_) (fun hq => ?_)
                  · rw [Int.ofNat_tmod_two, Int.natCast_eq_zero] at hq
                    simp [m1, m2, w4]
                    rw [hr]; refine ret_closed rfl ?_ rfl
                    simp [decodeN, hq] at ht
                    simp [takeV, takeT_eq, ← ht]
                  · rw [Int.ofNat_tmod_two, Int.natCast_eq_zero] at hq
                    have hq : m % 2 = 1 := by omega
                    simp [m1, m2, m3, m4, w4]
                    rw [hr]; refine ret_closed rfl ?_ rfl
                    simp [decodeN, hq] at ht
                    simp [takeV, takeT_eq, ← ht]
              · have h9' : ¬ (i : Int) = 9 := by omega
                simp [rkSt, hik', hil', hx, hb', w0, w1, w2, w5, w6, ho, h0, h9']
                refine condV_split (fun hq => ?_) (fun hq => ?_)
                · rw [Int.ofNat_tmod_two, Int.natCast_eq_zero] at hq
                  simp [m1, m2, w4]
                  rw [hr]; refine ret_closed rfl ?_ rfl
                  simp [decodeN, hq] at ht
                  simp [takeV, takeT_eq, ← ht]
                · rw [Int.ofNat_tmod_two, Int.natCast_eq_zero] at hq
                  have hq : m % 2 = 1 := by omega
                  simp [m1, m2, m3, m4, w4]
                  rw [hr]; refine ret_closed rfl ?_ rfl
                  simp [decodeN, hq] at ht
                  simp [takeV, takeT_eq, ← ht]
    · have : i = 10 := by clear h2; omega
      subst this
      simp [rkSt]
      rw [hr]; refine ret_closed rfl ?_ rfl
      have := h3 rfl
      simp [takeV, takeT_eq, this]
end Go.Proofs.Ytgnfgcpolbcaoaa
