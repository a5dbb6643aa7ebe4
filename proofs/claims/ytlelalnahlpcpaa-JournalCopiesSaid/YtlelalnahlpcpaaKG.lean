/-
  journal: the law Order.
-/
import Derived.Test.YtlelalnahlpcpaaKF
set_option linter.unusedSimpArgs false
set_option linter.unusedVariables false
namespace Go.Proofs.Ytlelalnahlpcpaa
open Go.Lift
set_option maxRecDepth 100000

def orSt (l : List GL08Act) (i : Nat × JN) : St := mkSt [(0, .sl 2 3 (GL08Act.row l)), (3, .ptr 0 0 0), (4, .int .i64 i.1)] [(0, jnO i.2)] 1
def orSt2 (l : List GL08Act) (i : Nat) (K : JN) (k : Nat) : St := mkSt [(0, .sl 2 3 (GL08Act.row l)), (3, .ptr 0 0 0), (4, .int .i64 i), (7, .int .i64 k)] [(0, jnO K)] 1
set_option maxHeartbeats 4000000 in
theorem law_JournalOrder : Lift.Spec Try.prog 7 (fam (fun i : List GL08Act => [V.sl 2 3 (GL08Act.row i)]) (fun _ => []) (fun _ : List GL08Act => True) (fun _ => ⟨.bool true, []⟩)) := by
  refine spec_fam (C := CNG) types_ok CNG_ok follows Try.func7 (by kernel_rfl) rfl (by kernel_rfl) rfl ?_
  rintro l _
  refine ⟨by simp, ?_⟩
  intro r hr
  by_cases hl : (50 : Int) < (l.length : Int)
  · simp [hl]
    ((repeat refine ⟨⟨by kernel_rfl, by kernel_rfl⟩, ?_⟩); rw [hr]; refine ret_closed rfl ?_ rfl; simp)
  · simp [hl]
    refine axwp_loop (orSt l) (fun i => i.1 ≤ l.length ∧ MadeJ i.2 (2 * i.1) ∧ OrdJ i.2 ∧ i.2.log.length ≤ i.1) (fun i => l.length - i.1) (0, zeroJ) ?_ ⟨Nat.zero_le _, MadeJ.zero, OrdJ.zero, by simp⟩ ?_
    · refine weak_at [.inr 3] ?_ ?_ ?_ ?_ <;> simp
    · rintro ⟨i, J⟩ ⟨hi, hM, hO, hL⟩
      simp only at hi hM hO hL
      by_cases hik : i < l.length
      · obtain ⟨x, hx, hx', hxm⟩ := get_of_lt hik
        have w4 : IntKind.i64.wrap ((i : Int) + 1) = (i : Int) + 1 := wrap_i64_in (by omega) (by omega)
        have hN := hM.num
        have hbd := hM.bd
        have n0 := hN.t0
        have n1 := hN.t1
        have w1 : IntKind.i64.wrap (J.term + 2) = J.term + 2 := wrap_i64_in (by omega) (by omega)
        have p1 : J.term ≤ J.term + 2 := by omega
        have p2 : -1099511627776 ≤ J.term := by omega
        have p3 : J.term + 2 ≤ 1099511627776 := by omega
        have hm3 : J.term + 2 - J.term + 1 = 3 := by omega
        obtain ⟨t, ht⟩ : ∃ t, t = J.term + x.A % 3 := ⟨_, rfl⟩
        have it : In64 t := by unfold In64; omega
        have iv : In64 (-1) := in64_1
        have c1 : J.b.length ≤ 1000000000 := by omega
        have hM1 := hM.setTerm it iv
        have hO1 := hO.setTerm t (-1)
        have hl1 := setTermJ_log J t (-1)
        obtain ⟨K, hK⟩ : ∃ K, K = setTermJ J t (-1) := ⟨_, rfl⟩
        rw [← hK] at hM1 hO1 hl1
        have hN1 := hM1.num
        have m0 := hN1.t0
        have m1 := hN1.t1
        have hbd1 := hM1.bd
        have w2 : IntKind.i64.wrap (K.term - 2) = K.term - 2 := wrap_i64_in (by omega) (by omega)
        have w3 : IntKind.i64.wrap (K.term + 1) = K.term + 1 := wrap_i64_in (by omega) (by omega)
        have p4 : K.term - 2 ≤ K.term + 1 := by omega
        have p5 : -1099511627776 ≤ K.term - 2 := by omega
        have p6 : K.term + 1 ≤ 1099511627776 := by omega
        have hm4 : K.term + 1 - (K.term - 2) + 1 = 4 := by omega
        obtain ⟨u, hu⟩ : ∃ u, u = K.term - 2 + x.B % 4 := ⟨_, rfl⟩
        have iu : In64 u := by unfold In64; omega
        have c2 : K.b.length ≤ 1000000000 := by omega
        have c3 : K.log.length ≤ 1000000000 := by rw [hl1]; omega
        have hM2 := hM1.append iu (note_ok i)
        have hO2 := hO1.append u (noteE i)
        have hl2 := appendJ_log K u (noteE i)
        obtain ⟨L, hLL⟩ : ∃ L, L = appendJ K u (noteE i) := ⟨_, rfl⟩
        rw [← hLL] at hM2 hO2 hl2
        have hN2 := hM2.num
        have w5 : IntKind.i64.wrap ((K.log.length : Int) + 1) = (K.log.length : Int) + 1 := wrap_i64_in (by omega) (by omega)
        have hlen : adE K u (noteE i) = 0 ∧ L.log.length = K.log.length + 1 ∨ ¬ adE K u (noteE i) = 0 ∧ L.log.length = K.log.length := by
          by_cases h0 : adE K u (noteE i) = 0
          · left; refine ⟨h0, ?_⟩; rw [hl2, if_pos h0]; simp
          · right; refine ⟨h0, ?_⟩; rw [hl2, if_neg h0]
        have hLi : L.log.length ≤ i + 1 := by
          have : K.log.length ≤ i := by rw [hl1]; exact hL
          omega
        rcases hlen with ⟨h0, hlen⟩ | ⟨h0, hlen⟩
        · have q1 : (L.log.length : Int) = (K.log.length : Int) + 1 := by omega
          simp [orSt, hik, hx', GL08Act.cells, w1, w2, w3, w4, w5, p1, p2, p3, p4, p5, p6, hm3, hm4, ← ht, ← hu, it, iv, iu, c1, c2, c3, ← hK, ← hLL, note_ok, h0, eq_true q1]
          (repeat refine ⟨⟨by kernel_rfl, by kernel_rfl⟩, ?_⟩)
          (repeat refine ⟨⟨by kernel_rfl, by kernel_rfl⟩, ?_⟩)
          refine axwp_loop (orSt2 l i L) (fun k => k ≤ L.log.length) (fun k => L.log.length - k) 0 ?_ (Nat.zero_le _) ?_
          · refine weak_at [.inr 3] ?_ ?_ ?_ ?_ <;> simp
          · intro k hk
            by_cases hkl : k < L.log.length
            · obtain ⟨y, hy, hy', hym⟩ := get_of_lt hkl
              have a1 : logAt L.log (k : Int) = y := logAt_get hy
              obtain ⟨s1, s2, s3⟩ := hO2.low y hym
              have d1 : ¬ y.Term < 1 := by omega
              have d2 : ¬ L.term < y.Term := by omega
              have w6 : IntKind.i64.wrap ((k : Int) + 1) = (k : Int) + 1 := wrap_i64_in (by omega) (by omega)
              have w7 : IntKind.i64.wrap ((k : Int) - 1) = (k : Int) - 1 := wrap_i64_in (by omega) (by omega)
              by_cases hk0 : 0 < k
              · have d3 : ¬ y.Term < (logAt L.log ((k : Int) - 1)).Term := by
                  have := hO2.asc (k - 1) (by omega)
                  rw [show ((k - 1 : Nat) : Int) = (k : Int) - 1 by omega, show (k : Int) - 1 + 1 = (k : Int) by omega, a1] at this
                  omega
                simp [orSt2, hkl, a1, d1, d2, d3, w6, w7, hk0, s3, GLogged.cells, vEntry_fold, GEntry.cells]
                (repeat refine ⟨⟨by kernel_rfl, by kernel_rfl⟩, ?_⟩)
                refine Again.mk (k + 1) (by exact hkl) (by show L.log.length - (k + 1) < L.log.length - k; omega) ?_
                refine weak_at [.inr 3] ?_ ?_ ?_ ?_ <;> simp [w6]
              · simp [orSt2, hkl, a1, d1, d2, w6, w7, hk0, s3, GLogged.cells, vEntry_fold, GEntry.cells]
                (repeat refine ⟨⟨by kernel_rfl, by kernel_rfl⟩, ?_⟩)
                refine Again.mk (k + 1) (by exact hkl) (by show L.log.length - (k + 1) < L.log.length - k; omega) ?_
                refine weak_at [.inr 3] ?_ ?_ ?_ ?_ <;> simp [w6]
            · have e : k = L.log.length := by omega
              subst e
              simp [orSt2]
              refine Again.mk (i + 1, L) ⟨by exact hik, by exact hM2, hO2, hLi⟩ (by show l.length - (i + 1) < l.length - i; omega) ?_
              refine weak_at [.inr 3] ?_ ?_ ?_ ?_ <;> simp [w4]
        · have q1 : ¬ (L.log.length : Int) = (K.log.length : Int) + 1 := by omega
          simp [orSt, hik, hx', GL08Act.cells, w1, w2, w3, w4, w5, p1, p2, p3, p4, p5, p6, hm3, hm4, ← ht, ← hu, it, iv, iu, c1, c2, c3, ← hK, ← hLL, note_ok, h0, eq_false q1]
          (repeat refine ⟨⟨by kernel_rfl, by kernel_rfl⟩, ?_⟩)
          (repeat refine ⟨⟨by kernel_rfl, by kernel_rfl⟩, ?_⟩)
          refine axwp_loop (orSt2 l i L) (fun k => k ≤ L.log.length) (fun k => L.log.length - k) 0 ?_ (Nat.zero_le _) ?_
          · refine weak_at [.inr 3] ?_ ?_ ?_ ?_ <;> simp
          · intro k hk
            by_cases hkl : k < L.log.length
            · obtain ⟨y, hy, hy', hym⟩ := get_of_lt hkl
              have a1 : logAt L.log (k : Int) = y := logAt_get hy
              obtain ⟨s1, s2, s3⟩ := hO2.low y hym
              have d1 : ¬ y.Term < 1 := by omega
              have d2 : ¬ L.term < y.Term := by omega
              have w6 : IntKind.i64.wrap ((k : Int) + 1) = (k : Int) + 1 := wrap_i64_in (by omega) (by omega)
              have w7 : IntKind.i64.wrap ((k : Int) - 1) = (k : Int) - 1 := wrap_i64_in (by omega) (by omega)
              by_cases hk0 : 0 < k
              · have d3 : ¬ y.Term < (logAt L.log ((k : Int) - 1)).Term := by
                  have := hO2.asc (k - 1) (by omega)
                  rw [show ((k - 1 : Nat) : Int) = (k : Int) - 1 by omega, show (k : Int) - 1 + 1 = (k : Int) by omega, a1] at this
                  omega
                simp [orSt2, hkl, a1, d1, d2, d3, w6, w7, hk0, s3, GLogged.cells, vEntry_fold, GEntry.cells]
                (repeat refine ⟨⟨by kernel_rfl, by kernel_rfl⟩, ?_⟩)
                refine Again.mk (k + 1) (by exact hkl) (by show L.log.length - (k + 1) < L.log.length - k; omega) ?_
                refine weak_at [.inr 3] ?_ ?_ ?_ ?_ <;> simp [w6]
              · simp [orSt2, hkl, a1, d1, d2, w6, w7, hk0, s3, GLogged.cells, vEntry_fold, GEntry.cells]
                (repeat refine ⟨⟨by kernel_rfl, by kernel_rfl⟩, ?_⟩)
                refine Again.mk (k + 1) (by exact hkl) (by show L.log.length - (k + 1) < L.log.length - k; omega) ?_
                refine weak_at [.inr 3] ?_ ?_ ?_ ?_ <;> simp [w6]
            · have e : k = L.log.length := by omega
              subst e
              simp [orSt2]
              refine Again.mk (i + 1, L) ⟨by exact hik, by exact hM2, hO2, hLi⟩ (by show l.length - (i + 1) < l.length - i; omega) ?_
              refine weak_at [.inr 3] ?_ ?_ ?_ ?_ <;> simp [w4]
      · have e : i = l.length := by omega
        subst e
        simp [orSt]
        ((repeat refine ⟨⟨by kernel_rfl, by kernel_rfl⟩, ?_⟩); rw [hr]; refine ret_closed rfl ?_ rfl; simp)
end Go.Proofs.Ytlelalnahlpcpaa
