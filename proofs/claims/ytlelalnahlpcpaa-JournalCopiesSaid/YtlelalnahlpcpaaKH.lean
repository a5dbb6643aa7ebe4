/-
  journal: the law Copies.
-/
import Derived.Test.YtlelalnahlpcpaaKG
set_option linter.unusedSimpArgs false
set_option linter.unusedVariables false
namespace Go.Proofs.Ytlelalnahlpcpaa
open Go.Lift
set_option maxRecDepth 100000

theorem recordJ_log4 {J : JN} (h : J.log.length ≤ 4096) (p : List UInt8) : (recordJ J p).1.log.length ≤ 4096 := by
  have hst : ∀ t v, (stJ J t v).log.length ≤ 4096 := by intro t v; unfold stJ; split <;> exact h
  have had : ∀ t e, (adJ J t e).log.length ≤ 4096 := by
    intro t e; unfold adJ; split
    · next h0 => have := (adE_ok h0).2.2.2.1; simp; omega
    · exact h
  have hcu : ∀ n, (cuJ J n).log.length ≤ 4096 := by
    intro n; unfold cuJ; split
    · simp; omega
    · exact h
  unfold recordJ
  repeat' split
  all_goals first | exact h | exact hst _ _ | exact had _ _ | exact hcu _
theorem finR_log4 : ∀ (rs : List (List UInt8)) (J : JN), J.log.length ≤ 4096 → (finR rs J).log.length ≤ 4096
  | [], _, h => h
  | p :: rs, J, h => finR_log4 rs _ (recordJ_log4 h p)
theorem Hist.log4 {J : JN} {rs : List (List UInt8)} {s : Nat} (h : Hist J rs s) : J.log.length ≤ 4096 := by
  rw [h.eq, setD_log]; exact finR_log4 rs zeroJ (by simp)
/-- A journal that calls and crashes have made. -/
structure LiveJ (J : JN) (n : Nat) : Prop where
  hist : ∃ rs s, Hist J rs s
  bd : J.b.length ≤ 65600 * n
theorem LiveJ.log {J : JN} {n : Nat} (h : LiveJ J n) : J.log.length ≤ 4096 := by obtain ⟨⟨_, _, h1⟩, _⟩ := h; exact h1.log4
theorem LiveJ.d_le {J : JN} {n : Nat} (h : LiveJ J n) : J.d ≤ J.b.length := by obtain ⟨⟨_, _, h1⟩, _⟩ := h; exact h1.d_le
theorem LiveJ.setTerm {J : JN} {n : Nat} (h : LiveJ J n) {t v : Int} (h1 : In64 t) (h2 : In64 v) : LiveJ (setTermJ J t v) (n + 1) := by
  obtain ⟨⟨_, _, g1⟩, g3⟩ := h
  have := setTermJ_bd J t v
  exact ⟨⟨_, _, g1.setTerm h1 h2⟩, by omega⟩
theorem LiveJ.append {J : JN} {n : Nat} (h : LiveJ J n) {t : Int} {e : GEntry} (h1 : In64 t) (h2 : GEntry.ok e) : LiveJ (appendJ J t e) (n + 1) := by
  obtain ⟨⟨_, _, g1⟩, g3⟩ := h
  have := appendJ_bd J t e
  exact ⟨⟨_, _, g1.append h1 h2⟩, by omega⟩
theorem LiveJ.cut {J : JN} {n : Nat} (h : LiveJ J n) {k : Int} (h1 : In64 k) : LiveJ (cutJ J k) (n + 1) := by
  obtain ⟨⟨_, _, g1⟩, g3⟩ := h
  have := cutJ_bd J k
  exact ⟨⟨_, _, g1.cut h1⟩, by omega⟩
theorem LiveJ.sync {J : JN} {n : Nat} (h : LiveJ J n) : LiveJ (syncJ J) n := by
  obtain ⟨⟨_, _, g1⟩, g3⟩ := h
  exact ⟨⟨_, _, g1.sync⟩, g3⟩
theorem LiveJ.crash {J : JN} {n : Nat} (h : LiveJ J n) (keep : Int) : LiveJ (crashJ J keep) n := by
  have hd := h.d_le
  obtain ⟨⟨_, _, g1⟩, g3⟩ := h
  obtain ⟨k, _, _, g⟩ := g1.crash keep
  have := (crashJ_bd J keep hd).1
  exact ⟨⟨_, _, g⟩, by omega⟩
theorem grow_live (l : List Int) (sync : Int) : LiveJ (growJ l sync) 31 := by
  obtain ⟨⟨s, h1, h2⟩, h3⟩ := grow_inv l sync
  have := (grow_b l sync).1
  exact ⟨⟨_, _, h1.hist⟩, by omega⟩

def byO (b : List UInt8) : AObj := ⟨5, 1, byteRow b, false, 2, .rw⟩
def coSt (m : List GL08Act) (out : List GLogged) (J : JN) (i : Nat × JN) : St := mkSt [(1, .sl 2 3 (GL08Act.row m)), (5, .ptr 0 0 0), (6, .sl 2 10 (GLogged.row out)), (8, .own 2 0 J.b.length), (9, .ptr 1 0 0), (10, .int .i64 i.1)] [(0, jnO J), (1, jnO i.2), (2, byO J.b)] 3
set_option maxHeartbeats 4000000 in
theorem law_JournalCopies : Lift.Spec Try.prog 6 (fam (fun i : (List Int) × (List GL08Act) => [V.sl 2 1 (intRow i.1), V.sl 2 3 (GL08Act.row i.2)]) (fun _ => []) (fun i : (List Int) × (List GL08Act) => (i.1.length ≤ 9223372036854775807)) (fun _ => ⟨.bool true, []⟩)) := by
  refine spec_fam (C := CNG) types_ok CNG_ok follows Try.func6 (by kernel_rfl) rfl (by kernel_rfl) rfl ?_
  rintro ⟨l, m⟩ h1
  try simp only at h1
  refine ⟨by simp, ?_⟩
  intro r hr
  by_cases hl : (50 : Int) < (m.length : Int)
  · simp [h1, hl]
    ((repeat refine ⟨⟨by kernel_rfl, by kernel_rfl⟩, ?_⟩); rw [hr]; refine ret_closed rfl ?_ rfl; simp)
  · obtain ⟨b1, b2⟩ := grow_b l 0
    obtain ⟨t1, v1, l1⟩ := (grow_inv l 0).log (by simp; omega)
    have hV := grow_live l 0
    simp only at t1 v1 l1
    obtain ⟨J, hJ⟩ : ∃ J, J = growJ l 0 := ⟨_, rfl⟩
    rw [← hJ] at b1 b2 t1 v1 l1 hV
    have c1 : J.b.length ≤ 140737488355328 := by omega
    have c2 : J.log.length ≤ 1000000000 := by have := hV.log; omega
    have c3 : J.log.length = min 30 l.length := by rw [l1, outL_length, List.length_take]
    simp [h1, hl, ← hJ, c1, c2]
    refine axwp_loop (coSt m (outL (l.take 30)) J) (fun i => i.1 ≤ m.length ∧ LiveJ i.2 (31 + 3 * i.1)) (fun i => m.length - i.1) (0, J) ?_ ⟨Nat.zero_le _, hV⟩ ?_
    · refine weak_at [.inr 5, .inr 9, .inr 8] ?_ ?_ ?_ ?_ <;> simp [byO]
    · rintro ⟨i, K⟩ ⟨hi, hM⟩
      simp only at hi hM
      by_cases hik : i < m.length
      · obtain ⟨x, hx, hx', hxm⟩ := get_of_lt hik
        have w4 : IntKind.i64.wrap ((i : Int) + 1) = (i : Int) + 1 := wrap_i64_in (by omega) (by omega)
        have it : In64 ((i : Int) + 1) := by unfold In64; omega
        have iv : In64 (x.A % 4) := by unfold In64; omega
        have hbd := hM.bd
        have k1 : K.b.length ≤ 1000000000 := by omega
        have hM1 := hM.setTerm it iv
        obtain ⟨K1, hK1⟩ : ∃ L, L = setTermJ K ((i : Int) + 1) (x.A % 4) := ⟨_, rfl⟩
        rw [← hK1] at hM1
        have hbd1 := hM1.bd
        have k2 : K1.b.length ≤ 1000000000 := by omega
        have k3 : K1.log.length ≤ 1000000000 := by have := hM1.log; omega
        have hM2 := hM1.append it (note_ok x.B)
        obtain ⟨K2, hK2⟩ : ∃ L, L = appendJ K1 ((i : Int) + 1) (noteE x.B) := ⟨_, rfl⟩
        rw [← hK2] at hM2
        have hbd2 := hM2.bd
        have hlog2 := hM2.log
        have k4 : K2.b.length ≤ 1000000000 := by omega
        have k5 : K2.log.length ≤ 1000000000 := by omega
        have w5 : IntKind.i64.wrap ((K2.log.length : Int) + 1) = (K2.log.length : Int) + 1 := wrap_i64_in (by omega) (by omega)
        have m1 : 0 < (K2.log.length : Int) + 1 := by omega
        have m2 : (K2.log.length : Int) + 1 ≤ 4611686018427387904 := by omega
        obtain ⟨n, hn⟩ : ∃ n, n = x.A % ((K2.log.length : Int) + 1) := ⟨_, rfl⟩
        have n1 := Int.emod_nonneg x.A (show (K2.log.length : Int) + 1 ≠ 0 by omega)
        have n2 := Int.emod_lt_of_pos x.A m1
        have iN : In64 n := by unfold In64; omega
        have hM3 := hM2.cut iN
        obtain ⟨K3, hK3⟩ : ∃ L, L = cutJ K2 n := ⟨_, rfl⟩
        rw [← hK3] at hM3
        have hbd3 := hM3.bd
        have hd3 := hM3.d_le
        have k6 : K3.b.length ≤ 1000000000 := by omega
        have hM4 := hM3.crash (x.B % 100)
        simp [coSt, byO, hik, hx', GL08Act.cells, w4, it, iv, k1, ← hK1, k2, k3, note_ok, ← hK2, k4, k5, w5, m1, m2, ← hn, iN, ← hK3, hd3, k6]
        (repeat refine ⟨⟨by kernel_rfl, by kernel_rfl⟩, ?_⟩)
        refine Again.mk (i + 1, crashJ K3 (x.B % 100)) ⟨by exact hik, by exact hM4⟩ (by show m.length - (i + 1) < m.length - i; omega) ?_
        refine weak_at [.inr 5, .inr 9, .inr 8] ?_ ?_ ?_ ?_ <;> simp [w4, byO]
      · have e : i = m.length := by omega
        subst e
        simp [coSt, byO, c1, c3, t1]
        ((repeat refine ⟨⟨by kernel_rfl, by kernel_rfl⟩, ?_⟩); rw [hr]; refine ret_closed rfl ?_ rfl; simp)
end Go.Proofs.Ytlelalnahlpcpaa
