/-
  disk: the laws.
-/
import Derived.Test.YtpahppndnpeiaaaK3
set_option linter.unusedSimpArgs false
set_option linter.unusedVariables false
namespace Go.Proofs.Ytpahppndnpeiaaa
open Go.Lift
set_option maxRecDepth 100000

theorem stepD_len (a : GL07Act) (p : List UInt8 × Nat) (h : p.2 ≤ p.1.length) : (stepD a p).1.length ≤ p.1.length + a.B.length ∧ (stepD a p).2 ≤ (stepD a p).1.length := by
  have hc : crashN p.1.length p.2 (nOf a p.1.length) ≤ p.1.length := by unfold crashN; omega
  unfold stepD
  split
  · simp; omega
  · split
    · simp
    · split
      · split
        · simp; omega
        · simp; omega
      · simp; omega
theorem fewB_iff {l : List GL07Act} : fewB l = true ↔ l.length ≤ 60 ∧ ∀ a ∈ l, a.B.length ≤ 60 := by simp [fewB]
noncomputable def CK4 := mkC [(8, dnewSp), (18, dkappendSp), (19, dksyncSp), (16, dkbytesSp), (17, dkdurSp), (13, dkcopySp), (20, dkcrashSp), (22, dktruncSp), (9, rnewSp), (14, rcopySp), (15, sameSp), (21, betweenSp), (10, awake7Sp), (11, few7Sp), (12, bothSp)]
theorem CK4_ok : SpecsOk Try.prog CK4 := mkC_ok (all_cons dnew_spec (all_cons dkappend_spec (all_cons dksync_spec (all_cons dkbytes_spec (all_cons dkdur_spec (all_cons dkcopy_spec (all_cons dkcrash_spec (all_cons dktrunc_spec (all_cons rnew_spec (all_cons rcopy_spec (all_cons same_spec (all_cons between_spec (all_cons awake7_spec (all_cons few7_spec (all_cons both7_spec all_nil)))))))))))))))
@[simp] theorem CK4_1 : CK4 8 = dnewSp := rfl
@[simp] theorem CK4_2 : CK4 18 = dkappendSp := rfl
@[simp] theorem CK4_3 : CK4 19 = dksyncSp := rfl
@[simp] theorem CK4_4 : CK4 16 = dkbytesSp := rfl
@[simp] theorem CK4_5 : CK4 17 = dkdurSp := rfl
@[simp] theorem CK4_6 : CK4 13 = dkcopySp := rfl
@[simp] theorem CK4_7 : CK4 20 = dkcrashSp := rfl
@[simp] theorem CK4_8 : CK4 22 = dktruncSp := rfl
@[simp] theorem CK4_9 : CK4 9 = rnewSp := rfl
@[simp] theorem CK4_10 : CK4 14 = rcopySp := rfl
@[simp] theorem CK4_11 : CK4 15 = sameSp := rfl
@[simp] theorem CK4_12 : CK4 21 = betweenSp := rfl
@[simp] theorem CK4_13 : CK4 10 = awake7Sp := rfl
@[simp] theorem CK4_14 : CK4 11 = few7Sp := rfl
@[simp] theorem CK4_15 : CK4 12 = bothSp := rfl

def plSt (l : List GL07Act) (i : Nat × List UInt8 × Nat) : St := mkSt [(0, .sl 2 3 (GL07Act.row l)), (3, .ptr 0 0 0), (4, .ptr 1 0 0), (5, .int .i64 i.1)] [(0, diskO i.2.1 i.2.2), (1, refO i.2.1 i.2.2)] 2
theorem law_DiskPlays : Lift.Spec Try.prog 3 (fam (fun i : List GL07Act => [V.sl 2 3 (GL07Act.row i)]) (fun _ => []) (fun _ : List GL07Act => True) (fun _ => ⟨.bool true, []⟩)) := by
  refine spec_fam (C := CK4) types_ok CK4_ok follows Try.func3 (by kernel_rfl) rfl (by kernel_rfl) rfl ?_
  rintro l _
  refine ⟨by simp, ?_⟩
  intro r hr
  cases hf : fewB l with
  | false =>
    simp [hf]
    ((repeat refine ⟨⟨by kernel_rfl, by kernel_rfl⟩, ?_⟩); rw [hr]; refine ret_closed rfl ?_ rfl; simp)
  | true =>
    obtain ⟨hl, hb⟩ := fewB_iff.1 hf
    simp [hf]
    refine axwp_loop (plSt l) (fun i => i.1 ≤ l.length ∧ i.2.1.length ≤ 60 * i.1 ∧ i.2.2 ≤ i.2.1.length) (fun i => l.length - i.1) (0, [], 0) ?_ ⟨Nat.zero_le _, by simp, by simp⟩ ?_
    · refine weak_at [.inr 3, .inr 4] ?_ ?_ ?_ ?_ <;> simp
    · rintro ⟨i, p⟩ ⟨hi, h1, h2⟩
      simp only at hi h1 h2
      by_cases hik : i < l.length
      · obtain ⟨x, hx, hx', hxm⟩ := get_of_lt hik
        have w4 : IntKind.i64.wrap ((i : Int) + 1) = (i : Int) + 1 := wrap_i64_in (by omega) (by omega)
        have hxb := hb x hxm
        have k1 : p.1.length + x.B.length ≤ 1000000000 := by omega
        obtain ⟨s1, s2⟩ := stepD_len x p h2
        simp [plSt, hik, hx', vL07Act_fold, GL07Act.cells, k1, h2]
        refine Again.mk (i + 1, stepD x p) ⟨hik, by simp only; omega, s2⟩ (by simp only; omega) ?_
        refine weak_at [.inr 3, .inr 4] ?_ ?_ ?_ ?_ <;> simp [w4]
      · have e : i = l.length := by omega
        subst e
        simp [plSt]
        ((repeat refine ⟨⟨by kernel_rfl, by kernel_rfl⟩, ?_⟩); rw [hr]; refine ret_closed rfl ?_ rfl; simp)

def cpSt1 (l m : List GL07Act) (i : Nat × List UInt8 × Nat) : St := mkSt [(0, .sl 2 3 (GL07Act.row l)), (1, .sl 2 3 (GL07Act.row m)), (5, .ptr 0 0 0), (6, .ptr 1 0 0), (7, .int .i64 i.1)] [(0, diskO i.2.1 i.2.2), (1, refO i.2.1 i.2.2)] 2
def cpSt2 (m : List GL07Act) (q : List UInt8 × Nat) (i : Nat × List UInt8 × Nat) : St := mkSt [(1, .sl 2 3 (GL07Act.row m)), (5, .ptr 0 0 0), (6, .ptr 1 0 0), (8, .ptr 2 0 0), (9, .ptr 3 0 0), (10, .int .i64 i.1)] [(0, diskO i.2.1 i.2.2), (1, refO i.2.1 i.2.2), (2, diskO q.1 q.2), (3, refO q.1 q.2)] 4
def cpSt3 (m : List GL07Act) (q : List UInt8 × Nat) (i : Nat × List UInt8 × Nat) : St := mkSt [(1, .sl 2 3 (GL07Act.row m)), (5, .ptr 0 0 0), (6, .ptr 1 0 0), (8, .ptr 2 0 0), (9, .ptr 3 0 0), (11, .own 4 0 q.1.length), (12, .int .i64 i.1)]
  [(0, diskO q.1 q.2), (1, refO q.1 q.2), (2, diskO i.2.1 i.2.2), (3, refO i.2.1 i.2.2), (4, ⟨5, 1, byteRow q.1, false, 2, .rw⟩)] 5
set_option maxHeartbeats 4000000 in
theorem law_DiskCopies : Lift.Spec Try.prog 4 (fam (fun i : (List GL07Act) × (List GL07Act) => [V.sl 2 3 (GL07Act.row i.1), V.sl 2 3 (GL07Act.row i.2)]) (fun _ => []) (fun _ : (List GL07Act) × (List GL07Act) => True) (fun _ => ⟨.bool true, []⟩)) := by
  refine spec_fam (C := CK4) types_ok CK4_ok follows Try.func4 (by kernel_rfl) rfl (by kernel_rfl) rfl ?_
  rintro ⟨l, m⟩ _
  refine ⟨by simp, ?_⟩
  intro r hr
  cases hf : fewB l with
  | false =>
    simp [hf]
    ((repeat refine ⟨⟨by kernel_rfl, by kernel_rfl⟩, ?_⟩); rw [hr]; refine ret_closed rfl ?_ rfl; simp)
  | true =>
  cases hf2 : fewB m with
  | false =>
    simp [hf, hf2]
    ((repeat refine ⟨⟨by kernel_rfl, by kernel_rfl⟩, ?_⟩); rw [hr]; refine ret_closed rfl ?_ rfl; simp)
  | true =>
    obtain ⟨hl, hb⟩ := fewB_iff.1 hf
    obtain ⟨hm, hc⟩ := fewB_iff.1 hf2
    simp [hf, hf2]
    refine axwp_loop (cpSt1 l m) (fun i => i.1 ≤ l.length ∧ i.2.1.length ≤ 60 * i.1 ∧ i.2.2 ≤ i.2.1.length) (fun i => l.length - i.1) (0, [], 0) ?_ ⟨Nat.zero_le _, by simp, by simp⟩ ?_
    · refine weak_at [.inr 5, .inr 6] ?_ ?_ ?_ ?_ <;> simp
    · rintro ⟨i, p⟩ ⟨hi, h1, h2⟩
      simp only at hi h1 h2
      by_cases hik : i < l.length
      · obtain ⟨x, hx, hx', hxm⟩ := get_of_lt hik
        have w4 : IntKind.i64.wrap ((i : Int) + 1) = (i : Int) + 1 := wrap_i64_in (by omega) (by omega)
        have hxb := hb x hxm
        have k1 : p.1.length + x.B.length ≤ 1000000000 := by omega
        obtain ⟨s1, s2⟩ := stepD_len x p h2
        simp [cpSt1, hik, hx', vL07Act_fold, GL07Act.cells, k1, h2]
        refine Again.mk (i + 1, stepD x p) ⟨hik, by simp only; omega, s2⟩ (by simp only; omega) ?_
        refine weak_at [.inr 5, .inr 6] ?_ ?_ ?_ ?_ <;> simp [w4]
      · have e : i = l.length := by omega
        subst e
        have k2 : p.1.length ≤ 140737488355328 := by omega
        simp [cpSt1, k2]
        refine axwp_loop (cpSt2 m p) (fun i => i.1 ≤ m.length ∧ i.2.1.length ≤ 60 * (60 + i.1) ∧ i.2.2 ≤ i.2.1.length) (fun i => m.length - i.1) (0, p) ?_ ⟨Nat.zero_le _, by simp only; omega, h2⟩ ?_
        · refine weak_at [.inr 5, .inr 6, .inr 8, .inr 9] ?_ ?_ ?_ ?_ <;> simp
        · rintro ⟨i, q⟩ ⟨hi, g1, g2⟩
          simp only at hi g1 g2
          by_cases hik : i < m.length
          · obtain ⟨x, hx, hx', hxm⟩ := get_of_lt hik
            have w4 : IntKind.i64.wrap ((i : Int) + 1) = (i : Int) + 1 := wrap_i64_in (by omega) (by omega)
            have hxb := hc x hxm
            have k1 : q.1.length + x.B.length ≤ 1000000000 := by omega
            obtain ⟨s1, s2⟩ := stepD_len x q g2
            simp [cpSt2, hik, hx', vL07Act_fold, GL07Act.cells, k1, k2, g2]
            (repeat refine ⟨⟨by kernel_rfl, by kernel_rfl⟩, ?_⟩)
            refine Again.mk (i + 1, stepD x q) ⟨hik, by simp only; omega, s2⟩ (by simp only; omega) ?_
            refine weak_at [.inr 5, .inr 6, .inr 8, .inr 9] ?_ ?_ ?_ ?_ <;> simp [w4]
          · have e : i = m.length := by omega
            subst e
            have k3 : q.1.length ≤ 140737488355328 := by omega
            simp [cpSt2, k3]
            refine axwp_loop (cpSt3 m q) (fun i => i.1 ≤ m.length ∧ i.2.1.length ≤ 60 * (60 + i.1) ∧ i.2.2 ≤ i.2.1.length) (fun i => m.length - i.1) (0, p) ?_ ⟨Nat.zero_le _, by simp only; omega, h2⟩ ?_
            · refine weak_at [.inr 5, .inr 6, .inr 8, .inr 9, .inr 11] ?_ ?_ ?_ ?_ <;> simp
            · rintro ⟨i, s⟩ ⟨hi, f1, f2⟩
              simp only at hi f1 f2
              by_cases hik : i < m.length
              · obtain ⟨x, hx, hx', hxm⟩ := get_of_lt hik
                have w4 : IntKind.i64.wrap ((i : Int) + 1) = (i : Int) + 1 := wrap_i64_in (by omega) (by omega)
                have hxb := hc x hxm
                have k1 : s.1.length + x.B.length ≤ 1000000000 := by omega
                obtain ⟨s1, s2⟩ := stepD_len x s f2
                simp [cpSt3, hik, hx', vL07Act_fold, GL07Act.cells, k1, f2]
                refine Again.mk (i + 1, stepD x s) ⟨hik, by simp only; omega, s2⟩ (by simp only; omega) ?_
                refine weak_at [.inr 5, .inr 6, .inr 8, .inr 9, .inr 11] ?_ ?_ ?_ ?_ <;> simp [w4]
              · have e : i = m.length := by omega
                subst e
                simp [cpSt3, k3]
                (repeat refine ⟨⟨by kernel_rfl, by kernel_rfl⟩, ?_⟩)
                try simp [cpSt3, k3]
                ((repeat refine ⟨⟨by kernel_rfl, by kernel_rfl⟩, ?_⟩); rw [hr]; refine ret_closed rfl ?_ rfl; simp)

set_option maxHeartbeats 4000000 in
theorem law_DiskKeeps : Lift.Spec Try.prog 5 (fam (fun i : (List UInt8) × (List UInt8) × Int × Int => [V.sl 2 1 (byteRow i.1), V.sl 2 1 (byteRow i.2.1), .int .i64 i.2.2.1, .int .i64 i.2.2.2]) (fun _ => []) (fun _ : (List UInt8) × (List UInt8) × Int × Int => True) (fun _ => ⟨.bool true, []⟩)) := by
  refine spec_fam (C := CK4) types_ok CK4_ok follows Try.func5 (by kernel_rfl) rfl (by kernel_rfl) rfl ?_
  rintro ⟨a, b, keep, again⟩ _
  refine ⟨by simp, ?_⟩
  intro r hr
  by_cases ha : (300 : Int) < (a.length : Int)
  · simp [ha]
    ((repeat refine ⟨⟨by kernel_rfl, by kernel_rfl⟩, ?_⟩); rw [hr]; refine ret_closed rfl ?_ rfl; simp)
  by_cases hb : (300 : Int) < (b.length : Int)
  · simp [ha, hb]
    ((repeat refine ⟨⟨by kernel_rfl, by kernel_rfl⟩, ?_⟩); rw [hr]; refine ret_closed rfl ?_ rfl; simp)
  have c1 : a.length ≤ 140737488355328 := by omega
  have c2 : a.length + b.length ≤ 140737488355328 := by omega
  have c3 : a.length ≤ 4611686018427387904 := by omega
  have c4 : (a.length : Int) ≤ 140737488355328 := by omega
  have c5 : (a.length : Int) + (b.length : Int) ≤ 140737488355328 := by omega
  have k1 : crashN (a.length + b.length) a.length keep ≤ a.length + b.length := by unfold crashN; omega
  have k0 : a.length ≤ crashN (a.length + b.length) a.length keep := by unfold crashN; omega
  have k2 : crashN (crashN (a.length + b.length) a.length keep) (crashN (a.length + b.length) a.length keep) again = crashN (a.length + b.length) a.length keep := by unfold crashN; omega
  have k3 : crashN (a.length + b.length) a.length keep ≤ 140737488355328 := by omega
  have k4 : ((crashN (a.length + b.length) a.length keep : Nat) : Int) ≤ (a.length : Int) + (b.length : Int) := by omega
  simp [ha, hb, c1, c2, c3, c4, c5, k1, k0, k2, k3, k4]
  ((repeat refine ⟨⟨by kernel_rfl, by kernel_rfl⟩, ?_⟩); rw [hr]; refine ret_closed rfl ?_ rfl; simp)

def owSt1 (a b : List UInt8) (v : UInt8) (i : Nat × List UInt8) : St := mkSt [(0, .sl 2 1 (byteRow a)), (1, .sl 2 1 (byteRow b)), (2, .int .u8 v.toNat), (7, .ptr 0 0 0), (8, .own 1 0 a.length), (9, .int .i64 i.1)]
  [(0, diskO a 0), (1, ⟨5, 1, byteRow i.2, false, 2, .rw⟩)] 2
def owSt2 (a b : List UInt8) (v : UInt8) (i : Nat × List UInt8) : St := mkSt [(0, .sl 2 1 (byteRow a)), (1, .sl 2 1 (byteRow b)), (2, .int .u8 v.toNat), (7, .ptr 0 0 0), (10, .own 1 0 a.length), (11, .int .i64 i.1)]
  [(0, diskO a 0), (1, ⟨5, 1, byteRow i.2, false, 2, .rw⟩)] 2
set_option maxHeartbeats 4000000 in
theorem law_DiskOwn : Lift.Spec Try.prog 6 (fam (fun i : (List UInt8) × (List UInt8) × UInt8 => [V.sl 2 1 (byteRow i.1), V.sl 2 1 (byteRow i.2.1), .int .u8 i.2.2.toNat]) (fun _ => []) (fun _ : (List UInt8) × (List UInt8) × UInt8 => True) (fun _ => ⟨.bool true, []⟩)) := by
  refine spec_fam (C := CK4) types_ok CK4_ok follows Try.func6 (by kernel_rfl) rfl (by kernel_rfl) rfl ?_
  rintro ⟨a, b, v⟩ _
  refine ⟨by simp, ?_⟩
  intro r hr
  by_cases ha : (300 : Int) < (a.length : Int)
  · simp [ha]
    ((repeat refine ⟨⟨by kernel_rfl, by kernel_rfl⟩, ?_⟩); rw [hr]; refine ret_closed rfl ?_ rfl; simp)
  by_cases hb : (300 : Int) < (b.length : Int)
  · simp [ha, hb]
    ((repeat refine ⟨⟨by kernel_rfl, by kernel_rfl⟩, ?_⟩); rw [hr]; refine ret_closed rfl ?_ rfl; simp)
  have c1 : a.length ≤ 140737488355328 := by omega
  have c2 : a.length + b.length ≤ 140737488355328 := by omega
  have c4 : (a.length : Int) ≤ 140737488355328 := by omega
  have c5 : (a.length : Int) + (b.length : Int) ≤ 140737488355328 := by omega
  simp [ha, hb, c1, c4]
  refine axwp_loop (owSt1 a b v) (fun i => i.1 ≤ a.length ∧ i.2.length = a.length) (fun i => a.length - i.1) (0, a) ?_ ⟨Nat.zero_le _, rfl⟩ ?_
  · refine weak_at [.inr 7, .inr 8] ?_ ?_ ?_ ?_ <;> simp
  · rintro ⟨i, x⟩ ⟨hi, hx⟩
    simp only at hi hx
    by_cases hik : i < a.length
    · have w4 : IntKind.i64.wrap ((i : Int) + 1) = (i : Int) + 1 := wrap_i64_in (by omega) (by omega)
      have hxi : i < x.length := by omega
      simp [owSt1, hik, hx, hxi]
      refine Again.mk (i + 1, x.set i v) ⟨hik, by simpa using hx⟩ (by simp only; omega) ?_
      refine weak_at [.inr 7, .inr 8] ?_ ?_ ?_ ?_ <;> simp [w4, byteRow_put]
    · have e : i = a.length := by omega
      subst e
      simp [owSt1, c1]
      refine axwp_loop (owSt2 a b v) (fun i => i.1 ≤ a.length ∧ i.2.length = a.length) (fun i => a.length - i.1) (0, a) ?_ ⟨Nat.zero_le _, rfl⟩ ?_
      · refine weak_at [.inr 7, .inr 10] ?_ ?_ ?_ ?_ <;> simp
      · rintro ⟨i, x⟩ ⟨hi, hx⟩
        simp only at hi hx
        by_cases hik : i < a.length
        · have w4 : IntKind.i64.wrap ((i : Int) + 1) = (i : Int) + 1 := wrap_i64_in (by omega) (by omega)
          have hxi : i < x.length := by omega
          obtain ⟨u, hu⟩ : ∃ u : UInt8, u = v + 1 := ⟨_, rfl⟩
          have hv : IntKind.u8.wrap ((v.toNat : Int) + 1) = (u.toNat : Int) := by
            rw [hu]
            simp [IntKind.wrap, IntKind.bits, IntKind.signed, UInt8.toNat_add]
          simp [owSt2, hik, hx, hxi, hv]
          refine Again.mk (i + 1, x.set i u) ⟨hik, by simpa using hx⟩ (by simp only; omega) ?_
          refine weak_at [.inr 7, .inr 10] ?_ ?_ ?_ ?_ <;> simp [w4, byteRow_put]
        · have e : i = a.length := by omega
          subst e
          have c6 : (a.length : Int) + 1 ≤ 140737488355328 := by omega
          have w6 : IntKind.i64.wrap ((a.length : Int) + 1) = a.length + 1 := wrap_i64_in (by omega) (by omega)
          simp [owSt2, c1, c2, c4, c5, c6, w6]
          ((repeat refine ⟨⟨by kernel_rfl, by kernel_rfl⟩, ?_⟩); rw [hr]; refine ret_closed rfl ?_ rfl; simp)

set_option maxHeartbeats 4000000 in
theorem law_DiskTruncates : Lift.Spec Try.prog 7 (fam (fun i : (List UInt8) × (List UInt8) × Int × Int => [V.sl 2 1 (byteRow i.1), V.sl 2 1 (byteRow i.2.1), .int .i64 i.2.2.1, .int .i64 i.2.2.2]) (fun _ => []) (fun _ : (List UInt8) × (List UInt8) × Int × Int => True) (fun _ => ⟨.bool true, []⟩)) := by
  refine spec_fam (C := CK4) types_ok CK4_ok follows Try.func7 (by kernel_rfl) rfl (by kernel_rfl) rfl ?_
  rintro ⟨a, b, n, keep⟩ _
  refine ⟨by simp, ?_⟩
  intro r hr
  by_cases ha : (300 : Int) < (a.length : Int)
  · simp [ha]
    ((repeat refine ⟨⟨by kernel_rfl, by kernel_rfl⟩, ?_⟩); rw [hr]; refine ret_closed rfl ?_ rfl; simp)
  by_cases hb : (300 : Int) < (b.length : Int)
  · simp [ha, hb]
    ((repeat refine ⟨⟨by kernel_rfl, by kernel_rfl⟩, ?_⟩); rw [hr]; refine ret_closed rfl ?_ rfl; simp)
  have c1 : a.length ≤ 140737488355328 := by omega
  have c2 : a.length + b.length ≤ 140737488355328 := by omega
  have c3 : a.length ≤ 4611686018427387904 := by omega
  have c4 : (a.length : Int) ≤ 140737488355328 := by omega
  have c5 : (a.length : Int) + (b.length : Int) ≤ 140737488355328 := by omega
  have w1 : IntKind.i64.wrap ((a.length : Int) + (b.length : Int) + 2) = a.length + b.length + 2 := wrap_i64_in (by omega) (by omega)
  have b1 : (-2 : Int) ≤ (a.length : Int) + (b.length : Int) + 2 := by omega
  have b2 : (a.length : Int) + (b.length : Int) + 2 ≤ 1099511627776 := by omega
  obtain ⟨m, hm⟩ : ∃ m, -2 + n % ((a.length : Int) + (b.length : Int) + 2 + 2 + 1) = m := ⟨_, rfl⟩
  have m1 : -2 ≤ m := by have := Int.emod_nonneg n (show (a.length : Int) + (b.length : Int) + 2 + 2 + 1 ≠ 0 by omega); omega
  by_cases h0 : m < 0
  · simp [ha, hb, c1, c2, c3, c4, c5, w1, b1, b2, hm, truncE, truncN, h0]
    ((repeat refine ⟨⟨by kernel_rfl, by kernel_rfl⟩, ?_⟩); rw [hr]; refine ret_closed rfl ?_ rfl; simp)
  by_cases h3 : (a.length : Int) + (b.length : Int) < m
  · simp [ha, hb, c1, c2, c3, c4, c5, w1, b1, b2, hm, truncE, truncN, h0, h3]
    ((repeat refine ⟨⟨by kernel_rfl, by kernel_rfl⟩, ?_⟩); rw [hr]; refine ret_closed rfl ?_ rfl; simp)
  obtain ⟨k, rfl⟩ := Int.eq_ofNat_of_zero_le (show 0 ≤ m by omega)
  have h4 : k ≤ a.length + b.length := by omega
  have h5 : (k : Int) ≤ (a.length : Int) + (b.length : Int) := by omega
  have h6 : min k (a.length + b.length) = k := by omega
  have h7 : k ≤ 140737488355328 := by omega
  have k4 : (if a.length < k then (a.length : Int) else (k : Int)) = ((min a.length k : Nat) : Int) := by split <;> omega
  have k5 : min a.length k ≤ k := Nat.min_le_right _ _
  obtain ⟨q, hq⟩ : ∃ q, q = crashN k (min a.length k) keep := ⟨_, rfl⟩
  have q1 : q ≤ k := by rw [hq]; unfold crashN; omega
  have q0 : min a.length k ≤ q := by rw [hq]; unfold crashN; omega
  have k6 : dkcrashSp [V.ptr 0 0 0, .int .i64 keep] [diskO (List.take k (a ++ b)) (min a.length k)] = some ⟨.tup [], [diskO (List.take q (a ++ b)) q]⟩ := by
    have e : (List.take k (a ++ b)).length = k := by simp [h6]
    rw [dkcrashSp_eq (by rw [e]; exact h7) (by rw [e]; exact k5), e, List.take_take, ← hq, Nat.min_eq_left q1]
  have q2 : min q (a.length + b.length) = q := by omega
  have q3 : q ≤ 140737488355328 := by omega
  have q4 : q ≤ a.length + b.length := by omega
  have q5 : (q : Int) ≤ (a.length : Int) + (b.length : Int) := by omega
  simp [ha, hb, c1, c2, c3, c4, c5, w1, b1, b2, hm, truncE, truncN, h0, h3, h4, h5, h6, h7, k4]
  (repeat refine ⟨⟨by kernel_rfl, by kernel_rfl⟩, ?_⟩)
  simp [ha, hb, c1, c2, c3, c4, c5, w1, b1, b2, hm, truncE, truncN, h0, h3, h4, h5, h6, h7, k4, k6, q1, q0, q2, q3, q4, q5]
  ((repeat refine ⟨⟨by kernel_rfl, by kernel_rfl⟩, ?_⟩); rw [hr]; refine ret_closed rfl ?_ rfl; simp)
end Go.Proofs.Ytpahppndnpeiaaa
