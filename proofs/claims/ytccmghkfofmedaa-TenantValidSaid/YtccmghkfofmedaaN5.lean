/-
  tenant: the order by the reference.
-/
import Derived.Test.YtccmghkfofmedaaN4
namespace Go.Proofs.Ytccmghkfofmedaa
open Go.Lift

noncomputable def CN6 := mkC [(50, beforeSp)]
theorem CN6_ok : SpecsOk Try.prog CN6 := mkC_ok (all_cons before_spec all_nil)
@[simp] theorem CN6_1 : CN6 50 = beforeSp := rfl

theorem ordN_here {C : GConfig} {i k : Nat} (hA : ∀ y ∈ (ordN C i).take k, bef C y i = true) (hB : ∀ y, (ordN C i)[k]? = some y → bef C y i = false) : natI (ordN C (i + 1)) = (natI (ordN C i)).take k ++ (i : Int) :: (natI (ordN C i)).drop k := by
  have : ordN C (i + 1) = (ordN C i).take k ++ i :: (ordN C i).drop k := by
    show insN C i (ordN C i) = _
    conv => lhs; rw [← List.take_append_drop k (ordN C i)]
    exact insN_split hA (fun y hy => hB y (by rw [List.head?_drop] at hy; exact hy))
  rw [this]
  simp [natI, List.map_take, List.map_drop]

/-- A row of which the part from place k on is moved by one, and place k written. -/
theorem shift_row {L : List Int} {i k : Nat} (hl : L.length = i) (hk : k ≤ i) (x : Int) :
    (∃ z, (List.take (k + 1) (intRow L ++ [[V.int .i64 0]]) ++ (List.take (i - k) (List.take (i + 1 - k) (List.drop k (intRow L ++ [[V.int .i64 0]]))) ++ List.drop (k + 1 + (i - k)) (intRow L ++ [[V.int .i64 0]])))[k]? = some [V.int .i64 z]) ∧
    (List.take (k + 1) (intRow L ++ [[V.int .i64 0]])).set k [V.int .i64 x] ++ (List.take (i - k) (List.take (i + 1 - k) (List.drop k (intRow L ++ [[V.int .i64 0]]))) ++ List.drop (k + 1 + (i - k)) (intRow L ++ [[V.int .i64 0]])) = intRow (L.take k ++ x :: L.drop k) := by
  have e0 : intRow L ++ [[V.int .i64 0]] = intRow (L ++ [0]) := by simp [intRow]
  obtain ⟨A, B, rfl, hA⟩ : ∃ A B, L = A ++ B ∧ A.length = k := ⟨L.take k, L.drop k, (List.take_append_drop k L).symm, by rw [List.length_take]; omega⟩
  have hB : B.length = i - k := by simp at hl; omega
  subst hA
  rw [e0]
  have d1 : List.drop (A.length + 1 + (i - A.length)) (intRow (A ++ B ++ [0])) = [] := List.drop_eq_nil_of_le (by simp; omega)
  have d2 : List.take (i - A.length) (List.take (i + 1 - A.length) (List.drop A.length (intRow (A ++ B ++ [0])))) = intRow B := by
    rw [List.take_take, show min (i - A.length) (i + 1 - A.length) = B.length by omega, intRow_drop, List.append_assoc, List.drop_left, intRow_take, List.take_left]
  obtain ⟨z, hz⟩ : ∃ z, List.take (A.length + 1) (A ++ B ++ [0]) = A ++ [z] := by
    cases B with
    | nil => exact ⟨0, by rw [List.append_nil]; exact List.take_of_length_le (by simp)⟩
    | cons b B => exact ⟨b, by rw [show A ++ b :: B ++ [0] = (A ++ [b]) ++ (B ++ [0]) by simp, List.take_left' (by simp)]⟩
  rw [d1, d2, intRow_take, hz]
  constructor
  · exact ⟨z, by simp [intRow]⟩
  · simp [intRow]
def roSt (C : GConfig) (i : Nat) : St := mkSt [(1, .ptr 0 0 0), (3, .own 1 0 i), (4, .int .i64 i)] [(0, cfgO C), (1, intsO (natI (ordN C i)))] 2
def riSt (C : GConfig) (i k : Nat) : St := mkSt [(1, .ptr 0 0 0), (3, .own 1 0 i), (4, .int .i64 i), (5, .int .i64 k)] [(0, cfgO C), (1, intsO (natI (ordN C i)))] 2
theorem reforder_spec : Lift.Spec Try.prog 28 orderSp := by
  refine spec_fam (C := CN6) types_ok CN6_ok follows Try.func28 (by kernel_rfl) rfl (by kernel_rfl) rfl ?_
  rintro C h
  try simp only at h
  refine ⟨by simp, ?_⟩
  intro r hr
  simp [GConfig.cells]
  refine axwp_loop (roSt C) (fun i => i ≤ C.Tenants.length) (fun i => C.Tenants.length - i) 0 ?_ (Nat.zero_le _) ?_
  · refine weak_nil_mk 3 77 (sz := 1) (intsO []) (fun n => if n = 1 then 77 else n) ?_ ?_ ?_ ?_ ?_ ?_ <;> simp [intsO, cfgO, GConfig.cells, ordN, natI]
  · intro i hi
    have w4 : IntKind.i64.wrap ((i : Int) + 1) = (i : Int) + 1 := wrap_i64_in (by omega) (by omega)
    have hlen := ordN_len C i
    have q1 : ((i : Int) + 1) * 8 ≤ 140737488355328 := by omega
    have q2 : (i : Int) + 1 ≤ 140737488355328 := by omega
    by_cases hik : i < C.Tenants.length
    · simp [roSt, cfgO, intsO, GConfig.cells, hik]
      refine axwp_loop (riSt C i) (fun k => k ≤ i ∧ ∀ y ∈ (ordN C i).take k, bef C y i = true) (fun k => i - k) 0 ?_ ⟨Nat.zero_le _, by simp⟩ ?_
      · refine weak_mk id ?_ ?_ ?_ ?_ <;> simp [cfgO, intsO, GConfig.cells]
      · rintro k ⟨hk, hA⟩
        have w5 : IntKind.i64.wrap ((k : Int) + 1) = (k : Int) + 1 := wrap_i64_in (by omega) (by omega)
        have p1 : (0 : Int) ≤ (k : Int) + 1 := by omega
        have p2 : (k : Int) ≤ (i : Int) + 1 := by omega
        have p3 : k + (i + 1 - k) ≤ i + 1 := by omega
        have p4 : k + 1 + (i - k) ≤ i + 1 := by omega
        have p5 : min (i - k) (i + 1 - k) = i - k := by omega
        have p6 : (k : Int) < (i : Int) + 1 := by omega
        obtain ⟨⟨z, hz⟩, hs⟩ := shift_row (L := natI (ordN C i)) (by simp [hlen]) hk (i : Int)
        by_cases hki : k < i
        · obtain ⟨y, hy, hy', hym⟩ := get_of_lt (show k < (ordN C i).length by omega)
          have hyi := ordN_mem hym
          have hyt : y < C.Tenants.length := by omega
          have hky : k < (natI (ordN C i)).length := by simp; omega
          have hny : (natI (ordN C i))[k] = (y : Int) := by simp [natI, hy']
          cases hb : bef C y i with
          | true =>
            simp [riSt, cfgO, intsO, GConfig.cells, hki, hlen, hny, hyt, hik, hb]
            refine ⟨⟨by kernel_rfl, by kernel_rfl⟩, ?_⟩
            refine Again.mk (k + 1) ⟨by omega, fun z hz => ?_⟩ (by omega) ?_
            · rw [List.take_add_one, hy] at hz
              rcases List.mem_append.1 hz with hz | hz
              · exact hA z hz
              · simp at hz; subst hz; exact hb
            refine weak_mk id ?_ ?_ ?_ ?_ <;> simp [cfgO, intsO, GConfig.cells, w5]
          | false =>
            have ho := ordN_here hA (fun z hz => by rw [hy] at hz; cases hz; exact hb)
            simp [riSt, cfgO, intsO, GConfig.cells, hki, hlen, hny, hyt, hik, hb, w5, q1, q2, p1, p2, p3, p4, p5, p6, hk, hz]
            refine ⟨⟨by kernel_rfl, by kernel_rfl⟩, ⟨by kernel_rfl, by kernel_rfl⟩, ?_⟩
            refine Again.mk (i + 1) hik (by omega) ?_
            refine weak_at [.inl 0, .inr 3] ?_ ?_ ?_ ?_ <;> simp [cfgO, intsO, GConfig.cells, w4, ho, hs]
        · have hke : (ordN C i)[k]? = none := List.getElem?_eq_none (by omega)
          have ho := ordN_here hA (fun z hz => by rw [hke] at hz; cases hz)
          simp [riSt, cfgO, intsO, GConfig.cells, hki, hlen, w5, q1, q2, p1, p2, p3, p4, p5, p6, hk, hz]
          refine ⟨⟨by kernel_rfl, by kernel_rfl⟩, ⟨by kernel_rfl, by kernel_rfl⟩, ?_⟩
          refine Again.mk (i + 1) hik (by omega) ?_
          refine weak_at [.inl 0, .inr 3] ?_ ?_ ?_ ?_ <;> simp [cfgO, intsO, GConfig.cells, w4, ho, hs]
    · have e : i = C.Tenants.length := by omega
      subst e
      simp [roSt, cfgO, intsO, GConfig.cells]
      rw [hr]
      have ht : List.take C.Tenants.length (natI (ordN C C.Tenants.length)) = natI (ordN C C.Tenants.length) := List.take_of_length_le (by simp [ordN_len])
      refine retData [2] ?_ rfl (by simp) ?_
      · simp
      · simp [hlen, ht]
end Go.Proofs.Ytccmghkfofmedaa
