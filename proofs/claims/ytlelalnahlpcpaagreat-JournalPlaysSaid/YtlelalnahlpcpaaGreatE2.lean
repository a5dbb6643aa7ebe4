/-
  entry: which entries have the right shape, by the reference.
-/
import Derived.Test.YtlelalnahlpcpaaGreatE1
set_option linter.unusedSimpArgs false
set_option linter.unusedVariables false
namespace Go.Proofs.YtlelalnahlpcpaaGreat
open Go.Lift

/-! ### What a kind uses -/
def usesN : List ByteArray := [⟨#[]⟩, ⟨#[116, 99, 111]⟩, ⟨#[116, 99, 101, 119, 118]⟩, ⟨#[116, 101]⟩, ⟨#[116, 67]⟩, ⟨#[116, 99]⟩, ⟨#[116, 99]⟩, ⟨#[116]⟩, ⟨#[116, 98]⟩, ⟨#[99, 109]⟩, ⟨#[99, 118]⟩, ⟨#[99, 118]⟩, ⟨#[118]⟩, ⟨#[114, 98]⟩, ⟨#[]⟩, ⟨#[]⟩, ⟨#[110]⟩]
def usesS (k : Int) : ByteArray := if 1 ≤ k ∧ k < 17 then usesN.getD k.toNat ⟨#[]⟩ else ⟨#[63]⟩
def hasS (s : ByteArray) (c : Int) : Bool := s.data.toList.any fun b => decide ((b.toNat : Int) = c)
def hasK (k c : Int) : Bool := hasS (usesS k) c
theorem kinds {k : Int} (h : 1 ≤ k ∧ k ≤ 16) : k = 1 ∨ k = 2 ∨ k = 3 ∨ k = 4 ∨ k = 5 ∨ k = 6 ∨ k = 7 ∨ k = 8 ∨ k = 9 ∨ k = 10 ∨ k = 11 ∨ k = 12 ∨ k = 13 ∨ k = 14 ∨ k = 15 ∨ k = 16 := by omega

@[simp] theorem hasK_1_116 : hasK 1 116 = true := rfl
@[simp] theorem hasK_1_99 : hasK 1 99 = true := rfl
@[simp] theorem hasK_1_67 : hasK 1 67 = false := rfl
@[simp] theorem hasK_1_111 : hasK 1 111 = true := rfl
@[simp] theorem hasK_1_114 : hasK 1 114 = false := rfl
@[simp] theorem hasK_1_101 : hasK 1 101 = false := rfl
@[simp] theorem hasK_1_119 : hasK 1 119 = false := rfl
@[simp] theorem hasK_1_118 : hasK 1 118 = false := rfl
@[simp] theorem hasK_1_98 : hasK 1 98 = false := rfl
@[simp] theorem hasK_1_109 : hasK 1 109 = false := rfl
@[simp] theorem hasK_1_110 : hasK 1 110 = false := rfl
@[simp] theorem hasK_2_116 : hasK 2 116 = true := rfl
@[simp] theorem hasK_2_99 : hasK 2 99 = true := rfl
@[simp] theorem hasK_2_67 : hasK 2 67 = false := rfl
@[simp] theorem hasK_2_111 : hasK 2 111 = false := rfl
@[simp] theorem hasK_2_114 : hasK 2 114 = false := rfl
@[simp] theorem hasK_2_101 : hasK 2 101 = true := rfl
@[simp] theorem hasK_2_119 : hasK 2 119 = true := rfl
@[simp] theorem hasK_2_118 : hasK 2 118 = true := rfl
@[simp] theorem hasK_2_98 : hasK 2 98 = false := rfl
@[simp] theorem hasK_2_109 : hasK 2 109 = false := rfl
@[simp] theorem hasK_2_110 : hasK 2 110 = false := rfl
@[simp] theorem hasK_3_116 : hasK 3 116 = true := rfl
@[simp] theorem hasK_3_99 : hasK 3 99 = false := rfl
@[simp] theorem hasK_3_67 : hasK 3 67 = false := rfl
@[simp] theorem hasK_3_111 : hasK 3 111 = false := rfl
@[simp] theorem hasK_3_114 : hasK 3 114 = false := rfl
@[simp] theorem hasK_3_101 : hasK 3 101 = true := rfl
@[simp] theorem hasK_3_119 : hasK 3 119 = false := rfl
@[simp] theorem hasK_3_118 : hasK 3 118 = false := rfl
@[simp] theorem hasK_3_98 : hasK 3 98 = false := rfl
@[simp] theorem hasK_3_109 : hasK 3 109 = false := rfl
@[simp] theorem hasK_3_110 : hasK 3 110 = false := rfl
@[simp] theorem hasK_4_116 : hasK 4 116 = true := rfl
@[simp] theorem hasK_4_99 : hasK 4 99 = false := rfl
@[simp] theorem hasK_4_67 : hasK 4 67 = true := rfl
@[simp] theorem hasK_4_111 : hasK 4 111 = false := rfl
@[simp] theorem hasK_4_114 : hasK 4 114 = false := rfl
@[simp] theorem hasK_4_101 : hasK 4 101 = false := rfl
@[simp] theorem hasK_4_119 : hasK 4 119 = false := rfl
@[simp] theorem hasK_4_118 : hasK 4 118 = false := rfl
@[simp] theorem hasK_4_98 : hasK 4 98 = false := rfl
@[simp] theorem hasK_4_109 : hasK 4 109 = false := rfl
@[simp] theorem hasK_4_110 : hasK 4 110 = false := rfl
@[simp] theorem hasK_5_116 : hasK 5 116 = true := rfl
@[simp] theorem hasK_5_99 : hasK 5 99 = true := rfl
@[simp] theorem hasK_5_67 : hasK 5 67 = false := rfl
@[simp] theorem hasK_5_111 : hasK 5 111 = false := rfl
@[simp] theorem hasK_5_114 : hasK 5 114 = false := rfl
@[simp] theorem hasK_5_101 : hasK 5 101 = false := rfl
@[simp] theorem hasK_5_119 : hasK 5 119 = false := rfl
@[simp] theorem hasK_5_118 : hasK 5 118 = false := rfl
@[simp] theorem hasK_5_98 : hasK 5 98 = false := rfl
@[simp] theorem hasK_5_109 : hasK 5 109 = false := rfl
@[simp] theorem hasK_5_110 : hasK 5 110 = false := rfl
@[simp] theorem hasK_6_116 : hasK 6 116 = true := rfl
@[simp] theorem hasK_6_99 : hasK 6 99 = true := rfl
@[simp] theorem hasK_6_67 : hasK 6 67 = false := rfl
@[simp] theorem hasK_6_111 : hasK 6 111 = false := rfl
@[simp] theorem hasK_6_114 : hasK 6 114 = false := rfl
@[simp] theorem hasK_6_101 : hasK 6 101 = false := rfl
@[simp] theorem hasK_6_119 : hasK 6 119 = false := rfl
@[simp] theorem hasK_6_118 : hasK 6 118 = false := rfl
@[simp] theorem hasK_6_98 : hasK 6 98 = false := rfl
@[simp] theorem hasK_6_109 : hasK 6 109 = false := rfl
@[simp] theorem hasK_6_110 : hasK 6 110 = false := rfl
@[simp] theorem hasK_7_116 : hasK 7 116 = true := rfl
@[simp] theorem hasK_7_99 : hasK 7 99 = false := rfl
@[simp] theorem hasK_7_67 : hasK 7 67 = false := rfl
@[simp] theorem hasK_7_111 : hasK 7 111 = false := rfl
@[simp] theorem hasK_7_114 : hasK 7 114 = false := rfl
@[simp] theorem hasK_7_101 : hasK 7 101 = false := rfl
@[simp] theorem hasK_7_119 : hasK 7 119 = false := rfl
@[simp] theorem hasK_7_118 : hasK 7 118 = false := rfl
@[simp] theorem hasK_7_98 : hasK 7 98 = false := rfl
@[simp] theorem hasK_7_109 : hasK 7 109 = false := rfl
@[simp] theorem hasK_7_110 : hasK 7 110 = false := rfl
@[simp] theorem hasK_8_116 : hasK 8 116 = true := rfl
@[simp] theorem hasK_8_99 : hasK 8 99 = false := rfl
@[simp] theorem hasK_8_67 : hasK 8 67 = false := rfl
@[simp] theorem hasK_8_111 : hasK 8 111 = false := rfl
@[simp] theorem hasK_8_114 : hasK 8 114 = false := rfl
@[simp] theorem hasK_8_101 : hasK 8 101 = false := rfl
@[simp] theorem hasK_8_119 : hasK 8 119 = false := rfl
@[simp] theorem hasK_8_118 : hasK 8 118 = false := rfl
@[simp] theorem hasK_8_98 : hasK 8 98 = true := rfl
@[simp] theorem hasK_8_109 : hasK 8 109 = false := rfl
@[simp] theorem hasK_8_110 : hasK 8 110 = false := rfl
@[simp] theorem hasK_9_116 : hasK 9 116 = false := rfl
@[simp] theorem hasK_9_99 : hasK 9 99 = true := rfl
@[simp] theorem hasK_9_67 : hasK 9 67 = false := rfl
@[simp] theorem hasK_9_111 : hasK 9 111 = false := rfl
@[simp] theorem hasK_9_114 : hasK 9 114 = false := rfl
@[simp] theorem hasK_9_101 : hasK 9 101 = false := rfl
@[simp] theorem hasK_9_119 : hasK 9 119 = false := rfl
@[simp] theorem hasK_9_118 : hasK 9 118 = false := rfl
@[simp] theorem hasK_9_98 : hasK 9 98 = false := rfl
@[simp] theorem hasK_9_109 : hasK 9 109 = true := rfl
@[simp] theorem hasK_9_110 : hasK 9 110 = false := rfl
@[simp] theorem hasK_10_116 : hasK 10 116 = false := rfl
@[simp] theorem hasK_10_99 : hasK 10 99 = true := rfl
@[simp] theorem hasK_10_67 : hasK 10 67 = false := rfl
@[simp] theorem hasK_10_111 : hasK 10 111 = false := rfl
@[simp] theorem hasK_10_114 : hasK 10 114 = false := rfl
@[simp] theorem hasK_10_101 : hasK 10 101 = false := rfl
@[simp] theorem hasK_10_119 : hasK 10 119 = false := rfl
@[simp] theorem hasK_10_118 : hasK 10 118 = true := rfl
@[simp] theorem hasK_10_98 : hasK 10 98 = false := rfl
@[simp] theorem hasK_10_109 : hasK 10 109 = false := rfl
@[simp] theorem hasK_10_110 : hasK 10 110 = false := rfl
@[simp] theorem hasK_11_116 : hasK 11 116 = false := rfl
@[simp] theorem hasK_11_99 : hasK 11 99 = true := rfl
@[simp] theorem hasK_11_67 : hasK 11 67 = false := rfl
@[simp] theorem hasK_11_111 : hasK 11 111 = false := rfl
@[simp] theorem hasK_11_114 : hasK 11 114 = false := rfl
@[simp] theorem hasK_11_101 : hasK 11 101 = false := rfl
@[simp] theorem hasK_11_119 : hasK 11 119 = false := rfl
@[simp] theorem hasK_11_118 : hasK 11 118 = true := rfl
@[simp] theorem hasK_11_98 : hasK 11 98 = false := rfl
@[simp] theorem hasK_11_109 : hasK 11 109 = false := rfl
@[simp] theorem hasK_11_110 : hasK 11 110 = false := rfl
@[simp] theorem hasK_12_116 : hasK 12 116 = false := rfl
@[simp] theorem hasK_12_99 : hasK 12 99 = false := rfl
@[simp] theorem hasK_12_67 : hasK 12 67 = false := rfl
@[simp] theorem hasK_12_111 : hasK 12 111 = false := rfl
@[simp] theorem hasK_12_114 : hasK 12 114 = false := rfl
@[simp] theorem hasK_12_101 : hasK 12 101 = false := rfl
@[simp] theorem hasK_12_119 : hasK 12 119 = false := rfl
@[simp] theorem hasK_12_118 : hasK 12 118 = true := rfl
@[simp] theorem hasK_12_98 : hasK 12 98 = false := rfl
@[simp] theorem hasK_12_109 : hasK 12 109 = false := rfl
@[simp] theorem hasK_12_110 : hasK 12 110 = false := rfl
@[simp] theorem hasK_13_116 : hasK 13 116 = false := rfl
@[simp] theorem hasK_13_99 : hasK 13 99 = false := rfl
@[simp] theorem hasK_13_67 : hasK 13 67 = false := rfl
@[simp] theorem hasK_13_111 : hasK 13 111 = false := rfl
@[simp] theorem hasK_13_114 : hasK 13 114 = true := rfl
@[simp] theorem hasK_13_101 : hasK 13 101 = false := rfl
@[simp] theorem hasK_13_119 : hasK 13 119 = false := rfl
@[simp] theorem hasK_13_118 : hasK 13 118 = false := rfl
@[simp] theorem hasK_13_98 : hasK 13 98 = true := rfl
@[simp] theorem hasK_13_109 : hasK 13 109 = false := rfl
@[simp] theorem hasK_13_110 : hasK 13 110 = false := rfl
@[simp] theorem hasK_14_116 : hasK 14 116 = false := rfl
@[simp] theorem hasK_14_99 : hasK 14 99 = false := rfl
@[simp] theorem hasK_14_67 : hasK 14 67 = false := rfl
@[simp] theorem hasK_14_111 : hasK 14 111 = false := rfl
@[simp] theorem hasK_14_114 : hasK 14 114 = false := rfl
@[simp] theorem hasK_14_101 : hasK 14 101 = false := rfl
@[simp] theorem hasK_14_119 : hasK 14 119 = false := rfl
@[simp] theorem hasK_14_118 : hasK 14 118 = false := rfl
@[simp] theorem hasK_14_98 : hasK 14 98 = false := rfl
@[simp] theorem hasK_14_109 : hasK 14 109 = false := rfl
@[simp] theorem hasK_14_110 : hasK 14 110 = false := rfl
@[simp] theorem hasK_15_116 : hasK 15 116 = false := rfl
@[simp] theorem hasK_15_99 : hasK 15 99 = false := rfl
@[simp] theorem hasK_15_67 : hasK 15 67 = false := rfl
@[simp] theorem hasK_15_111 : hasK 15 111 = false := rfl
@[simp] theorem hasK_15_114 : hasK 15 114 = false := rfl
@[simp] theorem hasK_15_101 : hasK 15 101 = false := rfl
@[simp] theorem hasK_15_119 : hasK 15 119 = false := rfl
@[simp] theorem hasK_15_118 : hasK 15 118 = false := rfl
@[simp] theorem hasK_15_98 : hasK 15 98 = false := rfl
@[simp] theorem hasK_15_109 : hasK 15 109 = false := rfl
@[simp] theorem hasK_15_110 : hasK 15 110 = false := rfl
@[simp] theorem hasK_16_116 : hasK 16 116 = false := rfl
@[simp] theorem hasK_16_99 : hasK 16 99 = false := rfl
@[simp] theorem hasK_16_67 : hasK 16 67 = false := rfl
@[simp] theorem hasK_16_111 : hasK 16 111 = false := rfl
@[simp] theorem hasK_16_114 : hasK 16 114 = false := rfl
@[simp] theorem hasK_16_101 : hasK 16 101 = false := rfl
@[simp] theorem hasK_16_119 : hasK 16 119 = false := rfl
@[simp] theorem hasK_16_118 : hasK 16 118 = false := rfl
@[simp] theorem hasK_16_98 : hasK 16 98 = false := rfl
@[simp] theorem hasK_16_109 : hasK 16 109 = false := rfl
@[simp] theorem hasK_16_110 : hasK 16 110 = true := rfl

noncomputable def usesSp := fam (fun i : Int => [V.int .i64 i]) (fun _ : Int => []) (fun _ : Int => True) (fun i : Int => ⟨.str (usesS i), []⟩)
@[simp] theorem usesSp_eq {k : Int}  : usesSp ([V.int .i64 k]) ([]) = some (⟨.str (usesS k), []⟩) :=
  fam_eq (A := fun i : Int => [V.int .i64 i]) (O := fun _ : Int => []) (res := fun i : Int => ⟨.str (usesS i), []⟩) (by intro a b h h' <;> simp at h h' <;> simp_all) k trivial

set_option maxRecDepth 100000 in
theorem uses_spec : Lift.Spec Tryz.prog 108 usesSp := by
  refine spec_fam (C := C0) types_ok C0_ok follows Tryz.func108 (by kernel_rfl) rfl (by kernel_rfl) rfl ?_
  rintro k _
  refine ⟨by simp, ?_⟩
  intro r hr
  by_cases h1 : k < 1
  · simp [h1]
    ((repeat refine ⟨⟨by kernel_rfl, by kernel_rfl⟩, ?_⟩); rw [hr]; refine ret_closed rfl ?_ rfl; simp [usesS, show ¬ (1 ≤ k ∧ k < 17) by omega])
  · by_cases h2 : 17 ≤ k
    · simp [h1, h2]
      ((repeat refine ⟨⟨by kernel_rfl, by kernel_rfl⟩, ?_⟩); rw [hr]; refine ret_closed rfl ?_ rfl; simp [usesS, show ¬ (1 ≤ k ∧ k < 17) by omega])
    · rcases kinds (k := k) (by omega) with rfl | rfl | rfl | rfl | rfl | rfl | rfl | rfl | rfl | rfl | rfl | rfl | rfl | rfl | rfl | rfl
      all_goals
        simp
        ((repeat refine ⟨⟨by kernel_rfl, by kernel_rfl⟩, ?_⟩); rw [hr]; refine ret_closed rfl ?_ rfl; simp [usesS, usesN])

noncomputable def CE5 := mkC [(108, usesSp)]
theorem CE5_ok : SpecsOk Tryz.prog CE5 := mkC_ok (all_cons uses_spec all_nil)
@[simp] theorem CE5_1 : CE5 108 = usesSp := rfl

theorem any_take {s : List UInt8} {c : Int} {i : Nat} (h : ((s.take i).any fun b => decide ((b.toNat : Int) = c)) = false) {x : UInt8} (hx : s[i]? = some x) (hc : ¬ (x.toNat : Int) = c) : ((s.take (i + 1)).any fun b => decide ((b.toNat : Int) = c)) = false := by
  rw [List.take_add_one, hx, List.any_append, h]; simp [hc]
def NotTo (s : ByteArray) (c : Int) (i : Nat) : Prop := ((s.data.toList.take i).any fun b => decide ((b.toNat : Int) = c)) = false
noncomputable def hasKSp := fam (fun i : Int × Int => [V.int .i64 i.1, .int .u8 i.2]) (fun _ : Int × Int => []) (fun _ : Int × Int => True) (fun i : Int × Int => ⟨.bool (hasK i.1 i.2), []⟩)
@[simp] theorem hasKSp_eq {k : Int} {c : Int}  : hasKSp ([V.int .i64 k, .int .u8 c]) ([]) = some (⟨.bool (hasK k c), []⟩) :=
  fam_eq (A := fun i : Int × Int => [V.int .i64 i.1, .int .u8 i.2]) (O := fun _ : Int × Int => []) (res := fun i : Int × Int => ⟨.bool (hasK i.1 i.2), []⟩) (by rintro ⟨a0, a1⟩ ⟨b0, b1⟩ h h' <;> simp at h h' <;> simp_all) (k, c) trivial

def hasSt (s : ByteArray) (c : Int) (i : Nat) : St := mkSt [(1, .int .u8 c), (5, .str s), (6, .int .i64 i)] [] 0
theorem usesN_small : ∀ s ∈ usesN, s.data.toList.length ≤ 5 := by decide
theorem usesS_small (k : Int) : (usesS k).data.toList.length ≤ 5 := by
  unfold usesS
  split
  · rename_i h
    have hk : k.toNat < usesN.length := by simp [usesN]; omega
    rw [List.getD_eq_getElem?_getD, List.getElem?_eq_getElem hk]
    exact usesN_small _ (List.getElem_mem hk)
  · decide
theorem hasK_spec : Lift.Spec Tryz.prog 98 hasKSp := by
  refine spec_fam (C := CE5) types_ok CE5_ok follows Tryz.func98 (by kernel_rfl) rfl (by kernel_rfl) rfl ?_
  rintro ⟨k, c⟩ _
  refine ⟨by simp, ?_⟩
  intro r hr
  simp
  have hlen := usesS_small k
  have hd : hasK k c = hasS (usesS k) c := rfl
  generalize usesS k = s at *
  have hsz : s.size = s.data.toList.length := rfl
  refine axwp_loop (hasSt s c) (fun i => i ≤ s.size ∧ NotTo s c i) (fun i => s.size - i) 0 ?_ ⟨Nat.zero_le _, by simp [NotTo]⟩ ?_
  · refine weak_mk id ?_ ?_ ?_ ?_ <;> simp
  · rintro i ⟨hi, hn⟩
    by_cases hik : i < s.size
    · obtain ⟨x, hx, hx', _⟩ := get_of_lt (l := s.data.toList) (k := i) (by omega)
      have hx2 : s.data[i]'hik = x := by simpa using hx'
      have w4 : IntKind.i64.wrap ((i : Int) + 1) = (i : Int) + 1 := wrap_i64_in (by omega) (by omega)
      by_cases hc : (x.toNat : Int) = c
      · simp [hasSt, hik, hx2, hc]
        rw [hr]; refine ret_closed rfl ?_ rfl
        have : hasS s c = true := List.any_eq_true.2 ⟨x, List.mem_of_getElem? hx, by simp [hc]⟩
        simp [hd, this]
      · simp [hasSt, hik, hx2, hc]
        refine Again.mk (i + 1) ⟨hik, any_take hn hx hc⟩ (by omega) ?_
        refine weak_mk id ?_ ?_ ?_ ?_ <;> simp [w4]
    · have e : i = s.size := by omega
      subst e
      simp [hasSt]
      rw [hr]; refine ret_closed rfl ?_ rfl
      have : hasS s c = false := by unfold NotTo at hn; rw [hsz, List.take_length] at hn; exact hn
      simp [hd, this]

noncomputable def inSp := fam (fun i : Int × Int × Int => [V.int .i64 i.1, .int .i64 i.2.1, .int .i64 i.2.2]) (fun _ : Int × Int × Int => []) (fun _ : Int × Int × Int => True) (fun i : Int × Int × Int => ⟨.bool (inB i.1 i.2.1 i.2.2), []⟩)
@[simp] theorem inSp_eq {n : Int} {lo : Int} {hi : Int}  : inSp ([V.int .i64 n, .int .i64 lo, .int .i64 hi]) ([]) = some (⟨.bool (inB n lo hi), []⟩) :=
  fam_eq (A := fun i : Int × Int × Int => [V.int .i64 i.1, .int .i64 i.2.1, .int .i64 i.2.2]) (O := fun _ : Int × Int × Int => []) (res := fun i : Int × Int × Int => ⟨.bool (inB i.1 i.2.1 i.2.2), []⟩) (by rintro ⟨a0, a1, a2⟩ ⟨b0, b1, b2⟩ h h' <;> simp at h h' <;> simp_all) (n, lo, hi) trivial

theorem in6_spec : Lift.Spec Tryz.prog 84 inSp := by
  refine spec_fam (C := C0) types_ok C0_ok follows Tryz.func84 (by kernel_rfl) rfl (by kernel_rfl) rfl ?_
  rintro ⟨n, lo, hi⟩ _
  refine ⟨by simp, ?_⟩
  intro r hr
  by_cases h : lo ≤ n <;> simp [h]
  all_goals (rw [hr]; refine ret_closed rfl ?_ rfl; simp [inB, h])

noncomputable def CE6 := mkC [(98, hasKSp), (84, inSp)]
theorem CE6_ok : SpecsOk Tryz.prog CE6 := mkC_ok (all_cons hasK_spec (all_cons in6_spec all_nil))
@[simp] theorem CE6_1 : CE6 98 = hasKSp := rfl
@[simp] theorem CE6_2 : CE6 84 = inSp := rfl

end Go.Proofs.YtlelalnahlpcpaaGreat
