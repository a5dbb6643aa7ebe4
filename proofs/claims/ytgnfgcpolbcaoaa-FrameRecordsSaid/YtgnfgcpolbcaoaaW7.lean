/-
  wire: texts and lists are written.
-/
import Derived.Test.YtgnfgcpolbcaoaaW6
namespace Go.Proofs.Ytgnfgcpolbcaoaa
open Go.Lift

def intsB (ns : List Int) : List UInt8 := ns.flatMap fun n => enc (code n)
theorem intsB_len : ∀ {ns : List Int}, (∀ x ∈ ns, In64 x) → (intsB ns).length ≤ 10 * ns.length
  | [], _ => Nat.le_refl _
  | n :: ns, h => by
    have h1 := enc_ten _ (code_lt (h n (List.mem_cons_self ..)))
    have h2 := intsB_len (ns := ns) (fun x hx => h x (List.mem_cons_of_mem _ hx))
    have e : intsB (n :: ns) = enc (code n) ++ intsB ns := rfl
    rw [e, List.length_append, List.length_cons]
    omega
theorem intsB_take {ns : List Int} {i : Nat} {x : Int} (hx : ns[i]? = some x) : intsB (ns.take (i + 1)) = intsB (ns.take i) ++ enc (code x) := by
  unfold intsB
  rw [List.take_add_one, hx]
  simp

def textB (l : List UInt8) (s : ByteArray) : List UInt8 := l ++ enc (code (s.size : Int)) ++ s.data.toList
noncomputable def textSp := fam (fun i : Nat × List UInt8 × ByteArray => [V.sl i.1 1 (byteRow i.2.1), .str i.2.2]) (fun _ => []) (fun i => (i.2.1.length : Int) + i.2.2.size ≤ 70368744177664) (fun i => ⟨.own 0 0 (textB i.2.1 i.2.2).length, [rowOf (textB i.2.1 i.2.2)]⟩)
@[simp] theorem textSp_eq {t : Nat} {l : List UInt8} {s : ByteArray} (h : (l.length : Int) + s.size ≤ 70368744177664) : textSp [V.sl t 1 (byteRow l), .str s] [] = some ⟨.own 0 0 (textB l s).length, [rowOf (textB l s)]⟩ :=
  fam_eq (A := fun i : Nat × List UInt8 × ByteArray => [V.sl i.1 1 (byteRow i.2.1), .str i.2.2]) (fun i j h _ => by simp at h; rw [h.1.2, h.2]) (t, l, s) h

noncomputable def C7 := mkC [(34, appSp), (35, copySp), (28, intSp)]
theorem C7_ok : SpecsOk Try.prog C7 := mkC_ok (all_cons app_spec (all_cons copy_spec (all_cons refint_spec all_nil)))
@[simp] theorem C7_1 : C7 34 = appSp := rfl
@[simp] theorem C7_2 : C7 35 = copySp := rfl
@[simp] theorem C7_3 : C7 28 = intSp := rfl

def intsL (l : List UInt8) (ns : List Int) : List UInt8 := l ++ enc (code (ns.length : Int)) ++ intsB ns
noncomputable def intsSp := fam (fun i : Nat × Nat × List UInt8 × List Int => [V.sl i.1 1 (byteRow i.2.2.1), .sl i.2.1 1 (intRow i.2.2.2)]) (fun _ => []) (fun i => (i.2.2.1.length : Int) + 10 * (i.2.2.2.length : Int) ≤ 70368744177664 ∧ ∀ x ∈ i.2.2.2, In64 x) (fun i => ⟨.own 0 0 (intsL i.2.2.1 i.2.2.2).length, [rowOf (intsL i.2.2.1 i.2.2.2)]⟩)
@[simp] theorem intsSp_eq {t u : Nat} {l : List UInt8} {ns : List Int} (h : (l.length : Int) + 10 * (ns.length : Int) ≤ 70368744177664) (h2 : ∀ x ∈ ns, In64 x) : intsSp [V.sl t 1 (byteRow l), .sl u 1 (intRow ns)] [] = some ⟨.own 0 0 (intsL l ns).length, [rowOf (intsL l ns)]⟩ :=
  fam_eq (A := fun i : Nat × Nat × List UInt8 × List Int => [V.sl i.1 1 (byteRow i.2.2.1), .sl i.2.1 1 (intRow i.2.2.2)]) (fun i j h _ => by simp at h; rw [h.1.2, h.2.2]) (t, u, l, ns) ⟨h, h2⟩

theorem intsL_len {l : List UInt8} {ns : List Int} (h2 : ∀ x ∈ ns, In64 x) (hn : In64 (ns.length : Int)) (i : Nat) : (l ++ enc (code (ns.length : Int)) ++ intsB (ns.take i)).length ≤ l.length + 10 + 10 * ns.length := by
  have h := intsB_len (ns := ns.take i) (fun x hx => h2 x (List.mem_of_mem_take hx))
  have := enc_ten _ (code_lt hn)
  simp only [List.length_append]
  have : (ns.take i).length ≤ ns.length := by rw [List.length_take]; omega
  omega

def itSt (u : Nat) (ns : List Int) (i : Nat × List UInt8) : St :=
  mkSt [(5, .own 0 0 i.2.length), (16, .sl u 1 (intRow ns)), (17, .int .i64 ns.length), (18, .int .i64 i.1)] [(0, rowOf i.2)] 1

def irSt (t u : Nat) (l0 : List UInt8) (ns : List Int) (i : Nat × List UInt8) : St :=
  mkSt [(0, .sl t 1 (byteRow l0)), (1, .sl u 1 (intRow ns)), (5, .own 0 0 i.2.length), (6, .int .i64 i.1)] [(0, rowOf i.2)] 1

noncomputable def sameISp := fam (fun i : Nat × Nat × List Int × List Int => [V.sl i.1 1 (intRow i.2.2.1), .sl i.2.1 1 (intRow i.2.2.2)]) (fun _ => []) (fun i => i.2.2.1.length ≤ 9223372036854775807) (fun i => ⟨.bool (decide (i.2.2.1 = i.2.2.2)), []⟩)
@[simp] theorem sameISp_eq {t u : Nat} {l m : List Int} (h : l.length ≤ 9223372036854775807) : sameISp [V.sl t 1 (intRow l), .sl u 1 (intRow m)] [] = some ⟨.bool (decide (l = m)), []⟩ :=
  fam_eq (A := fun i : Nat × Nat × List Int × List Int => [V.sl i.1 1 (intRow i.2.2.1), .sl i.2.1 1 (intRow i.2.2.2)]) (fun i j h _ => by simp at h; rw [h.1.2, h.2.2]) (t, u, l, m) h

def siSt (t u : Nat) (l m : List Int) (i : Nat) : St :=
  mkSt [(0, .sl t 1 (intRow l)), (1, .sl u 1 (intRow m)), (5, .int .i64 i)] [] 0

noncomputable def C8 := mkC [(12, sameSp)]
theorem C8_ok : SpecsOk Try.prog C8 := mkC_ok (all_cons same_spec all_nil)
@[simp] theorem C8_1 : C8 12 = sameSp := rfl

theorem intsSp_nil {t u : Nat} {ns : List Int} (h : (ns.length : Int) ≤ 1048576) (h2 : ∀ x ∈ ns, In64 x) : intsSp [V.sl t 1 [], .sl u 1 (intRow ns)] [] = some ⟨.own 0 0 (intsL [] ns).length, [rowOf (intsL [] ns)]⟩ :=
  intsSp_eq (t := t) (l := []) (by simp; omega) h2

theorem enc_prefix {a b : Int} (ha : In64 a) (hb : In64 b) {x y : List UInt8} (h : enc (code a) ++ x = enc (code b) ++ y) : a = b ∧ x = y := by
  have h1 := takeT_enc ha x
  have h2 := takeT_enc hb y
  rw [h, h2] at h1
  simp only [Prod.mk.injEq] at h1
  have e := h1.1.symm
  subst e
  exact ⟨rfl, List.append_cancel_left h⟩
theorem intsB_inj : ∀ {a b : List Int}, (∀ x ∈ a, In64 x) → (∀ x ∈ b, In64 x) → a.length = b.length → intsB a = intsB b → a = b
  | [], [], _, _, _, _ => rfl
  | x :: a, y :: b, ha, hb, hl, h => by
    have e : ∀ (x : Int) (l : List Int), intsB (x :: l) = enc (code x) ++ intsB l := fun _ _ => rfl
    rw [e, e] at h
    obtain ⟨h1, h2⟩ := enc_prefix (ha x (List.mem_cons_self ..)) (hb y (List.mem_cons_self ..)) h
    rw [h1, intsB_inj (fun x hx => ha x (List.mem_cons_of_mem _ hx)) (fun x hx => hb x (List.mem_cons_of_mem _ hx)) (by simpa using hl) h2]
  | [], _ :: _, _, _, hl, _ => by simp at hl
  | _ :: _, [], _, _, hl, _ => by simp at hl
theorem intsL_inj {a b : List Int} (ha : ∀ x ∈ a, In64 x) (hb : ∀ x ∈ b, In64 x) (hla : a.length ≤ 1048576) (hlb : b.length ≤ 1048576) : intsL [] a = intsL [] b ↔ a = b := by
  refine ⟨fun h => ?_, fun h => by rw [h]⟩
  simp only [intsL, List.nil_append] at h
  obtain ⟨h1, h2⟩ := enc_prefix (by unfold In64; omega) (by unfold In64; omega) h
  exact intsB_inj ha hb (by omega) h2

noncomputable def alikeSp := fam (fun i : Nat × Nat × List Int × List Int => [V.sl i.1 1 (intRow i.2.2.1), .sl i.2.1 1 (intRow i.2.2.2)]) (fun _ => []) (fun i => (i.2.2.1.length ≤ 1048576 ∧ ∀ x ∈ i.2.2.1, In64 x) ∧ (i.2.2.2.length ≤ 1048576 ∧ ∀ x ∈ i.2.2.2, In64 x)) (fun _ => ⟨.bool true, []⟩)
@[simp] theorem alikeSp_eq {t u : Nat} {l m : List Int} (h1 : l.length ≤ 1048576) (h2 : ∀ x ∈ l, In64 x) (h3 : m.length ≤ 1048576) (h4 : ∀ x ∈ m, In64 x) : alikeSp [V.sl t 1 (intRow l), .sl u 1 (intRow m)] [] = some ⟨.bool true, []⟩ :=
  fam_eq (A := fun i : Nat × Nat × List Int × List Int => [V.sl i.1 1 (intRow i.2.2.1), .sl i.2.1 1 (intRow i.2.2.2)]) (fun _ _ _ _ => rfl) (t, u, l, m) ⟨⟨h1, h2⟩, h3, h4⟩
end Go.Proofs.Ytgnfgcpolbcaoaa
