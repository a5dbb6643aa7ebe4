/-
  Specifications as families of arguments; a table of them; what a run comes to, step by step.
-/
import Derived.Test.YtgnfgcpolbcaoaaL22
namespace Go.Lift

variable {P : Program} {T : TypeId → Option TI} {C : FuncId → List V → List AObj → Option CRes}

open Classical in
/-- What a function answers, for a family of arguments and objects. -/
noncomputable def fam {ι : Type} (A : ι → List V) (O : ι → List AObj) (ok : ι → Prop) (res : ι → CRes) : List V → List AObj → Option CRes :=
  fun args objs => if h : ∃ i, ok i ∧ A i = args ∧ O i = objs then some (res h.choose) else none

theorem fam_some {ι : Type} {A : ι → List V} {O : ι → List AObj} {ok : ι → Prop} {res : ι → CRes} {args : List V} {objs : List AObj} {r : CRes} (h : fam A O ok res args objs = some r) : ∃ i, ok i ∧ A i = args ∧ O i = objs ∧ res i = r := by
  unfold fam at h
  split at h
  · rename_i hc
    cases h
    exact ⟨hc.choose, hc.choose_spec.1, hc.choose_spec.2.1, hc.choose_spec.2.2, rfl⟩
  · cases h

theorem fam_eq {ι : Type} {A : ι → List V} {O : ι → List AObj} {ok : ι → Prop} {res : ι → CRes} (hinj : ∀ i j, A i = A j → O i = O j → res i = res j) (i : ι) (h : ok i) : fam A O ok res (A i) (O i) = some (res i) := by
  unfold fam
  have hc : ∃ j, ok j ∧ A j = A i ∧ O j = O i := ⟨i, h, rfl, rfl⟩
  rw [dif_pos hc]
  exact congrArg some (hinj _ _ hc.choose_spec.2.1 hc.choose_spec.2.2)

theorem fam_none {ι : Type} {A : ι → List V} {O : ι → List AObj} {ok : ι → Prop} {res : ι → CRes} {args : List V} {objs : List AObj} (h : ∀ i, A i = args → O i = objs → False) : fam A O ok res args objs = none := by
  unfold fam
  rw [dif_neg]
  rintro ⟨i, _, h1, h2⟩
  exact h i h1 h2

theorem spec_fam (hT : TypesOk P T) (hC : SpecsOk P C) (hm : P.follows .mixedOrders = true) {f : FuncId} {fn : Func} {c : Code} (hf : P.funcs[f]? = some fn) (hname : (fn.name == "runtime.NumGoroutine") = false) (hb : fn.body = some c) (hd : dstOk fn.ntmps c = true)
    {ι : Type} {A : ι → List V} {O : ι → List AObj} {ok : ι → Prop} {res : ι → CRes} {n : Nat} (hn : fn.ntmps = n) (h : ∀ i, ok i → (A i).length ≤ n ∧ ∀ r, r = res i → axwp T C (O i).length c (Ret T fn.results.toList r (O i).length) (initSt (A i) (O i))) : Spec P f (fam A O ok res) := by
  refine spec_of hT hC hm hf hname hb hd fun args objs r hr => ?_
  obtain ⟨i, h1, rfl, rfl, rfl⟩ := fam_some hr
  rw [hn]
  exact ⟨(h i h1).1, (h i h1).2 _ rfl⟩

/-- A table of specifications. -/
def mkC : List (FuncId × (List V → List AObj → Option CRes)) → FuncId → List V → List AObj → Option CRes
  | [], _ => fun _ _ => none
  | (f, sp) :: r, g => if g = f then sp else mkC r g
@[simp] theorem mkC_cons (f : FuncId) (sp : List V → List AObj → Option CRes) (r : List (FuncId × (List V → List AObj → Option CRes))) (g : FuncId) : mkC ((f, sp) :: r) g = if g = f then sp else mkC r g := rfl

theorem mkC_ok : ∀ {l : List (FuncId × (List V → List AObj → Option CRes))}, (∀ p ∈ l, Spec P p.1 p.2) → SpecsOk P (mkC l)
  | [], _ => fun f ⟨a, o, r, h⟩ => by cases h
  | (f, sp) :: r, hl => fun g hg => by
    show Spec P g (if g = f then sp else mkC r g)
    by_cases e : g = f
    · subst e; rw [if_pos rfl]; exact hl _ (List.mem_cons_self ..)
    · rw [if_neg e]
      refine mkC_ok (fun p hp => hl p (List.mem_cons_of_mem _ hp)) g ?_
      obtain ⟨a, o, x, h⟩ := hg
      have h' : (if g = f then sp else mkC r g) a o = some x := h
      rw [if_neg e] at h'
      exact ⟨a, o, x, h'⟩
theorem all_nil {α : Type} {p : α → Prop} : ∀ x ∈ ([] : List α), p x := fun _ h => by cases h
theorem all_cons {α : Type} {p : α → Prop} {a : α} {l : List α} (h : p a) (hl : ∀ x ∈ l, p x) : ∀ x ∈ a :: l, p x := fun x hx => by
  rcases List.mem_cons.1 hx with rfl | hx
  · exact h
  · exact hl x hx

theorem byteRow_inj {a b : List UInt8} (h : byteRow a = byteRow b) : a = b := by
  have := congrArg asBytes h
  simpa using this
theorem intRow_inj {a b : List Int} (h : intRow a = intRow b) : a = b := by
  have := congrArg asInts h
  simpa using this
@[simp] theorem byteRow_eq {a b : List UInt8} : byteRow a = byteRow b ↔ a = b := ⟨byteRow_inj, fun h => by rw [h]⟩
@[simp] theorem intRow_eq {a b : List Int} : intRow a = intRow b ↔ a = b := ⟨intRow_inj, fun h => by rw [h]⟩
@[simp] theorem byteRow_nil : byteRow [] = [] := rfl
@[simp] theorem intRow_nil : intRow [] = [] := rfl

/-- The name in a value. -/
def nmOf : V → Nat
  | .own nm _ _ => nm
  | .ptr nm _ _ => nm
  | _ => 0
@[simp] theorem nmOf_own (a b c : Nat) : nmOf (.own a b c) = a := rfl
@[simp] theorem nmOf_ptr (a b c : Nat) : nmOf (.ptr a b c) = a := rfl
/-- Names that are read off a state: 'sum n' stands for the name in slot n, other numbers for themselves. -/
def namesIn (st : St) (l : List (Nat ⊕ Nat)) (i : Nat) : Nat := match l[i]? with
  | some (.inl n) => n
  | some (.inr s) => nmOf (st.s s)
  | none => i
theorem weak_at {k : Nat} {st : St} {sl : List (Nat × V)} {ob : List (Nat × AObj)} {c : Nat} (l : List (Nat ⊕ Nat)) (hs : ∀ p ∈ sl, st.s p.1 = p.2.ren (namesIn st l) ∧ p.2.within (fun n => (getG ob n).isSome) = true)
    (hg : ∀ p ∈ ob, st.g (namesIn st l p.1) = some (p.2.ren (namesIn st l)) ∧ p.2.within (fun n => (getG ob n).isSome) = true) (hinj : ∀ p ∈ ob, ∀ q ∈ ob, namesIn st l p.1 = namesIn st l q.1 → p.1 = q.1) (hfix : ∀ n, n < k → namesIn st l n = n ∧ (getG ob n).isSome = true) : Weak k st (mkSt sl ob c) :=
  weak_mk (namesIn st l) hs hg hinj hfix
def neFrom (f : Nat → Nat) (a : Nat) : Nat → List AObj → Prop
  | _, [] => True
  | i, _ :: os => a ≠ f i ∧ neFrom f a (i + 1) os
def injL (f : Nat → Nat) : Nat → List AObj → Prop
  | _, [] => True
  | i, _ :: os => neFrom f (f i) (i + 1) os ∧ injL f (i + 1) os
theorem neFrom_spec {f : Nat → Nat} {a : Nat} : ∀ {os : List AObj} {i : Nat}, neFrom f a i os → ∀ j, j < os.length → a ≠ f (i + j)
  | [], i, _, j, h => by simp at h
  | o :: os, i, hh, 0, h => hh.1
  | o :: os, i, hh, j + 1, h => by
    have := neFrom_spec hh.2 j (by simpa using h)
    rw [show i + 1 + j = i + (j + 1) by omega] at this
    exact this
theorem injL_spec {f : Nat → Nat} : ∀ {os : List AObj} {k : Nat}, injL f k os → ∀ i, i < os.length → ∀ j, j < os.length → f (k + i) = f (k + j) → i = j
  | [], k, _, i, h => by simp at h
  | o :: os, k, hh, 0, _ => fun j hj he => by
    cases j with
    | zero => rfl
    | succ j =>
      refine absurd he ?_
      have := neFrom_spec hh.1 j (by simpa using hj)
      rw [show k + 1 + j = k + (j + 1) by omega] at this
      exact this
  | o :: os, k, hh, i + 1, hi => fun j hj he => by
    cases j with
    | zero =>
      refine absurd he.symm ?_
      have := neFrom_spec hh.1 i (by simpa using hi)
      rw [show k + 1 + i = k + (i + 1) by omega] at this
      exact this
    | succ j =>
      rw [show k + (i + 1) = k + 1 + i by omega, show k + (j + 1) = k + 1 + j by omega] at he
      exact congrArg (· + 1) (injL_spec hh.2 i (by simpa using hi) j (by simpa using hj) he)
theorem ret_at {T : TypeId → Option TI} {res : List ResultVar} {k : Nat} {e : Exit} {st : St} {v : V} {os : List AObj} (l : List (Nat ⊕ Nat)) (he : isEnd e = true) (hv : retV T st res = some (v.ren (namesIn st l))) (ho : objsAt (namesIn st l) st 0 os) (hk : k ≤ os.length) (hfix : ∀ j, j < k → namesIn st l j = j)
    (hinj : injL (namesIn st l) 0 os) (hw : v.within (fun j => decide (j < os.length)) = true) (hws : ∀ o ∈ os, o.within (fun j => decide (j < os.length)) = true) : Ret T res ⟨v, os⟩ k e st :=
  ret_mk (namesIn st l) he hv ho hk hfix (fun i hi j hj he => injL_spec hinj i hi j hj (by simpa using he)) hw hws
attribute [simp] neFrom injL
attribute [simp] namesIn

/-- A term that nothing reduces: for constants that would be evaluated in vain. -/
noncomputable def hush {α : Type} (a : α) : α := Classical.choose (⟨a, rfl⟩ : ∃ b, b = a)
theorem hush_eq {α : Type} (a : α) : hush a = a := Classical.choose_spec (⟨a, rfl⟩ : ∃ b, b = a)
end Go.Lift
