/-
  States at the head of a loop, written out.
-/
import Derived.Test.YtgnfgcpolbcaoaaL21
namespace Go.Lift

def getS : List (Nat × V) → Nat → V
  | [], _ => .junk
  | (m, v) :: r, n => if n = m then v else getS r n
def getG : List (Nat × AObj) → Nat → Option AObj
  | [], _ => none
  | (m, o) :: r, n => if n = m then some o else getG r n
def mkSt (sl : List (Nat × V)) (ob : List (Nat × AObj)) (c : Nat) : St := { s := getS sl, g := getG ob, c := c }

theorem getS_mem : ∀ {sl : List (Nat × V)} {n : Nat}, getS sl n = .junk ∨ (n, getS sl n) ∈ sl
  | [], n => .inl rfl
  | (m, v) :: r, n => by
    simp only [getS]
    split
    · rename_i e; subst e; exact .inr (List.mem_cons_self ..)
    · exact getS_mem.imp id (List.mem_cons_of_mem _)
theorem getG_mem : ∀ {ob : List (Nat × AObj)} {n : Nat} {o : AObj}, getG ob n = some o → (n, o) ∈ ob
  | [], n, o, h => by cases h
  | (m, v) :: r, n, o, h => by
    simp only [getG] at h
    split at h
    · rename_i e; subst e; cases h; exact List.mem_cons_self ..
    · exact List.mem_cons_of_mem _ (getG_mem h)

theorem weak_mk {k : Nat} {st : St} {sl : List (Nat × V)} {ob : List (Nat × AObj)} {c : Nat} (f : Nat → Nat) (hs : ∀ p ∈ sl, st.s p.1 = p.2.ren f ∧ p.2.within (fun n => (getG ob n).isSome) = true)
    (hg : ∀ p ∈ ob, st.g (f p.1) = some (p.2.ren f) ∧ p.2.within (fun n => (getG ob n).isSome) = true) (hinj : ∀ p ∈ ob, ∀ q ∈ ob, f p.1 = f q.1 → p.1 = q.1) (hfix : ∀ n, n < k → f n = n ∧ (getG ob n).isSome = true) : Weak k st (mkSt sl ob c) := by
  refine weak_ren f (fun n => ?_) (fun n o h => (hg _ (getG_mem h)).1) (fun n m o o' h1 h2 he => hinj _ (getG_mem h1) _ (getG_mem h2) he) (fun n o h => (hg _ (getG_mem h)).2) hfix
  rcases getS_mem (sl := sl) (n := n) with h | h
  · exact .inl h
  · exact .inr (hs _ h)

attribute [simp] mkSt getS getG V.within V.within.withinAll AObj.within

/-- The nil slice in a slot becomes an object's slice; then the state is written out. -/
theorem weak_nil_mk {st : St} (i n : Nat) {sz : Nat} (o : AObj) {sl : List (Nat × V)} {ob : List (Nat × AObj)} {c : Nat} (f : Nat → Nat) (hi : st.s i = .sl 0 sz []) (hn : st.g n = none) (he : o.elems = [])
    (hs : ∀ p ∈ sl, upd st.s i (.own n 0 0) p.1 = p.2.ren f ∧ p.2.within (fun n => (getG ob n).isSome) = true)
    (hg : ∀ p ∈ ob, upd st.g n (some o) (f p.1) = some (p.2.ren f) ∧ p.2.within (fun n => (getG ob n).isSome) = true) (hinj : ∀ p ∈ ob, ∀ q ∈ ob, f p.1 = f q.1 → p.1 = q.1) : Weak 0 st (mkSt sl ob c) :=
  (weak_nil i n o hi hn he).trans (weak_mk f hs hg hinj (fun n h => absurd h (by omega)))

def nth (l : List Nat) (i : Nat) : Nat := l.getD i i
def objsAt (f : Nat → Nat) (st : St) : Nat → List AObj → Prop
  | _, [] => True
  | i, o :: os => st.g (f i) = some (o.ren f) ∧ objsAt f st (i + 1) os
theorem objsAt_get {f : Nat → Nat} {st : St} : ∀ {os : List AObj} {i : Nat}, objsAt f st i os → ∀ (j : Nat) (o : AObj), os[j]? = some o → st.g (f (i + j)) = some (o.ren f)
  | [], i, _, j, o, h => by simp at h
  | a :: os, i, hh, 0, o, h => by simp at h; subst h; exact hh.1
  | a :: os, i, hh, j + 1, o, h => by
    have := objsAt_get hh.2 j o (by simpa using h)
    rw [show i + 1 + j = i + (j + 1) by omega] at this
    exact this
theorem ret_mk {T : TypeId → Option TI} {res : List ResultVar} {k : Nat} {e : Exit} {st : St} {v : V} {os : List AObj} (f : Nat → Nat) (he : isEnd e = true) (hv : retV T st res = some (v.ren f)) (ho : objsAt f st 0 os) (hk : k ≤ os.length) (hfix : ∀ j, j < k → f j = j)
    (hinj : ∀ i, i < os.length → ∀ j, j < os.length → f i = f j → i = j) (hw : v.within (fun j => decide (j < os.length)) = true) (hws : ∀ o ∈ os, o.within (fun j => decide (j < os.length)) = true) : Ret T res ⟨v, os⟩ k e st :=
  Ret0.ret ⟨by cases e <;> simp [isEnd] at he <;> trivial, hk, f, hfix, fun i j hi hj => hinj i hi j hj, hv, fun j o h => by simpa using objsAt_get ho j o h, hw, hws⟩
attribute [simp] nth objsAt
end Go.Lift
