/-
  Plain data for Go values, and what it means that a Go value reads as such data in a world.
-/
import Derived.Deep.Quiet
import Derived.RowKit3
import Derived.Laws.OwnMore
namespace Go.Lift

/-- Data. 'sl': a slice that nobody writes any more (tag 0: nil, 1: not nil, and its capacity is its length, 2: neither is known, 3: its capacity is its length; 4: not nil); 'own': a slice of an object of this frame; 'ptr': an address in such an object; 'pp': an address of cells that nobody writes any more; 'anyB': true or false. -/
inductive V where
  | junk
  | int (k : IntKind) (n : Int)
  | bool (b : Bool)
  | str (s : ByteArray)
  | sl (tag es : Nat) (elems : List (List V))
  | own (nm off n : Nat)
  | ptr (nm i j : Nat)
  | pp (cells : List V)
  | pnil
  | agg (cells : List V)
  | tup (vs : List V)
  | fn (f : FuncId)
  | anyB
  deriving Inhabited

structure GI where
  blk : Nat
  cap : Nat
  es : Nat
  nil : Bool

def cellAt (elems : List (List V)) (i j : Nat) : Option V := (elems[i]?).bind (·[j]?)

def noG : Nat → Option GI := fun _ => none

/-- Data of one cell that may be stored. -/
def V.cellular : V → Bool
  | .junk | .agg _ | .tup _ => false
  | _ => true

inductive Rd (w : World) (I : Nat → Prop) : (Nat → Option GI) → V → Value → Prop
  | junk (γ v) : Rd w I γ .junk v
  | int (γ k n) : Rd w I γ (.int k n) (.int k n)
  | bool (γ b) : Rd w I γ (.bool b) (.bool b)
  | str (γ s) : Rd w I γ (.str s) (.string s)
  | nil (γ) (tag es : Nat) (h : tag ≠ 1 ∧ tag ≠ 4) : Rd w I γ (.sl tag es []) (.slice none 0 0)
  | sl (γ) (tag es : Nat) (elems : List (List V)) (a : Addr) (n c : Nat) (xs : Nat → Nat → Value)
      (h0 : tag ≠ 0) (h1 : tag = 1 ∨ tag = 3 → c = n) (hlen : elems.length = n) (hnc : n ≤ c) (hcm : c ≤ maxLen)
      (hes : ∀ e ∈ elems, e.length = es) (hcel : ∀ i j u, cellAt elems i j = some u → u.cellular = true)
      (hc : ∀ i j u, cellAt elems i j = some u → I a.block ∧ w.cell? (a.add (i * es + j)) = some (xs i j))
      (hr : ∀ i j u, cellAt elems i j = some u → Rd w I noG u (xs i j)) : Rd w I γ (.sl tag es elems) (.slice (some a) n c)
  | own (γ) (nm off n c o : Nat) (gi : GI) (hγ : γ nm = some gi) (hnn : gi.nil = false) (hcap : off + c = gi.cap) (hn : n ≤ c) (hcm : c ≤ maxLen) (ho : c ≠ 0 → o = off * gi.es) :
      Rd w I γ (.own nm off n) (.slice (some ⟨gi.blk, o, none⟩) n c)
  | ownnil (γ) (nm : Nat) (A : Option Addr) (gi : GI) (hγ : γ nm = some gi) (hnn : gi.nil = true) : Rd w I γ (.own nm 0 0) (.slice A 0 0)
  | ptr (γ) (nm i j : Nat) (gi : GI) (hγ : γ nm = some gi) (hnn : gi.nil = false) : Rd w I γ (.ptr nm i j) (.pointer (some ⟨gi.blk, i * gi.es + j, none⟩))
  | pp (γ) (cells : List V) (a : Addr) (xs : Nat → Value)
      (hc : ∀ (j : Nat) (u : V), cells[j]? = some u → I a.block ∧ w.cell? (a.add j) = some (xs j))
      (hr : ∀ (j : Nat) (u : V), cells[j]? = some u → Rd w I noG u (xs j)) : Rd w I γ (.pp cells) (.pointer (some a))
  | pnil (γ) : Rd w I γ .pnil (.pointer none)
  | agg (γ) (cells : List V) (xs : Array Value) (hl : cells.length = xs.size)
      (hr : ∀ (j : Nat) (u : V) (x : Value), cells[j]? = some u → xs[j]? = some x → Rd w I γ u x) : Rd w I γ (.agg cells) (.agg xs)
  | tup (γ) (cells : List V) (xs : Array Value) (hl : cells.length = xs.size)
      (hr : ∀ (j : Nat) (u : V) (x : Value), cells[j]? = some u → xs[j]? = some x → Rd w I γ u x) : Rd w I γ (.tup cells) (.tuple xs)
  | fn (γ f) : Rd w I γ (.fn f) (.func (.func f) #[] #[])
  | anyB (γ b) : Rd w I γ .anyB (.bool b)

theorem Rd.mono {w w' : World} {I I' : Nat → Prop} {γ : Nat → Option GI} {v : V} {x : Value} (h : Rd w I γ v x)
    (hI : ∀ b, I b → I' b ∧ w'.heap[b]? = w.heap[b]?) : ∀ {γ'}, (∀ nm gi, γ nm = some gi → γ' nm = some gi) → Rd w' I' γ' v x := by
  induction h with
  | junk => intro _ _; exact .junk _ _
  | int => intro _ _; exact .int _ _ _
  | bool => intro _ _; exact .bool _ _
  | str => intro _ _; exact .str _ _
  | nil _ t es h => intro _ _; exact .nil _ t es h
  | sl _ tag es elems a n c xs h0 h1 hlen hnc hcm hes hcel hc hr ih =>
    intro _ _
    exact .sl _ tag es elems a n c xs h0 h1 hlen hnc hcm hes hcel (fun i j u hu => by
      obtain ⟨hb, hcell⟩ := hc i j u hu
      refine ⟨(hI _ hb).1, ?_⟩
      rw [World.cell?_of_block (w := w)]
      · exact hcell
      · have : (a.add (i * es + j)).block = a.block := by unfold Addr.add; split <;> rfl
        rw [this]; exact (hI _ hb).2) (fun i j u hu => ih i j u hu (fun _ _ h => h))
  | own _ nm off n c o gi hγ hnn hcap hn hcm ho => intro _ hg; exact .own _ nm off n c o gi (hg _ _ hγ) hnn hcap hn hcm ho
  | ownnil _ nm A gi hγ hnn => intro _ hg; exact .ownnil _ nm A gi (hg _ _ hγ) hnn
  | ptr _ nm i j gi hγ hnn => intro _ hg; exact .ptr _ nm i j gi (hg _ _ hγ) hnn
  | pp _ cells a xs hc hr ih =>
    intro _ _
    exact .pp _ cells a xs (fun j u hu => by
      obtain ⟨hb, hcell⟩ := hc j u hu
      refine ⟨(hI _ hb).1, ?_⟩
      rw [World.cell?_of_block (w := w)]
      · exact hcell
      · have : (a.add j).block = a.block := by unfold Addr.add; split <;> rfl
        rw [this]; exact (hI _ hb).2) (fun j u hu => ih j u hu (fun _ _ h => h))
  | pnil => intro _ _; exact .pnil _
  | agg _ cells xs hl hr ih => intro _ hg; exact .agg _ cells xs hl (fun j u x hu hx => ih j u x hu hx hg)
  | tup _ cells xs hl hr ih => intro _ hg; exact .tup _ cells xs hl (fun j u x hu hx => ih j u x hu hx hg)
  | fn => intro _ _; exact .fn _ _
  | anyB => intro _ _; exact .anyB _ _

/-- No name of an object of the frame stands in it. -/
def V.closed : V → Bool
  | .own .. | .ptr .. => false
  | .agg cs | .tup cs => closedAll cs
  | _ => true
where closedAll : List V → Bool
  | [] => true
  | c :: cs => c.closed && closedAll cs

/-- It holds no memory but what the frame owns. -/
def V.scalar : V → Bool
  | .sl _ _ (_ :: _) | .pp _ => false
  | .agg cs | .tup cs => scalarAll cs
  | _ => true
where scalarAll : List V → Bool
  | [] => true
  | c :: cs => c.scalar && scalarAll cs

theorem V.closedAll_get : ∀ {cs : List V}, V.closed.closedAll cs = true → ∀ (j : Nat) (u : V), cs[j]? = some u → u.closed = true
  | [], _, j, u, h => by simp at h
  | c :: cs, hc, j, u, h => by
    simp only [V.closed.closedAll, Bool.and_eq_true] at hc
    cases j with
    | zero => simp at h; subst h; exact hc.1
    | succ j => exact V.closedAll_get hc.2 j u (by simpa using h)
theorem V.scalarAll_get : ∀ {cs : List V}, V.scalar.scalarAll cs = true → ∀ (j : Nat) (u : V), cs[j]? = some u → u.scalar = true
  | [], _, j, u, h => by simp at h
  | c :: cs, hc, j, u, h => by
    simp only [V.scalar.scalarAll, Bool.and_eq_true] at hc
    cases j with
    | zero => simp at h; subst h; exact hc.1
    | succ j => exact V.scalarAll_get hc.2 j u (by simpa using h)

/-- Closed data read alike under every naming. -/
theorem Rd.closed {w : World} {I : Nat → Prop} {γ : Nat → Option GI} {v : V} {x : Value} (h : Rd w I γ v x) : v.closed = true → ∀ γ', Rd w I γ' v x := by
  induction h with
  | junk => intros; exact .junk _ _
  | int => intros; exact .int _ _ _
  | bool => intros; exact .bool _ _
  | str => intros; exact .str _ _
  | nil _ t es h => intros; exact .nil _ t es h
  | sl _ tag es elems a n c xs h0 h1 hlen hnc hcm hes hcel hc hr ih => intros; exact .sl _ tag es elems a n c xs h0 h1 hlen hnc hcm hes hcel hc hr
  | own => intro h; simp [V.closed] at h
  | ownnil => intro h; simp [V.closed] at h
  | ptr => intro h; simp [V.closed] at h
  | pp _ cells a xs hc hr ih => intros; exact .pp _ cells a xs hc hr
  | pnil => intros; exact .pnil _
  | agg _ cells xs hl hr ih => intro h γ'; exact .agg _ cells xs hl (fun j u x hu hx => ih j u x hu hx (V.closedAll_get h j u hu) γ')
  | tup _ cells xs hl hr ih => intro h γ'; exact .tup _ cells xs hl (fun j u x hu hx => ih j u x hu hx (V.closedAll_get h j u hu) γ')
  | fn => intros; exact .fn _ _
  | anyB => intros; exact .anyB _ _

/-- Scalar data read alike whatever is written. -/
theorem Rd.scalar {w : World} {I : Nat → Prop} {γ : Nat → Option GI} {v : V} {x : Value} (h : Rd w I γ v x) : v.scalar = true → ∀ w' I', Rd w' I' γ v x := by
  induction h with
  | junk => intros; exact .junk _ _
  | int => intros; exact .int _ _ _
  | bool => intros; exact .bool _ _
  | str => intros; exact .str _ _
  | nil _ t es h => intros; exact .nil _ t es h
  | sl _ tag es elems a n c xs h0 h1 hlen hnc hcm hes hcel hc hr ih =>
    intro h _ _
    cases elems with
    | nil => exact .sl _ tag es [] a n c xs h0 h1 hlen hnc hcm hes hcel (fun i j u hu => by simp [cellAt] at hu) (fun i j u hu => by simp [cellAt] at hu)
    | cons e es => simp [V.scalar] at h
  | own _ nm off n c o gi hγ hnn hcap hn hcm ho => intros; exact .own _ nm off n c o gi hγ hnn hcap hn hcm ho
  | ownnil _ nm A gi hγ hnn => intros; exact .ownnil _ nm A gi hγ hnn
  | ptr _ nm i j gi hγ hnn => intros; exact .ptr _ nm i j gi hγ hnn
  | pp _ cells a xs hc hr ih => intro h; simp [V.scalar] at h
  | pnil => intros; exact .pnil _
  | agg _ cells xs hl hr ih => intro h w' I'; exact .agg _ cells xs hl (fun j u x hu hx => ih j u x hu hx (V.scalarAll_get h j u hu) w' I')
  | tup _ cells xs hl hr ih => intro h w' I'; exact .tup _ cells xs hl (fun j u x hu hx => ih j u x hu hx (V.scalarAll_get h j u hu) w' I')
  | fn => intros; exact .fn _ _
  | anyB => intros; exact .anyB _ _

/-- What is read under no names is closed. -/
theorem Rd.closed_of_noG {w : World} {I : Nat → Prop} {γ : Nat → Option GI} {v : V} {x : Value} (h : Rd w I γ v x) : γ = noG → v.closed = true := by
  induction h with
  | own _ nm off n c o gi hγ => intro e; subst e; cases hγ
  | ownnil _ nm A gi hγ => intro e; subst e; cases hγ
  | ptr _ nm i j gi hγ => intro e; subst e; cases hγ
  | agg _ cells xs hl hr ih =>
    intro e
    have key : ∀ (cs : List V), (∀ (j : Nat) (u : V), cs[j]? = some u → u.closed = true) → V.closed.closedAll cs = true := by
      intro cs
      induction cs with
      | nil => intro _; rfl
      | cons c cs ihc => intro h; simp only [V.closed.closedAll, Bool.and_eq_true]; exact ⟨h 0 c rfl, ihc fun j u hu => h (j + 1) u (by simpa using hu)⟩
    refine key cells fun j u hu => ?_
    have hlt : j < xs.size := by rw [← hl]; exact (List.getElem?_eq_some_iff.1 hu).1
    exact ih j u xs[j] hu (Array.getElem?_eq_getElem hlt) e
  | tup _ cells xs hl hr ih =>
    intro e
    have key : ∀ (cs : List V), (∀ (j : Nat) (u : V), cs[j]? = some u → u.closed = true) → V.closed.closedAll cs = true := by
      intro cs
      induction cs with
      | nil => intro _; rfl
      | cons c cs ihc => intro h; simp only [V.closed.closedAll, Bool.and_eq_true]; exact ⟨h 0 c rfl, ihc fun j u hu => h (j + 1) u (by simpa using hu)⟩
    refine key cells fun j u hu => ?_
    have hlt : j < xs.size := by rw [← hl]; exact (List.getElem?_eq_some_iff.1 hu).1
    exact ih j u xs[j] hu (Array.getElem?_eq_getElem hlt) e
  | _ => intros; rfl

theorem Rd.oneCell {w : World} {I : Nat → Prop} {γ : Nat → Option GI} {v : V} {x : Value} (h : Rd w I γ v x) (hc : v.cellular = true) : (∀ c, x ≠ .agg c) ∧ (∀ c, x ≠ .tuple c) := by
  cases h <;> simp [V.cellular] at hc <;> exact ⟨(fun _ h => by cases h), (fun _ h => by cases h)⟩

#print axioms Rd.mono
end Go.Lift
