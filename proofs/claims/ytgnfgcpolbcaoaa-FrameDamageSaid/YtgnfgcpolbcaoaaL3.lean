/-
  What ties the data of a frame to a world; how it is kept when a block is made, written, or grows.
-/
import Derived.Test.YtgnfgcpolbcaoaaL2
namespace Go.Lift

def gUp (γ : Nat → Option GI) (nm : Nat) (gi : GI) : Nat → Option GI := fun n => if n = nm then some gi else γ n

structure ObjAt (w : World) (I : Nat → Prop) (γ : Nat → Option GI) (o : AObj) (gi : GI) (cur : Array Value) (fr : Nat × Nat) : Prop where
  nn : gi.nil = false
  es : gi.es = o.es
  heap : w.heap[gi.blk]? = some (.cells cur o.et fr)
  frz : fr.2 ≤ fr.1 ∨ cur.size ≤ fr.1
  size : cur.size = gi.cap * gi.es
  le : o.elems.length ≤ gi.cap
  tight : o.tight = true → o.elems.length = gi.cap
  max : gi.cap ≤ maxLen
  cells : ∀ i j u, cellAt o.elems i j = some u → ∃ x, cur[i * o.es + j]? = some x ∧ Rd w I γ u x
  ro : o.md = .ro → I gi.blk
  rw : o.md = .rw → ¬ I gi.blk

structure ObjOk (w : World) (I : Nat → Prop) (γ : Nat → Option GI) (nm : Nat) (o : AObj) : Prop where
  rows : ∀ e ∈ o.elems, e.length = o.es
  cel : ∀ i j u, cellAt o.elems i j = some u → u.cellular = true
  closed : o.fl ≠ 0 → ∀ i j u, cellAt o.elems i j = some u → u.closed = true
  scalar : 2 ≤ o.fl → ∀ i j u, cellAt o.elems i j = some u → u.scalar = true
  at_ : (o.elems = [] ∧ ∃ gi, γ nm = some gi ∧ gi.nil = true) ∨ ∃ gi cur fr, γ nm = some gi ∧ ObjAt w I γ o gi cur fr

/-- What a call may write besides its own, and what it was handed to read. -/
structure Ex where
  wr : Nat → Prop
  rd : Nat → Prop
  fix : Nat → Option GI

structure Inv (w0 : World) (ex : Ex) (I : Nat → Prop) (γ : Nat → Option GI) (g : Nat → Option AObj) (w : World) : Prop where
  obj : ∀ n o, g n = some o → o.md ≠ .dead → ObjOk w I γ n o
  inj : ∀ n m o o' gi gi', g n = some o → g m = some o' → o.md ≠ .dead → o'.md ≠ .dead → γ n = some gi → γ m = some gi' → gi.nil = false → gi'.nil = false → gi.blk = gi'.blk → n = m
  own : ∀ n o gi, g n = some o → o.md ≠ .dead → γ n = some gi → gi.nil = false → w0.heap.size ≤ gi.blk ∨ ex.wr gi.blk
  dom : ∀ n gi, γ n = some gi → g n ≠ none
  lt : ∀ b, I b → b < w.heap.size
  keep : ∀ b, ex.rd b → I b
  fix : ∀ n gi, ex.fix n = some gi → γ n = some gi
  back : ∀ b, I b → ex.rd b ∨ w0.heap.size ≤ b ∨ ex.wr b
  frame : ∀ b, b < w0.heap.size → ¬ ex.wr b → w.heap[b]? = w0.heap[b]?
  os : w.os = w0.os
  tape : w.tape = w0.tape
  output : w.output = w0.output
  size : w0.heap.size ≤ w.heap.size

/-- What was read before is read behind. -/
structure Ext (I : Nat → Prop) (γ : Nat → Option GI) (w : World) (I' : Nat → Prop) (γ' : Nat → Option GI) (w' : World) : Prop where
  imm : ∀ b, I b → I' b ∧ w'.heap[b]? = w.heap[b]?
  nam : ∀ nm gi, γ nm = some gi → γ' nm = some gi

theorem Ext.refl (I γ w) : Ext I γ w I γ w := ⟨fun _ h => ⟨h, rfl⟩, fun _ _ h => h⟩
theorem Ext.trans {I γ w I' γ' w' I'' γ'' w''} (h : Ext I γ w I' γ' w') (k : Ext I' γ' w' I'' γ'' w'') : Ext I γ w I'' γ'' w'' :=
  ⟨fun b hb => ⟨(k.imm b (h.imm b hb).1).1, ((k.imm b (h.imm b hb).1).2).trans (h.imm b hb).2⟩, fun n gi hn => k.nam n gi (h.nam n gi hn)⟩
theorem Ext.rd {I γ w I' γ' w'} (h : Ext I γ w I' γ' w') {v : V} {x : Value} (hr : Rd w I γ v x) : Rd w' I' γ' v x := hr.mono h.imm h.nam

/-- A world that differs in its draws alone. -/
def Same (w w' : World) : Prop := w'.heap = w.heap ∧ w'.os = w.os ∧ w'.tape = w.tape ∧ w'.output = w.output

theorem Same.ext {w w' : World} (h : Same w w') (I γ) : Ext I γ w I γ w' := ⟨fun b hb => ⟨hb, by rw [h.1]⟩, fun _ _ h => h⟩

theorem ObjAt.ext {w w' I γ I' γ' o gi cur fr} (h : ObjAt w I γ o gi cur fr) (e : Ext I γ w I' γ' w') (hh : w'.heap[gi.blk]? = w.heap[gi.blk]?) (hro : o.md = .rw → ¬ I' gi.blk) : ObjAt w' I' γ' o gi cur fr :=
  ⟨h.nn, h.es, hh.trans h.heap, h.frz, h.size, h.le, h.tight, h.max, fun i j u hu => by obtain ⟨x, hx, hr⟩ := h.cells i j u hu; exact ⟨x, hx, e.rd hr⟩, fun hm => (e.imm _ (h.ro hm)).1, hro⟩

theorem Inv.same {w0 ex I γ g w w'} (h : Inv w0 ex I γ g w) (hs : Same w w') : Inv w0 ex I γ g w' := by
  refine ⟨fun n o hg hm => ?_, h.inj, h.own, h.dom, fun b hb => by rw [hs.1]; exact h.lt b hb, h.keep, h.fix, h.back, fun b hb hx => by rw [hs.1]; exact h.frame b hb hx, hs.2.1.trans h.os, hs.2.2.1.trans h.tape, hs.2.2.2.trans h.output, by rw [hs.1]; exact h.size⟩
  obtain ⟨h1, hcel, h2, h3, h4⟩ := h.obj n o hg hm
  refine ⟨h1, hcel, h2, h3, ?_⟩
  rcases h4 with h4 | ⟨gi, cur, fr, hγ, ha⟩
  · exact .inl h4
  · exact .inr ⟨gi, cur, fr, hγ, ha.ext (hs.ext I γ) (by rw [hs.1]) ha.rw⟩

theorem cellAt_some {elems : List (List V)} {i j : Nat} {u : V} (h : cellAt elems i j = some u) : ∃ e, elems[i]? = some e ∧ e[j]? = some u := by
  unfold cellAt at h
  cases he : elems[i]? with
  | none => rw [he] at h; cases h
  | some e => rw [he] at h; exact ⟨e, rfl, h⟩
theorem cellAt_mk {elems : List (List V)} {i j : Nat} {u : V} {e : List V} (he : elems[i]? = some e) (hu : e[j]? = some u) : cellAt elems i j = some u := by
  unfold cellAt; rw [he]; exact hu

theorem heap_push_old {w w' : World} {o : Obj} (hh : w'.heap = w.heap.push o) {b : Nat} (hb : b < w.heap.size) : w'.heap[b]? = w.heap[b]? := by
  rw [hh, Array.getElem?_push, if_neg (by omega)]
theorem heap_push_new {w w' : World} {o : Obj} (hh : w'.heap = w.heap.push o) : w'.heap[w.heap.size]? = some o := by
  rw [hh, Array.getElem?_push, if_pos rfl]

/-- The frame's names below a new one. -/
theorem gUp_old {γ : Nat → Option GI} {nm : Nat} {gi : GI} (h : γ nm = none) : ∀ n x, γ n = some x → gUp γ nm gi n = some x := by
  intro n x hx
  unfold gUp
  by_cases e : n = nm
  · subst e; rw [h] at hx; cases hx
  · rw [if_neg e]; exact hx

/-- A new block: a new object. -/
theorem Inv.alloc {w0 ex I γ g w w'} (h : Inv w0 ex I γ g w) {nm : Nat} (hn : g nm = none) {cur : Array Value} {fr : Nat × Nat} {o : AObj} {cap : Nat}
    (hh : w'.heap = w.heap.push (.cells cur o.et fr)) (hw : w'.os = w.os ∧ w'.tape = w.tape ∧ w'.output = w.output)
    (hfr : fr.2 ≤ fr.1 ∨ cur.size ≤ fr.1) (hs : cur.size = cap * o.es) (hle : o.elems.length ≤ cap) (ht : o.tight = true → o.elems.length = cap) (hmax : cap ≤ maxLen)
    (hrows : ∀ e ∈ o.elems, e.length = o.es) (hcel : ∀ i j u, cellAt o.elems i j = some u → u.cellular = true) (hcl : o.fl ≠ 0 → ∀ i j u, cellAt o.elems i j = some u → u.closed = true)
    (hsc : 2 ≤ o.fl → ∀ i j u, cellAt o.elems i j = some u → u.scalar = true)
    (hc : ∀ i j u, cellAt o.elems i j = some u → ∃ x, cur[i * o.es + j]? = some x ∧ Rd w I γ u x) (hmd : o.md = .rw) :
    Inv w0 ex I (gUp γ nm ⟨w.heap.size, cap, o.es, false⟩) (upd g nm (some o)) w' ∧ Ext I γ w I (gUp γ nm ⟨w.heap.size, cap, o.es, false⟩) w' := by
  have hγ : γ nm = none := by
    cases hx : γ nm with
    | none => rfl
    | some x => exact absurd hn (h.dom nm x hx)
  have hnI : ¬ I w.heap.size := fun hI => by have := h.lt _ hI; omega
  have hext : Ext I γ w I (gUp γ nm ⟨w.heap.size, cap, o.es, false⟩) w' := ⟨fun b hb => ⟨hb, heap_push_old hh (h.lt b hb)⟩, gUp_old hγ⟩
  have hblk : ∀ n o' gi, g n = some o' → o'.md ≠ .dead → γ n = some gi → gi.nil = false → gi.blk < w.heap.size := by
    intro n o' gi hg hm hgi hnn
    obtain ⟨_, _, _, _, h4⟩ := h.obj n o' hg hm
    rcases h4 with ⟨_, gi', h4, h5⟩ | ⟨gi', cur', fr', hγ', ha⟩
    · rw [h4] at hgi; cases hgi; rw [hnn] at h5; cases h5
    · rw [hγ'] at hgi; cases hgi
      rcases Nat.lt_or_ge gi.blk w.heap.size with hlt | hge
      · exact hlt
      · have := ha.heap; rw [Array.getElem?_eq_none hge] at this; cases this
  refine ⟨⟨fun n o' hg hm => ?_, ?_, ?_, ?_, ?_, h.keep, fun n gi h' => hext.nam n gi (h.fix n gi h'), h.back, ?_, hw.1.trans h.os, hw.2.1.trans h.tape, hw.2.2.trans h.output, ?_⟩, hext⟩
  · by_cases e : n = nm
    · subst e
      simp only [upd_same, Option.some.injEq] at hg
      subst hg
      refine ⟨hrows, hcel, hcl, hsc, .inr ⟨⟨w.heap.size, cap, o.es, false⟩, cur, fr, by simp [gUp], ⟨rfl, rfl, heap_push_new hh, hfr, hs, hle, ht, hmax, ?_, (fun e => by rw [hmd] at e; cases e), fun _ => hnI⟩⟩⟩
      intro i j u hu
      obtain ⟨x, hx, hr⟩ := hc i j u hu
      exact ⟨x, hx, hext.rd hr⟩
    · rw [upd_ne _ _ e] at hg
      obtain ⟨h1, hcel, h2, h3, h4⟩ := h.obj n o' hg hm
      refine ⟨h1, hcel, h2, h3, ?_⟩
      rcases h4 with ⟨he, gi, h4, h5⟩ | ⟨gi, cur', fr', hγ', ha⟩
      · exact .inl ⟨he, gi, hext.nam _ _ h4, h5⟩
      · exact .inr ⟨gi, cur', fr', hext.nam _ _ hγ', ha.ext hext (heap_push_old hh (hblk n o' gi hg hm hγ' ha.nn)) ha.rw⟩
  · intro n m o1 o2 gi gi' h1 h2 d1 d2 g1 g2 n1 n2 hb
    by_cases e1 : n = nm <;> by_cases e2 : m = nm
    · rw [e1, e2]
    · subst e1
      rw [upd_ne _ _ e2] at h2
      simp only [gUp, if_true, Option.some.injEq] at g1
      rw [gUp, if_neg e2] at g2
      have := hblk m o2 gi' h2 d2 g2 n2
      subst g1; simp only at hb; omega
    · subst e2
      rw [upd_ne _ _ e1] at h1
      simp only [gUp, if_true, Option.some.injEq] at g2
      rw [gUp, if_neg e1] at g1
      have := hblk n o1 gi h1 d1 g1 n1
      subst g2; simp only at hb; omega
    · rw [upd_ne _ _ e1] at h1; rw [upd_ne _ _ e2] at h2
      rw [gUp, if_neg e1] at g1; rw [gUp, if_neg e2] at g2
      exact h.inj n m o1 o2 gi gi' h1 h2 d1 d2 g1 g2 n1 n2 hb
  · intro n o' gi hg hm hgi hnn
    by_cases e : n = nm
    · subst e; simp only [gUp, if_true, Option.some.injEq] at hgi; subst hgi; exact .inl h.size
    · rw [upd_ne _ _ e] at hg; rw [gUp, if_neg e] at hgi; exact h.own n o' gi hg hm hgi hnn
  · intro n gi hgi
    by_cases e : n = nm
    · subst e; simp
    · rw [upd_ne _ _ e]; rw [gUp, if_neg e] at hgi; exact h.dom n gi hgi
  · intro b hb; rw [hh, Array.size_push]; have := h.lt b hb; omega
  · intro b hb hx; rw [heap_push_old hh (Nat.lt_of_lt_of_le hb h.size)]; exact h.frame b hb hx
  · rw [hh, Array.size_push]; have := h.size; omega

/-- An object that has no block: the nil slice. -/
theorem Inv.phantom {w0 ex I γ g w} (h : Inv w0 ex I γ g w) {nm : Nat} (hn : g nm = none) {o : AObj} (he : o.elems = []) :
    Inv w0 ex I (gUp γ nm ⟨0, 0, 0, true⟩) (upd g nm (some o)) w ∧ Ext I γ w I (gUp γ nm ⟨0, 0, 0, true⟩) w := by
  have hγ : γ nm = none := by
    cases hx : γ nm with
    | none => rfl
    | some x => exact absurd hn (h.dom nm x hx)
  have hext : Ext I γ w I (gUp γ nm ⟨0, 0, 0, true⟩) w := ⟨fun b hb => ⟨hb, rfl⟩, gUp_old hγ⟩
  refine ⟨⟨fun n o' hg hm => ?_, ?_, ?_, ?_, h.lt, h.keep, fun n gi h' => hext.nam n gi (h.fix n gi h'), h.back, h.frame, h.os, h.tape, h.output, h.size⟩, hext⟩
  · by_cases e : n = nm
    · subst e
      simp only [upd_same, Option.some.injEq] at hg
      subst hg
      exact ⟨by simp [he], by simp [he, cellAt], by simp [he, cellAt], by simp [he, cellAt], .inl ⟨he, ⟨0, 0, 0, true⟩, by simp [gUp], rfl⟩⟩
    · rw [upd_ne _ _ e] at hg
      obtain ⟨h1, hcel, h2, h3, h4⟩ := h.obj n o' hg hm
      refine ⟨h1, hcel, h2, h3, ?_⟩
      rcases h4 with ⟨he, gi, h4, h5⟩ | ⟨gi, cur', fr', hγ', ha⟩
      · exact .inl ⟨he, gi, hext.nam _ _ h4, h5⟩
      · exact .inr ⟨gi, cur', fr', hext.nam _ _ hγ', ha.ext hext rfl ha.rw⟩
  · intro n m o1 o2 gi gi' h1 h2 d1 d2 g1 g2 n1 n2 hb
    have e1 : n ≠ nm := fun e => by subst e; simp only [gUp, if_true, Option.some.injEq] at g1; subst g1; cases n1
    have e2 : m ≠ nm := fun e => by subst e; simp only [gUp, if_true, Option.some.injEq] at g2; subst g2; cases n2
    rw [upd_ne _ _ e1] at h1; rw [upd_ne _ _ e2] at h2
    rw [gUp, if_neg e1] at g1; rw [gUp, if_neg e2] at g2
    exact h.inj n m o1 o2 gi gi' h1 h2 d1 d2 g1 g2 n1 n2 hb
  · intro n o' gi hg hm hgi hnn
    have e1 : n ≠ nm := fun e => by subst e; simp only [gUp, if_true, Option.some.injEq] at hgi; subst hgi; cases hnn
    rw [upd_ne _ _ e1] at hg; rw [gUp, if_neg e1] at hgi
    exact h.own n o' gi hg hm hgi hnn
  · intro n gi hgi
    by_cases e : n = nm
    · subst e; simp
    · rw [upd_ne _ _ e]; rw [gUp, if_neg e] at hgi; exact h.dom n gi hgi

/-- One object is written: its block alone, which nobody reads as unchanging. -/
theorem Inv.write {w0 ex I γ g w w'} (h : Inv w0 ex I γ g w) {nm : Nat} {o o' : AObj} {gi : GI} {cur cur' : Array Value} {fr : Nat × Nat} (hg : g nm = some o) (hmd : o.md = .rw) (hγ : γ nm = some gi)
    (ha : ObjAt w I γ o gi cur fr) (het : o'.et = o.et) (hes : o'.es = o.es) (hmd' : o'.md = .rw) (hsz : cur'.size = cur.size)
    (hh : ∀ b, w'.heap[b]? = if b = gi.blk then some (.cells cur' o.et fr) else w.heap[b]?) (hsize : w'.heap.size = w.heap.size) (hw : w'.os = w.os ∧ w'.tape = w.tape ∧ w'.output = w.output)
    (hle : o'.elems.length ≤ gi.cap) (ht : o'.tight = true → o'.elems.length = gi.cap)
    (hrows : ∀ e ∈ o'.elems, e.length = o'.es) (hcel : ∀ i j u, cellAt o'.elems i j = some u → u.cellular = true) (hcl : o'.fl ≠ 0 → ∀ i j u, cellAt o'.elems i j = some u → u.closed = true)
    (hsc : 2 ≤ o'.fl → ∀ i j u, cellAt o'.elems i j = some u → u.scalar = true)
    (hc : ∀ i j u, cellAt o'.elems i j = some u → ∃ x, cur'[i * o.es + j]? = some x ∧ Rd w I γ u x) :
    Inv w0 ex I γ (upd g nm (some o')) w' ∧ Ext I γ w I γ w' := by
  have hext : Ext I γ w I γ w' := ⟨fun b hb => ⟨hb, by rw [hh, if_neg (fun e => by subst e; exact ha.rw hmd hb)]⟩, fun _ _ h => h⟩
  have hother : ∀ n o1 gi1, n ≠ nm → g n = some o1 → o1.md ≠ .dead → γ n = some gi1 → gi1.nil = false → gi1.blk ≠ gi.blk := fun n o1 gi1 e h1 d1 g1 n1 hb =>
    e (h.inj n nm o1 o gi1 gi h1 hg d1 (by rw [hmd]; intro h; cases h) g1 hγ n1 ha.nn hb)
  refine ⟨⟨fun n o1 h1 d1 => ?_, ?_, ?_, ?_, fun b hb => by rw [hsize]; exact h.lt b hb, h.keep, h.fix, h.back, ?_, hw.1.trans h.os, hw.2.1.trans h.tape, hw.2.2.trans h.output, by rw [hsize]; exact h.size⟩, hext⟩
  · by_cases e : n = nm
    · subst e
      simp only [upd_same, Option.some.injEq] at h1
      subst h1
      refine ⟨hrows, hcel, hcl, hsc, .inr ⟨gi, cur', fr, hγ, ⟨ha.nn, ha.es.trans hes.symm, by rw [hh, if_pos rfl, het], by rw [hsz]; exact ha.frz, by rw [hsz]; exact ha.size, hle, ht, ha.max, ?_, (fun e => by rw [hmd'] at e; cases e), fun _ => ha.rw hmd⟩⟩⟩
      intro i j u hu
      obtain ⟨x, hx, hr⟩ := hc i j u hu
      exact ⟨x, by rw [hes]; exact hx, hext.rd hr⟩
    · rw [upd_ne _ _ e] at h1
      obtain ⟨k1, kcel, k2, k3, k4⟩ := h.obj n o1 h1 d1
      refine ⟨k1, kcel, k2, k3, ?_⟩
      rcases k4 with k4 | ⟨gi1, cur1, fr1, hγ1, ha1⟩
      · exact .inl k4
      · exact .inr ⟨gi1, cur1, fr1, hγ1, ha1.ext hext (by rw [hh, if_neg (hother n o1 gi1 e h1 d1 hγ1 ha1.nn)]) ha1.rw⟩
  · intro n m o1 o2 gi1 gi2 h1 h2 d1 d2 g1 g2 n1 n2 hb
    by_cases e1 : n = nm <;> by_cases e2 : m = nm
    · rw [e1, e2]
    · subst e1; rw [upd_ne _ _ e2] at h2; rw [hγ] at g1; cases g1
      exact absurd hb.symm (hother m o2 gi2 e2 h2 d2 g2 n2)
    · subst e2; rw [upd_ne _ _ e1] at h1; rw [hγ] at g2; cases g2
      exact absurd hb (hother n o1 gi1 e1 h1 d1 g1 n1)
    · rw [upd_ne _ _ e1] at h1; rw [upd_ne _ _ e2] at h2
      exact h.inj n m o1 o2 gi1 gi2 h1 h2 d1 d2 g1 g2 n1 n2 hb
  · intro n o1 gi1 h1 d1 g1 n1
    by_cases e : n = nm
    · subst e; exact h.own n o gi1 hg (by rw [hmd]; decide) g1 n1
    · rw [upd_ne _ _ e] at h1; exact h.own n o1 gi1 h1 d1 g1 n1
  · intro n gi1 g1
    by_cases e : n = nm
    · subst e; simp
    · rw [upd_ne _ _ e]; exact h.dom n gi1 g1
  · intro b hb hx
    rw [hh, if_neg]
    · exact h.frame b hb hx
    · intro e; subst e
      rcases h.own nm o gi hg (by rw [hmd]; decide) hγ ha.nn with k | k
      · omega
      · exact hx k

/-- An object that is not used any more. -/
theorem Inv.kill {w0 ex I γ g w} (h : Inv w0 ex I γ g w) {nm : Nat} {o : AObj} (hg : g nm = some o) : Inv w0 ex I γ (upd g nm (some (kill o))) w := by
  refine ⟨fun n o' hg' hm => ?_, ?_, ?_, ?_, h.lt, h.keep, h.fix, h.back, h.frame, h.os, h.tape, h.output, h.size⟩
  · by_cases e : n = nm
    · subst e; simp only [upd_same, Option.some.injEq] at hg'; subst hg'; exact absurd rfl hm
    · rw [upd_ne _ _ e] at hg'; exact h.obj n o' hg' hm
  · intro n m o1 o2 gi gi' h1 h2 d1 d2 g1 g2 n1 n2 hb
    have e1 : n ≠ nm := fun e => by subst e; simp only [upd_same, Option.some.injEq] at h1; subst h1; exact d1 rfl
    have e2 : m ≠ nm := fun e => by subst e; simp only [upd_same, Option.some.injEq] at h2; subst h2; exact d2 rfl
    rw [upd_ne _ _ e1] at h1; rw [upd_ne _ _ e2] at h2
    exact h.inj n m o1 o2 gi gi' h1 h2 d1 d2 g1 g2 n1 n2 hb
  · intro n o' gi hg' hm hgi hnn
    by_cases e : n = nm
    · subst e; simp only [upd_same, Option.some.injEq] at hg'; subst hg'; exact absurd rfl hm
    · rw [upd_ne _ _ e] at hg'; exact h.own n o' gi hg' hm hgi hnn
  · intro n gi hgi
    by_cases e : n = nm
    · subst e; simp
    · rw [upd_ne _ _ e]; exact h.dom n gi hgi

/-- An object passes on to a new name, the elder one being used no more. -/
theorem Inv.rename {w0 ex I γ g w} (h : Inv w0 ex I γ g w) {nm m : Nat} {o : AObj} {gi : GI} (hg : g m = some o) (hmd : o.md ≠ .dead) (hγ : γ m = some gi) (hn : g nm = none) :
    Inv w0 ex I (gUp γ nm gi) (upd (upd g m (some (Lift.kill o))) nm (some o)) w ∧ Ext I γ w I (gUp γ nm gi) w := by
  have hγn : γ nm = none := by
    cases hx : γ nm with
    | none => rfl
    | some x => exact absurd hn (h.dom nm x hx)
  have hne : m ≠ nm := fun e => by subst e; rw [hg] at hn; cases hn
  have hext : Ext I γ w I (gUp γ nm gi) w := ⟨fun b hb => ⟨hb, rfl⟩, gUp_old hγn⟩
  have look : ∀ n o1, upd (upd g m (some (Lift.kill o))) nm (some o) n = some o1 → o1.md ≠ .dead → (n = nm ∧ o1 = o) ∨ (n ≠ nm ∧ n ≠ m ∧ g n = some o1) := by
    intro n o1 h1 d1
    by_cases e : n = nm
    · subst e; simp only [upd_same, Option.some.injEq] at h1; exact .inl ⟨rfl, h1.symm⟩
    · rw [upd_ne _ _ e] at h1
      by_cases e' : n = m
      · subst e'; simp only [upd_same, Option.some.injEq] at h1; subst h1; exact absurd rfl d1
      · rw [upd_ne _ _ e'] at h1; exact .inr ⟨e, e', h1⟩
  have gat : ∀ n x, gUp γ nm gi n = some x → (n = nm ∧ x = gi) ∨ (n ≠ nm ∧ γ n = some x) := by
    intro n x hx
    unfold gUp at hx
    by_cases e : n = nm
    · rw [if_pos e] at hx; cases hx; exact .inl ⟨e, rfl⟩
    · rw [if_neg e] at hx; exact .inr ⟨e, hx⟩
  refine ⟨⟨fun n o1 h1 d1 => ?_, ?_, ?_, ?_, h.lt, h.keep, fun n gi h' => hext.nam n gi (h.fix n gi h'), h.back, h.frame, h.os, h.tape, h.output, h.size⟩, hext⟩
  · rcases look n o1 h1 d1 with ⟨rfl, rfl⟩ | ⟨e, e', h1⟩
    · obtain ⟨k1, kcel, k2, k3, k4⟩ := h.obj m o1 hg hmd
      refine ⟨k1, kcel, k2, k3, ?_⟩
      rcases k4 with ⟨ke, gi1, k4, k5⟩ | ⟨gi1, cur1, fr1, hγ1, ha1⟩
      · rw [k4] at hγ; cases hγ; exact .inl ⟨ke, gi, by simp [gUp], k5⟩
      · rw [hγ1] at hγ; cases hγ
        exact .inr ⟨gi, cur1, fr1, by simp [gUp], ha1.ext hext rfl ha1.rw⟩
    · obtain ⟨k1, kcel, k2, k3, k4⟩ := h.obj n o1 h1 d1
      refine ⟨k1, kcel, k2, k3, ?_⟩
      rcases k4 with ⟨ke, gi1, k4, k5⟩ | ⟨gi1, cur1, fr1, hγ1, ha1⟩
      · exact .inl ⟨ke, gi1, hext.nam _ _ k4, k5⟩
      · exact .inr ⟨gi1, cur1, fr1, hext.nam _ _ hγ1, ha1.ext hext rfl ha1.rw⟩
  · intro n k o1 o2 gi1 gi2 h1 h2 d1 d2 g1 g2 n1 n2 hb
    rcases look n o1 h1 d1 with ⟨rfl, rfl⟩ | ⟨e, e', h1'⟩ <;> rcases look k o2 h2 d2 with ⟨rfl, rfl⟩ | ⟨f, f', h2'⟩
    · rfl
    · rcases gat _ _ g1 with ⟨_, rfl⟩ | ⟨q, _⟩
      · rcases gat _ _ g2 with ⟨q, _⟩ | ⟨_, g2⟩
        · exact absurd q f
        · exact absurd (h.inj m k o1 o2 gi1 gi2 hg h2' d1 d2 hγ g2 n1 n2 hb).symm f'
      · exact absurd rfl q
    · rcases gat _ _ g2 with ⟨_, rfl⟩ | ⟨q, _⟩
      · rcases gat _ _ g1 with ⟨q, _⟩ | ⟨_, g1⟩
        · exact absurd q e
        · exact absurd (h.inj n m o1 o2 gi1 gi2 h1' hg d1 d2 g1 hγ n1 n2 hb) e'
      · exact absurd rfl q
    · rcases gat _ _ g1 with ⟨q, _⟩ | ⟨_, g1⟩
      · exact absurd q e
      · rcases gat _ _ g2 with ⟨q, _⟩ | ⟨_, g2⟩
        · exact absurd q f
        · exact h.inj n k o1 o2 gi1 gi2 h1' h2' d1 d2 g1 g2 n1 n2 hb
  · intro n o1 gi1 h1 d1 g1 nn
    rcases look n o1 h1 d1 with ⟨rfl, rfl⟩ | ⟨e, e', h1⟩
    · rcases gat _ _ g1 with ⟨_, rfl⟩ | ⟨q, _⟩
      · exact h.own m o1 gi1 hg d1 hγ nn
      · exact absurd rfl q
    · rcases gat _ _ g1 with ⟨q, _⟩ | ⟨_, g1⟩
      · exact absurd q e
      · exact h.own n o1 gi1 h1 d1 g1 nn
  · intro n x hx
    by_cases e : n = nm
    · subst e; simp
    · rw [upd_ne _ _ e]
      by_cases e' : n = m
      · subst e'; simp
      · rw [upd_ne _ _ e']
        rcases gat _ _ hx with ⟨q, _⟩ | ⟨_, hx⟩
        · exact absurd q e
        · exact h.dom n x hx

end Go.Lift
