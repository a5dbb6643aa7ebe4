/-
  A call of a Go function, by what is known of the callee.
-/
import Derived.Test.YtgnfgcpolbcaoaaL11
namespace Go.Lift

/-- The blocks of the first k names. -/
def exOf (γ : Nat → Option GI) (k : Nat) : Nat → Prop := fun b => ∃ n gi, n < k ∧ γ n = some gi ∧ gi.nil = false ∧ gi.blk = b

structure Entry (w : World) (I : Nat → Prop) (γ : Nat → Option GI) (args : List V) (objs : List AObj) (vs : Array Value) : Prop where
  len : args.length = vs.size
  rd : ∀ (j : Nat) (u : V) (x : Value), args[j]? = some u → vs[j]? = some x → Rd w I γ u x
  inv : Inv w ⟨exOf γ objs.length, I, γ⟩ I γ (fun n => objs[n]?) w
  alive : ∀ o ∈ objs, o.md = .rw ∧ o.fl ≠ 0

structure Leave (w : World) (I : Nat → Prop) (γ : Nat → Option GI) (k : Nat) (r : CRes) (w' : World) (I' : Nat → Prop) (γ' : Nat → Option GI) (v : Value) : Prop where
  inv : Inv w ⟨exOf γ k, I, γ⟩ I' γ' (fun n => r.objs[n]?) w'
  rd : Rd w' I' γ' r.v v
  ext : Ext I γ w I' γ' w'

/-- What a function of the program is known to do. -/
structure Spec (P : Program) (f : FuncId) (sp : List V → List AObj → Option CRes) : Prop where
  body : ∃ fn, P.funcs[f]? = some fn ∧ (fn.name == "runtime.NumGoroutine") = false ∧ fn.body.isNone = false
  calls : ∀ args objs r, sp args objs = some r → ∀ (w : World) (I : Nat → Prop) (γ : Nat → Option GI) (vs : Array Value), Entry w I γ args objs vs →
    Calls P f vs w fun e w' => ∃ v I' γ', e = .returned v ∧ Leave w I γ objs.length r w' I' γ' v

def SpecsOk (P : Program) (C : FuncId → List V → List AObj → Option CRes) : Prop := ∀ f, (∃ args objs r, C f args objs = some r) → Spec P f (C f)

theorem posOf_some : ∀ {l : List Nat} {n k : Nat}, posOf n l = some k → l[k]? = some n
  | [], n, k, h => by cases h
  | m :: ms, n, k, h => by
    simp only [posOf] at h
    split at h
    · rename_i e; cases h; subst e; rfl
    · split at h
      · rename_i k' hk; cases h; simpa using posOf_some hk
      · cases h

/-- The immutable blocks while a call runs that is handed the objects bs to be read. -/
def Ic (I : Nat → Prop) (γ : Nat → Option GI) (bs : List Nat) : Nat → Prop := fun b => I b ∨ ∃ n gi, n ∈ bs ∧ γ n = some gi ∧ gi.nil = false ∧ gi.blk = b

theorem Rd.wider {w : World} {I I' : Nat → Prop} {γ : Nat → Option GI} {v : V} {x : Value} (h : Rd w I γ v x) (hI : ∀ b, I b → I' b) : Rd w I' γ v x := h.mono (fun b hb => ⟨hI b hb, rfl⟩) (fun _ _ h => h)

theorem deepCells_spec {F : V → Option (V × List Nat)} : ∀ {cs cs' : List V} {bs : List Nat}, deepCells F cs = some (cs', bs) → cs'.length = cs.length ∧ ∀ (j : Nat) (u' : V), cs'[j]? = some u' → ∃ u b, cs[j]? = some u ∧ F u = some (u', b) ∧ ∀ n ∈ b, n ∈ bs
  | [], cs', bs, h => by cases h; exact ⟨rfl, fun j u' h => by simp at h⟩
  | c :: cs, cs', bs, h => by
    simp only [deepCells] at h
    split at h
    · rename_i v b vs bs' h1 h2
      cases h
      obtain ⟨q1, q2⟩ := deepCells_spec h2
      refine ⟨by simp [q1], fun j u' hu => ?_⟩
      cases j with
      | zero => simp at hu; subst hu; exact ⟨c, b, rfl, h1, fun n hn => List.mem_append_left _ hn⟩
      | succ j =>
        obtain ⟨u, b', k1, k2, k3⟩ := q2 j u' (by simpa using hu)
        exact ⟨u, b', by simpa using k1, k2, fun n hn => List.mem_append_right _ (k3 n hn)⟩
    · cases h
theorem deepRows_spec {F : V → Option (V × List Nat)} : ∀ {cs cs' : List (List V)} {bs : List Nat}, deepRows F cs = some (cs', bs) → cs'.length = cs.length ∧ ∀ (j : Nat) (u' : List V), cs'[j]? = some u' → ∃ u b, cs[j]? = some u ∧ deepCells F u = some (u', b) ∧ ∀ n ∈ b, n ∈ bs
  | [], cs', bs, h => by cases h; exact ⟨rfl, fun j u' h => by simp at h⟩
  | c :: cs, cs', bs, h => by
    simp only [deepRows] at h
    split at h
    · rename_i v b vs bs' h1 h2
      cases h
      obtain ⟨q1, q2⟩ := deepRows_spec h2
      refine ⟨by simp [q1], fun j u' hu => ?_⟩
      cases j with
      | zero => simp at hu; subst hu; exact ⟨c, b, rfl, h1, fun n hn => List.mem_append_left _ hn⟩
      | succ j =>
        obtain ⟨u, b', k1, k2, k3⟩ := q2 j u' (by simpa using hu)
        exact ⟨u, b', by simpa using k1, k2, fun n hn => List.mem_append_right _ (k3 n hn)⟩
    · cases h

/-- A cell of an open object, read. -/
theorem deepV_rd {w0 w : World} {ex I γ g} (hi : Inv w0 ex I γ g w) {refs BS : List Nat} : ∀ (k : Nat) {v v' : V} {x : Value} {bs : List Nat}, Rd w I γ v x → deepV g refs k v = some (v', bs) → (∀ n ∈ bs, n ∈ BS) → Rd w (Ic I γ BS) noG v' x ∧ (v.cellular = true → v'.cellular = true) := by
  have hI : ∀ b, I b → Ic I γ BS b := fun b h => .inl h
  have base : ∀ {v v' : V} {x : Value} {bs : List Nat}, Rd w I γ v x → (if v.closed then some (v, ([] : List Nat)) else none) = some (v', bs) → Rd w (Ic I γ BS) noG v' x ∧ (v.cellular = true → v'.cellular = true) := by
    intro v v' x bs hx h
    split at h
    · rename_i hc; cases h; exact ⟨(hx.closed hc noG).wider hI, fun h => h⟩
    · cases h
  intro k
  induction k with
  | zero =>
    intro v v' x bs hx h _
    refine base (bs := bs) hx ?_
    rw [← h]; cases v <;> rfl
  | succ k ih =>
    intro v v' x bs hx h hb
    by_cases hown : ∃ nm off n, v = .own nm off n
    · obtain ⟨nm, off, n, rfl⟩ := hown
      simp only [deepV] at h
      split at h
      · cases h
      · split at h
        · rename_i o hg
          split at h
          · rename_i hcond
            obtain ⟨c1, c3⟩ := hcond
            split at h
            · rename_i rows bs' hrows
              cases h
              have hob := hi.obj nm o hg c1
              have hlen : ((o.elems.drop off).take n).length = n := by rw [List.length_take, List.length_drop]; omega
              -- the rows that the callee sees
              have key : rows.length = n ∧ (∀ r ∈ rows, r.length = o.es) ∧ ∀ i j u', cellAt rows i j = some u' → ∃ u, cellAt ((o.elems.drop off).take n) i j = some u ∧ (u.cellular = true → u'.cellular = true) ∧ ∀ x, Rd w I γ u x → Rd w (Ic I γ BS) noG u' x := by
                have hrl : ∀ r ∈ (o.elems.drop off).take n, r.length = o.es := fun r hr => hob.rows r (List.mem_of_mem_drop (List.mem_of_mem_take hr))
                split at hrows
                · rename_i hfl
                  cases hrows
                  refine ⟨hlen, hrl, fun i j u hu => ⟨u, hu, fun h => h, fun x hx => (hx.closed (hob.closed hfl _ _ u (cellAt_cut hu)) noG).wider hI⟩⟩
                · obtain ⟨q1, q2⟩ := deepRows_spec hrows
                  refine ⟨q1.trans hlen, fun r hr => ?_, fun i j u' hu => ?_⟩
                  · obtain ⟨i, hi'⟩ := List.getElem?_of_mem hr
                    obtain ⟨r0, b, k1, k2, _⟩ := q2 i r hi'
                    rw [(deepCells_spec k2).1]
                    exact hrl r0 (List.mem_of_getElem? k1)
                  · obtain ⟨r', r1, r2⟩ := cellAt_some hu
                    obtain ⟨r0, b, k1, k2, k3⟩ := q2 i r' r1
                    obtain ⟨u, b', m1, m2, m3⟩ := (deepCells_spec k2).2 j u' r2
                    refine ⟨u, cellAt_mk k1 m1, fun hc => ?_, fun x hx => (ih hx m2 (fun z hz => hb z (List.mem_cons_of_mem _ (k3 z (m3 z hz))))).1⟩
                    have : ∃ x, Rd w I γ u x := by
                      rcases hob.at_ with ⟨he, _⟩ | ⟨gi, cur, fr, hγ, ha⟩
                      · have := cellAt_cut (cellAt_mk k1 m1); rw [he] at this; simp [cellAt] at this
                      · obtain ⟨y, _, y2⟩ := ha.cells _ _ _ (cellAt_cut (cellAt_mk k1 m1)); exact ⟨y, y2⟩
                    obtain ⟨x, hx⟩ := this
                    exact (ih hx m2 (fun z hz => hb z (List.mem_cons_of_mem _ (k3 z (m3 z hz))))).2 hc
              obtain ⟨hrlen, hrl, hcells⟩ := key
              refine ⟨?_, fun _ => rfl⟩
              cases hx with
              | ownnil _ _ A gi hγ hnn =>
                have : rows = [] := List.eq_nil_of_length_eq_zero hrlen
                subst this
                cases A with
                | none => exact Rd.nil (w := w) (I := Ic I γ BS) noG 2 o.es (by decide)
                | some a => exact .sl _ _ _ _ a 0 0 (fun _ _ => undef) (by decide) (fun _ => rfl) (by simp) (Nat.le_refl _) (by simp) (by simp) (by simp [cellAt]) (by simp [cellAt]) (by simp [cellAt])
              | own _ _ _ _ c oo gi hγ hnn hcap hnc hcm ho =>
                obtain ⟨cur, fr, ha⟩ := hi.at_own hg c1 hγ hnn
                refine .sl _ _ _ _ _ n c (fun i j => cur[(off + i) * o.es + j]?.getD undef) (by decide) (fun h => by rcases h with h | h <;> cases h) hrlen hnc hcm hrl (fun i j u' hu => ?_) (fun i j u' hu => ?_) (fun i j u' hu => ?_)
                · obtain ⟨u, k1, k2, _⟩ := hcells i j u' hu
                  exact k2 (hob.cel _ _ u (cellAt_cut k1))
                · obtain ⟨u, k1, k2, _⟩ := hcells i j u' hu
                  obtain ⟨y, y1, y2⟩ := ha.cells _ _ _ (cellAt_cut k1)
                  have q1 := (cellAt_lt (size := o.es) (fun r hr => hob.rows r (List.mem_of_mem_drop (List.mem_of_mem_take hr))) k1).1
                  rw [hlen] at q1
                  refine ⟨.inr ⟨nm, gi, hb nm (by simp), hγ, hnn, rfl⟩, ?_⟩
                  rw [add_lit, cell_of_row w gi.blk _ cur o.et fr ha.heap, ho (by omega), ha.es, ← Nat.add_assoc, ← Nat.add_mul, y1]; rfl
                · obtain ⟨u, k1, _, k3⟩ := hcells i j u' hu
                  obtain ⟨y, y1, y2⟩ := ha.cells _ _ _ (cellAt_cut k1)
                  rw [y1]
                  exact k3 _ y2
            · cases h
          · cases h
        · cases h
    · refine base (bs := bs) hx ?_
      rw [← h]
      cases v <;> first | rfl | exact absurd ⟨_, _, _, rfl⟩ hown

theorem Rd.ofNone {w : World} {I : Nat → Prop} {v : V} {x : Value} (h : Rd w I noG v x) (γ : Nat → Option GI) : Rd w I γ v x := h.mono (fun _ h => ⟨h, rfl⟩) (fun _ _ h => by cases h)

theorem argOne_rd {w0 w : World} {ex I γ g} (hi : Inv w0 ex I γ g w) {refs : List Nat} {γc : Nat → Option GI} (hc : ∀ k n, refs[k]? = some n → γc k = γ n) {v v' : V} {x : Value} {bs BS : List Nat} (hx : Rd w I γ v x) (h : argOne g refs v = some (v', bs)) (hb : ∀ n ∈ bs, n ∈ BS) :
    Rd w (Ic I γ BS) γc v' x := by
  have hI : ∀ b, I b → Ic I γ BS b := fun b h => .inl h
  unfold argOne at h
  split at h
  · rename_i nm off n
    split at h
    · rename_i k hk
      cases h
      have hg := hc k nm (posOf_some hk)
      cases hx with
      | ownnil _ _ A gi hγ hnn => exact .ownnil _ _ A gi (hg.trans hγ) hnn
      | own _ _ _ _ c oo gi hγ hnn hcap hnc hcm ho => exact .own _ _ _ _ _ _ gi (hg.trans hγ) hnn hcap hnc hcm ho
    split at h
    · rename_i o hg
      split at h
      · rename_i hcond
        obtain ⟨c1, c2, c3⟩ := hcond
        cases h
        have hob := hi.obj nm o hg c1
        have hlen : ((o.elems.drop off).take n).length = n := by rw [List.length_take, List.length_drop]; omega
        cases hx with
        | ownnil _ _ A gi hγ hnn =>
          cases A with
          | none => simpa using Rd.nil (w := w) (I := Ic I γ BS) γc 2 o.es (by decide)
          | some a => exact .sl _ _ _ _ a 0 0 (fun _ _ => undef) (by decide) (fun _ => rfl) (by simp) (Nat.le_refl _) (by simp) (by simp) (by simp [cellAt]) (by simp [cellAt]) (by simp [cellAt])
        | own _ _ _ _ c oo gi hγ hnn hcap hnc hcm ho =>
          obtain ⟨cur, fr, ha⟩ := hi.at_own hg c1 hγ hnn
          refine .sl _ _ _ _ _ n c (fun i j => cur[(off + i) * o.es + j]?.getD undef) (by decide) (fun h => by rcases h with h | h <;> cases h) hlen hnc hcm (fun r hr => hob.rows r (List.mem_of_mem_drop (List.mem_of_mem_take hr))) (fun i j u hu => hob.cel _ _ u (cellAt_cut hu)) (fun i j u hu => ?_) (fun i j u hu => ?_)
          · obtain ⟨y, y1, y2⟩ := ha.cells _ _ _ (cellAt_cut hu)
            have q1 := (cellAt_lt (size := o.es) (fun r hr => hob.rows r (List.mem_of_mem_drop (List.mem_of_mem_take hr))) hu).1
            rw [hlen] at q1
            refine ⟨.inr ⟨nm, gi, hb nm (by simp), hγ, hnn, rfl⟩, ?_⟩
            rw [add_lit, cell_of_row w gi.blk _ cur o.et fr ha.heap, ho (by omega), ha.es, ← Nat.add_assoc, ← Nat.add_mul, y1]; rfl
          · obtain ⟨y, y1, y2⟩ := ha.cells _ _ _ (cellAt_cut hu)
            rw [y1]
            exact (y2.closed (hob.closed c2 _ _ u (cellAt_cut hu)) noG).wider hI
      · split at h
        · exact (deepV_rd hi 3 hx h hb).1.ofNone γc
        · cases h
    · cases h
  · rename_i nm i j
    split at h
    · rename_i k hk
      cases h
      cases hx with
      | ptr _ _ _ _ gi hγ hnn => exact .ptr _ _ _ _ gi ((hc k nm (posOf_some hk)).trans hγ) hnn
    · cases h
  · split at h
    · rename_i hcl
      cases h
      exact (hx.closed hcl γc).wider hI
    · cases h

theorem argCells_rd {w0 w : World} {ex I γ g} (hi : Inv w0 ex I γ g w) {refs : List Nat} {γc : Nat → Option GI} (hc : ∀ k n, refs[k]? = some n → γc k = γ n) {BS : List Nat} : ∀ {cs cs' : List V} {bs : List Nat}, argCells g refs cs = some (cs', bs) → (∀ n ∈ bs, n ∈ BS) →
    cs'.length = cs.length ∧ ∀ (j : Nat) (u' : V), cs'[j]? = some u' → ∃ u, cs[j]? = some u ∧ ∀ x, Rd w I γ u x → Rd w (Ic I γ BS) γc u' x
  | [], cs', bs, h, _ => by cases h; exact ⟨rfl, fun j u' h => by simp at h⟩
  | c :: cs, cs', bs, h, hb => by
    simp only [argCells] at h
    split at h
    · rename_i v b vs bs' h1 h2
      cases h
      obtain ⟨q1, q2⟩ := argCells_rd hi hc h2 (fun n hn => hb n (List.mem_append_right _ hn))
      refine ⟨by simp [q1], fun j u' hu => ?_⟩
      cases j with
      | zero => simp at hu; subst hu; exact ⟨c, rfl, fun x hx => argOne_rd hi hc hx h1 (fun n hn => hb n (List.mem_append_left _ hn))⟩
      | succ j => simpa using q2 j u' (by simpa using hu)
    · cases h

theorem argV_rd {w0 w : World} {ex I γ g} (hi : Inv w0 ex I γ g w) {refs : List Nat} {γc : Nat → Option GI} (hc : ∀ k n, refs[k]? = some n → γc k = γ n) {v v' : V} {x : Value} {bs BS : List Nat} (hx : Rd w I γ v x) (h : argV g refs v = some (v', bs)) (hb : ∀ n ∈ bs, n ∈ BS) :
    Rd w (Ic I γ BS) γc v' x := by
  unfold argV at h
  split at h
  · rename_i cs
    cases hcs : argCells g refs cs with
    | none => rw [hcs] at h; cases h
    | some p =>
      obtain ⟨cs', bs'⟩ := p
      rw [hcs] at h
      cases h
      obtain ⟨q1, q2⟩ := argCells_rd (w := w) hi hc hcs hb
      cases hx with
      | agg _ _ xs hl hr =>
        refine .agg _ _ _ (q1.trans hl) fun j u' x hu hx => ?_
        obtain ⟨u, h1, h2⟩ := q2 j u' hu
        exact h2 x (hr j u x h1 hx)
  · exact argOne_rd hi hc hx h hb

theorem argVs_rd {w0 w : World} {ex I γ g} (hi : Inv w0 ex I γ g w) {refs : List Nat} {γc : Nat → Option GI} (hc : ∀ k n, refs[k]? = some n → γc k = γ n) {BS : List Nat} : ∀ {cs cs' : List V} {bs : List Nat}, argVs g refs cs = some (cs', bs) → (∀ n ∈ bs, n ∈ BS) →
    cs'.length = cs.length ∧ ∀ (j : Nat) (u' : V), cs'[j]? = some u' → ∃ u, cs[j]? = some u ∧ ∀ x, Rd w I γ u x → Rd w (Ic I γ BS) γc u' x
  | [], cs', bs, h, _ => by cases h; exact ⟨rfl, fun j u' h => by simp at h⟩
  | c :: cs, cs', bs, h, hb => by
    simp only [argVs] at h
    split at h
    · rename_i v b vs bs' h1 h2
      cases h
      obtain ⟨q1, q2⟩ := argVs_rd hi hc h2 (fun n hn => hb n (List.mem_append_right _ hn))
      refine ⟨by simp [q1], fun j u' hu => ?_⟩
      cases j with
      | zero => simp at hu; subst hu; exact ⟨c, rfl, fun x hx => argV_rd hi hc hx h1 (fun n hn => hb n (List.mem_append_left _ hn))⟩
      | succ j => simpa using q2 j u' (by simpa using hu)
    · cases h

/-- New names for what is read. -/
theorem Rd.ren {w : World} {I : Nat → Prop} {γ γ' : Nat → Option GI} {f : Nat → Nat} {v : V} {x : Value} (h : Rd w I γ v x) : (∀ n gi, γ n = some gi → γ' (f n) = some gi) → Rd w I γ' (v.ren f) x := by
  have renAll_get : ∀ (cs : List V) (j : Nat), (V.ren.renAll f cs)[j]? = (cs[j]?).map (·.ren f) := by
    intro cs
    induction cs with
    | nil => intro j; simp [V.ren.renAll]
    | cons c cs ih =>
      intro j
      cases j with
      | zero => simp [V.ren.renAll]
      | succ j => simpa [V.ren.renAll] using ih j
  have renAll_len : ∀ cs : List V, (V.ren.renAll f cs).length = cs.length := by
    intro cs
    induction cs with
    | nil => rfl
    | cons c cs ih => simp [V.ren.renAll, ih]
  induction h with
  | own _ nm off n c o gi hγ hnn hcap hn hcm ho => intro hg; exact .own _ _ _ _ _ _ gi (hg _ _ hγ) hnn hcap hn hcm ho
  | ownnil _ nm A gi hγ hnn => intro hg; exact .ownnil _ _ A gi (hg _ _ hγ) hnn
  | ptr _ nm i j gi hγ hnn => intro hg; exact .ptr _ _ _ _ gi (hg _ _ hγ) hnn
  | agg _ cells xs hl hr ih =>
    intro hg
    refine .agg _ _ _ ((renAll_len cells).trans hl) fun j u x hu hx => ?_
    rw [renAll_get] at hu
    cases hc : cells[j]? with
    | none => rw [hc] at hu; cases hu
    | some c => rw [hc] at hu; cases hu; exact ih j c x hc hx hg
  | tup _ cells xs hl hr ih =>
    intro hg
    refine .tup _ _ _ ((renAll_len cells).trans hl) fun j u x hu hx => ?_
    rw [renAll_get] at hu
    cases hc : cells[j]? with
    | none => rw [hc] at hu; cases hu
    | some c => rw [hc] at hu; cases hu; exact ih j c x hc hx hg
  | junk => intro _; exact .junk _ _
  | int => intro _; exact .int _ _ _
  | bool => intro _; exact .bool _ _
  | str => intro _; exact .str _ _
  | nil _ t es h => intro _; exact .nil _ t es h
  | sl _ tag es elems a n c xs h0 h1 hlen hnc hcm hes hcel hc hr ih => intro _; exact .sl _ tag es elems a n c xs h0 h1 hlen hnc hcm hes hcel hc hr
  | pp _ cells a xs hc hr ih => intro _; exact .pp _ cells a xs hc hr
  | pnil => intro _; exact .pnil _
  | fn => intro _; exact .fn _ _
  | anyB => intro _; exact .anyB _ _

theorem renAll_get (f : Nat → Nat) : ∀ (cs : List V) (j : Nat), (V.ren.renAll f cs)[j]? = (cs[j]?).map (·.ren f)
  | [], j => by simp [V.ren.renAll]
  | c :: cs, j => by
    cases j with
    | zero => simp [V.ren.renAll]
    | succ j => simpa [V.ren.renAll] using renAll_get f cs j
theorem renAll_len (f : Nat → Nat) : ∀ cs : List V, (V.ren.renAll f cs).length = cs.length
  | [] => rfl
  | c :: cs => by simp [V.ren.renAll, renAll_len f cs]
theorem ren_cellular (f : Nat → Nat) (v : V) : (v.ren f).cellular = v.cellular := by cases v <;> rfl

theorem AObj.ren_eq {f : Nat → Nat} {o : AObj} (h : o.fl ≠ 0) : o.ren f = o := by unfold AObj.ren; rw [if_neg h]
theorem AObj.ren_md (f : Nat → Nat) (o : AObj) : (o.ren f).md = o.md := by unfold AObj.ren; split <;> rfl
theorem cellAt_ren {f : Nat → Nat} {rows : List (List V)} {i j : Nat} {u : V} (h : cellAt (rows.map (V.ren.renAll f)) i j = some u) : ∃ u0, cellAt rows i j = some u0 ∧ u = u0.ren f := by
  obtain ⟨r, h1, h2⟩ := cellAt_some h
  rw [List.getElem?_map] at h1
  cases hr : rows[i]? with
  | none => rw [hr] at h1; cases h1
  | some r0 =>
    rw [hr] at h1; cases h1
    rw [renAll_get] at h2
    cases hu : r0[j]? with
    | none => rw [hu] at h2; cases h2
    | some u0 => rw [hu] at h2; cases h2; exact ⟨u0, cellAt_mk hr hu, rfl⟩

/-- An object under new names. -/
theorem ObjOk.ren {w : World} {I : Nat → Prop} {γ γ' : Nat → Option GI} {f : Nat → Nat} {n : Nat} {o : AObj} (h : ObjOk w I γ n o) (hg : ∀ n gi, γ n = some gi → γ' (f n) = some gi) : ObjOk w I γ' (f n) (o.ren f) := by
  by_cases hfl : o.fl = 0
  · have hr : o.ren f = { o with elems := o.elems.map (V.ren.renAll f) } := by unfold AObj.ren; rw [if_pos hfl]
    rw [hr]
    refine ⟨fun r hr => ?_, fun i j u hu => ?_, fun hf => absurd hfl hf, fun hf => by simp only at hf; omega, ?_⟩
    · obtain ⟨r0, h1, rfl⟩ := List.mem_map.1 hr
      rw [renAll_len]; exact h.rows r0 h1
    · obtain ⟨u0, h1, rfl⟩ := cellAt_ren hu
      rw [ren_cellular]; exact h.cel _ _ u0 h1
    · rcases h.at_ with ⟨he, gi, h1, h2⟩ | ⟨gi, cur, fr, h1, ha⟩
      · exact .inl ⟨by simp [he], gi, hg _ _ h1, h2⟩
      · refine .inr ⟨gi, cur, fr, hg _ _ h1, ⟨ha.nn, ha.es, ha.heap, ha.frz, ha.size, by simpa using ha.le, fun ht => by simpa using ha.tight ht, ha.max, fun i j u hu => ?_, ha.ro, ha.rw⟩⟩
        obtain ⟨u0, h1, rfl⟩ := cellAt_ren hu
        obtain ⟨y, y1, y2⟩ := ha.cells _ _ _ h1
        exact ⟨y, y1, y2.ren hg⟩
  · rw [AObj.ren_eq hfl]
    refine ⟨h.rows, h.cel, h.closed, h.scalar, ?_⟩
    rcases h.at_ with ⟨he, gi, h1, h2⟩ | ⟨gi, cur, fr, h1, ha⟩
    · exact .inl ⟨he, gi, hg _ _ h1, h2⟩
    · refine .inr ⟨gi, cur, fr, hg _ _ h1, ⟨ha.nn, ha.es, ha.heap, ha.frz, ha.size, ha.le, ha.tight, ha.max, fun i j u hu => ?_, ha.ro, ha.rw⟩⟩
      obtain ⟨y, y1, y2⟩ := ha.cells _ _ _ hu
      exact ⟨y, y1, y2.closed (h.closed hfl _ _ u hu) γ'⟩

end Go.Lift
