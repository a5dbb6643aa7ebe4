/-
  Code, loops, functions.
-/
import Derived.Test.YtgnfgcpolbcaoaaL17
namespace Go.Lift

variable {P : Program} {T : TypeId → Option TI} {C : FuncId → List V → List AObj → Option CRes}

theorem draw_any (hT : TypesOk P T) (hC : SpecsOk P C) {w0 ex N} {ops : Array Oper} {tab : List Nat} (hd : drawOk ops tab = true) (hN : ∀ (i : Nat) (o : Oper) t, ops[i]? = some o → o.dst = some t → t < N) {Q : Exit → Act → World → Prop} {st' : St}
    (hQ : ∀ a' w' I' γ', Sim w0 ex N st' a' w' I' γ' → Q .normal a' w') : ∀ (n : Nat) (l : List Nat) (listed : Array Bool) {st : St} {fp} {a w I γ}, l.length = n → listed.size = ops.size →
    (∀ i, i ∈ l ↔ i < ops.size ∧ listed.getD i true = false) → l.Pairwise (· < ·) → (∀ j, listed.getD j false = true → ∀ k ∈ direct ops j, listed.getD k false = true) → runL T C ops l st = some (st', fp) → fpOk tab fp = true →
    Sim w0 ex N st a w I γ → wpAny P .any ops Q n listed a w := by
  intro n
  induction n with
  | zero =>
    intro l listed st fp a w I γ hl hsz hmem _ _ hr _ hs
    cases List.eq_nil_of_length_eq_zero hl
    cases hr
    refine ⟨?_, hQ _ _ _ _ hs⟩
    rw [List.eq_nil_iff_forall_not_mem]
    intro i hi
    obtain ⟨h1, o, h2, _⟩ := mem_ready.1 hi
    have := (hmem i).2 ⟨(Array.getElem?_eq_some_iff.1 h2).1, h1⟩
    cases this
  | succ n ih =>
    intro l listed st fp a w I γ hl hsz hmem hsort hcl hr hf hs
    have get_lt : ∀ k, k < ops.size → listed.getD k true = false ∨ listed.getD k false = true := by
      intro k hk
      have hk' : k < listed.size := by rw [hsz]; exact hk
      cases hb : listed[k] with
      | false => left; simp [Array.getD, hk', hb]
      | true => right; simp [Array.getD, hk', hb]
    have dirs : ∀ j o, ops[j]? = some o → ∀ k, k ∈ direct ops j ↔ ∃ e ∈ o.after, Region.binds .any e = true ∧ e.on = k := by
      intro j o ho k
      simp only [direct, ho, directOf, List.mem_map, List.mem_filter, Array.mem_toList_iff]
      constructor
      · rintro ⟨e, ⟨h1, h2⟩, h3⟩; exact ⟨e, h1, h2, h3⟩
      · rintro ⟨e, h1, h2, h3⟩; exact ⟨e, ⟨h1, h2⟩, h3⟩
    refine ⟨fun hnil => ?_, fun i hi => ?_⟩
    · exfalso
      cases l with
      | nil => simp at hl
      | cons h t =>
        have hh := (hmem h).1 (List.mem_cons_self ..)
        have ho := Array.getElem?_eq_getElem hh.1
        have : h ∈ Region.ready .any ops listed := by
          refine mem_ready.2 ⟨hh.2, _, ho, fun e he hb => ?_⟩
          have hk := (dirs h _ ho e.on).2 ⟨e, he, hb, rfl⟩
          have hlt := (drawOk_spec hd h hh.1).1 _ hk
          rcases get_lt e.on (Nat.lt_trans hlt hh.1) with h1 | h1
          · have := (hmem e.on).2 ⟨Nat.lt_trans hlt hh.1, h1⟩
            rcases List.mem_cons.1 this with h2 | h2
            · omega
            · have := (List.pairwise_cons.1 hsort).1 _ h2; omega
          · exact h1
        rw [hnil] at this; cases this
    · obtain ⟨h1, o, ho, hall⟩ := mem_ready.1 hi
      have hisz := (Array.getElem?_eq_some_iff.1 ho).1
      have him := (hmem i).2 ⟨hisz, h1⟩
      obtain ⟨A, B, rfl⟩ := List.append_of_mem him
      have hdirl : ∀ k ∈ direct ops i, listed.getD k false = true := by
        intro k hk
        obtain ⟨e, he, hb, rfl⟩ := (dirs i o ho k).1 hk
        exact hall e he hb
      have hA : ∀ x ∈ A, x < i ∧ (tab.getD i 0).testBit x = false := by
        intro x hx
        refine ⟨(List.pairwise_append.1 hsort).2.2 x hx i (List.mem_cons_self ..), ?_⟩
        cases hb : (tab.getD i 0).testBit x with
        | false => rfl
        | true =>
          have hl' := ahead_listed hd (L := fun k => listed.getD k false = true) hcl i hisz hdirl x hb
          have hx' := (hmem x).1 (List.mem_append_left _ hx)
          have hlt : x < listed.size := by rw [hsz]; exact hx'.1
          simp [Array.getD, hlt] at hl' hx'
          rw [hl'] at hx'
          simp at hx'
      obtain ⟨st1, rd, wr, fp', q1, q2, q3, _, _⟩ := front hd hA hr hf
      refine astep_sound hT hC hs q1 (hN i) fun a' w' I' γ' hs' => ih (A ++ B) _ ?_ ?_ ?_ ?_ ?_ q2 q3 hs'
      · simp at hl ⊢; omega
      · simpa using hsz
      · intro k
        have hil : i < listed.size := by rw [hsz]; exact hisz
        have hni : i ∉ A ++ B := by
          intro hm
          rcases List.mem_append.1 hm with hm | hm
          · exact Nat.lt_irrefl _ ((List.pairwise_append.1 hsort).2.2 i hm i (List.mem_cons_self ..))
          · exact Nat.lt_irrefl _ ((List.pairwise_cons.1 (List.pairwise_append.1 hsort).2.1).1 i hm)
        by_cases e : k = i
        · subst e
          constructor
          · intro hm; exact absurd hm hni
          · rintro ⟨_, h⟩; simp [Array.getD, hil] at h
        · rw [getD_set_ne true (fun h => e h.symm), ← hmem k]
          simp [e]
      · have hp := List.pairwise_append.1 hsort
        refine List.pairwise_append.2 ⟨hp.1, (List.pairwise_cons.1 hp.2.1).2, fun x hx y hy => hp.2.2 x hx y (List.mem_cons_of_mem _ hy)⟩
      · intro j hj k hk
        by_cases e : j = i
        · subst e; exact getD_set_true (hdirl k hk)
        · rw [getD_set_ne false (fun h => e h.symm)] at hj
          exact getD_set_true (hcl j hj k hk)

theorem Sim.same {w0 ex N st a w I γ} (h : Sim w0 ex N st a w I γ) {w' : World} (hs : Same w w') : Sim w0 ex N st a w' I γ :=
  ⟨h.size, fun n => (hs.ext I γ).rd (h.slots n), h.inv.same hs, h.defers⟩

/-- A state that says less. -/
def Weak (k : Nat) (st st' : St) : Prop := ∀ w0 ex N a w I γ, (∀ n, k ≤ n → ex.fix n = none) → Sim w0 ex N st a w I γ → ∃ I' γ', Sim w0 ex N st' a w I' γ'

theorem Weak.refl (k : Nat) (st : St) : Weak k st st := fun _ _ _ _ _ _ _ _ h => ⟨_, _, h⟩
theorem Weak.trans {k : Nat} {a b c : St} (h : Weak k a b) (h2 : Weak k b c) : Weak k a c := fun w0 ex N x w I γ hk s => by
  obtain ⟨I', γ', s'⟩ := h w0 ex N x w I γ hk s
  exact h2 w0 ex N x w I' γ' hk s'

/-- One operation, given itself. -/
def stepO (T : TypeId → Option TI) (C : FuncId → List V → List AObj → Option CRes) (ops : Array Oper) (o : Oper) (nm : Nat) (st : St) : Option (St × List Nat × List Nat) :=
  match guardOf ops o st.s with
  | none => none
  | some false => some ({ st with s := putS st.s o.dst (.tup []) }, [], [])
  | some true => match aop T C st.ev st.g nm o.op with
    | none => none
    | some e => some ({ st with s := putS st.s o.dst e.v, g := setAll st.g e.wr }, e.rd, e.wr.map (·.1))

/-- The operations of a region in the order of the text, from number i on. -/
def runO (T : TypeId → Option TI) (C : FuncId → List V → List AObj → Option CRes) (ops : Array Oper) : List Oper → Nat → St → Option (St × List (Nat × List Nat × List Nat))
  | [], _, st => some (st, [])
  | o :: r, i, st => match stepO T C ops o (st.c + 8 * i) st with
    | some (st', rd, wr) => match runO T C ops r (i + 1) st' with
      | some (st'', l) => some (st'', (i, rd, wr) :: l)
      | none => none
    | none => none

theorem runO_eq {ops : Array Oper} : ∀ (l : List Oper) (i : Nat) (st : St), (∀ j, l[j]? = ops[i + j]?) → runO T C ops l i st = runL T C ops (List.range' i l.length) st
  | [], i, st, _ => rfl
  | o :: r, i, st, h => by
    have ho : ops[i]? = some o := by simpa using (h 0).symm
    have hr : ∀ j, r[j]? = ops[i + 1 + j]? := fun j => by
      have := h (j + 1)
      rw [List.getElem?_cons_succ] at this
      rw [this]; congr 1; omega
    have hs : astep T C ops i st = stepO T C ops o (st.c + 8 * i) st := by
      simp only [astep, ho, stepO]
      cases guardOf ops o st.s with
      | none => rfl
      | some b => cases b <;> rfl
    simp only [runO, List.length_cons, List.range'_succ, runL, hs]
    cases stepO T C ops o (st.c + 8 * i) st with
    | none => rfl
    | some p =>
      obtain ⟨a, b, c⟩ := p
      simp only [runO_eq r (i + 1) _ hr]
      cases runL T C ops (List.range' (i + 1) r.length) a <;> rfl

def tabOf (ops : Array Oper) : List Nat := befores ops.toList []

/-- The weakest state from which code comes to Q. -/
def axwp (T : TypeId → Option TI) (C : FuncId → List V → List AObj → Option CRes) (k : Nat) : Code → (Exit → St → Prop) → St → Prop
  | .skip, Q, st => Q .normal st
  | .label _, Q, st => Q .normal st
  | .region _ ops draw, Q, st => ∃ st' fp, runO T C ops ops.toList 0 st = some (st', fp) ∧ (draw = true → drawOk ops (tabOf ops) = true ∧ fpOk (tabOf ops) fp = true) ∧ Q .normal { st' with c := st'.c + 8 * ops.size }
  | .seq a b, Q, st => axwp T C k a (fun e st' => match e with | .normal => axwp T C k b Q st' | e => Q e st') st
  | .cond c x y, Q, st => match st.ev c with
    | .bool true => axwp T C k x Q st
    | .bool false => axwp T C k y Q st
    | .anyB => axwp T C k x Q st ∧ axwp T C k y Q st
    | _ => False
  | .block id c, Q, st => axwp T C k c (fun e st' => match e with | .exit i => if i = id then Q .normal st' else Q (.exit i) st' | e => Q e st') st
  | .loop c, Q, st => ∃ J : Nat → St → Prop, (∃ n st0, Weak k st st0 ∧ J n st0) ∧ ∀ n st1, J n st1 → axwp T C k c (fun e st' => match e with | .normal => ∃ m st2, m < n ∧ Weak k st' st2 ∧ J m st2 | e => Q e st') st1
  | .exit id, Q, st => Q (.exit id) st
  | .ret, Q, st => Q .ret st
  | _, _, _ => False

def dstOk (N : Nat) : Code → Bool
  | .region _ ops _ => ops.all fun o => match o.dst with | some d => decide (d < N) | none => true
  | .seq a b => dstOk N a && dstOk N b
  | .cond _ a b => dstOk N a && dstOk N b
  | .block _ a => dstOk N a
  | .loop a => dstOk N a
  | _ => true

theorem wp_loop' {c : Code} {Q : Exit → Act → World → Prop} (I : Nat → Act → World → Prop) (round : ∀ n a w, I n a w → c.wp P (Exit.then (fun a' w' => ∃ m, m < n ∧ I m a' w') Q) a w) {n : Nat} {a : Act} {w : World} (h₀ : I n a w) : (Code.loop c).wp P Q a w := by
  intro b k cs
  have key : ∀ n a w, I n a w → ∃ e a' w', Q e a' w' ∧ Arrives P (lone (b.at a (.code c :: .inLoop c :: k)) cs w) b k cs e a' w' := by
    intro n
    induction n using Nat.strongRecOn with
    | _ n ih =>
      intro a w hI
      obtain ⟨e, a₁, w₁, hq, harr⟩ := round n a w hI b (.inLoop c :: k) cs
      cases e with
      | normal =>
        obtain ⟨m, hlt, hI₁⟩ := hq
        obtain ⟨e₂, a₂, w₂, hq₂, harr₂⟩ := ih m hlt a₁ w₁ hI₁
        exact ⟨e₂, a₂, w₂, hq₂, .of_steps (Steps.trans harr (.one step_inLoop)) harr₂⟩
      | exit id => exact ⟨_, a₁, w₁, hq, .pass (x := .inLoop c) rfl (fun _ _ => .inl (by simp)) harr⟩
      | goto l => exact ⟨_, a₁, w₁, hq, .pass (x := .inLoop c) rfl (fun _ _ => .inl (by simp)) harr⟩
      | ret => exact ⟨_, a₁, w₁, hq, .pass (x := .inLoop c) rfl (fun _ _ => .inl (by simp)) harr⟩
      | panic ch => exact ⟨_, a₁, w₁, hq, .pass (x := .inLoop c) rfl (fun _ _ => .inl (by simp)) harr⟩
      | outgrown => exact ⟨_, a₁, w₁, hq, .pass (x := .inLoop c) rfl (fun _ _ => .inl (by simp)) harr⟩
  obtain ⟨e, a', w', hq, harr⟩ := key n a w h₀
  exact ⟨e, a', w', hq, .of_steps (.one step_loop) harr⟩

theorem axwp_sound (hT : TypesOk P T) (hC : SpecsOk P C) (hm : P.follows .mixedOrders = true) {w0 ex N k} (hk : ∀ n, k ≤ n → ex.fix n = none) : ∀ (c : Code) {Q : Exit → St → Prop} {Q' : Exit → Act → World → Prop} {st a w I γ}, dstOk N c = true → Sim w0 ex N st a w I γ → axwp T C k c Q st →
    (∀ e st' a' w' I' γ', Q e st' → Sim w0 ex N st' a' w' I' γ' → Q' e a' w') → c.wp P Q' a w := by
  intro c
  induction c with
  | skip => intro Q Q' st a w I γ _ hs h hQ; exact wp_skip (hQ _ _ _ _ _ _ h hs)
  | label l => intro Q Q' st a w I γ _ hs h hQ; exact wp_label (hQ _ _ _ _ _ _ h hs)
  | exit id => intro Q Q' st a w I γ _ hs h hQ; exact wp_exit (hQ _ _ _ _ _ _ h hs)
  | ret => intro Q Q' st a w I γ _ hs h hQ; exact wp_ret (hQ _ _ _ _ _ _ h hs)
  | region id ops draw =>
    intro Q Q' st a w I γ hN hs h hQ
    obtain ⟨st', fp, h1, h2, h3⟩ := h
    rw [runO_eq ops.toList 0 st (fun j => by rw [Array.getElem?_toList, Nat.zero_add]), Array.length_toList, ← List.range_eq_range'] at h1
    have hN' : ∀ (i : Nat) (o : Oper) t, ops[i]? = some o → o.dst = some t → t < N := by
      intro i o t ho ht
      have := Array.all_eq_true_iff_forall_mem.1 hN o (Array.mem_of_getElem? ho)
      simpa [ht] using this
    have hQ' : ∀ a' w' I' γ', Sim w0 ex N st' a' w' I' γ' → Q' .normal a' w' := fun a' w' I' γ' hs' => hQ _ _ _ _ _ _ h3 ⟨hs'.size, hs'.slots, hs'.inv, hs'.defers⟩
    cases draw with
    | false => exact wp_region (runL_sound hT hC hN' hs h1 hQ')
    | true =>
      obtain ⟨d1, d2⟩ := h2 rfl
      refine wp_region_any hm (draw_any hT hC d1 hN' hQ' ops.size (List.range ops.size) _ (by simp) (by simp) (fun i => ?_) List.pairwise_lt_range (fun j hj => ?_) h1 d2 (hs.same ⟨rfl, rfl, rfl, rfl⟩))
      · rw [List.mem_range]
        constructor
        · intro hi; exact ⟨hi, by simp [Array.getD, hi]⟩
        · exact (·.1)
      · exfalso
        by_cases hj' : j < ops.size <;> simp [Array.getD, hj'] at hj
  | seq x y ihx ihy =>
    intro Q Q' st a w I γ hN hs h hQ
    simp only [dstOk, Bool.and_eq_true] at hN
    refine wp_seq (ihx hN.1 hs h fun e st' a' w' I' γ' hq hs' => ?_)
    cases e with
    | normal => exact ihy hN.2 hs' hq hQ
    | _ => exact hQ _ _ _ _ _ _ hq hs'
  | cond c x y ihx ihy =>
    intro Q Q' st a w I γ hN hs h hQ
    simp only [dstOk, Bool.and_eq_true] at hN
    simp only [axwp] at h
    have hev := hs.ev c
    split at h
    · rename_i hb
      rw [hb] at hev
      refine wp_cond_true ?_ (ihx hN.1 hs h hQ)
      generalize a.eval c = v at hev
      cases hev; rfl
    · rename_i hb
      rw [hb] at hev
      refine wp_cond_false ?_ (ihy hN.2 hs h hQ)
      generalize a.eval c = v at hev
      cases hev; rfl
    · rename_i hb
      rw [hb] at hev
      generalize hv : a.eval c = v at hev
      cases hev with
      | anyB _ b =>
        cases b with
        | true => exact wp_cond_true hv (ihx hN.1 hs h.1 hQ)
        | false => exact wp_cond_false hv (ihy hN.2 hs h.2 hQ)
    · exact h.elim
  | block id c ih =>
    intro Q Q' st a w I γ hN hs h hQ
    refine wp_block (ih hN hs h fun e st' a' w' I' γ' hq hs' => ?_)
    cases e with
    | exit i =>
      simp only [Exit.inBlock]
      simp only at hq
      split
      · rename_i e; rw [if_pos e] at hq; exact hQ _ _ _ _ _ _ hq hs'
      · rename_i e; rw [if_neg e] at hq; exact hQ _ _ _ _ _ _ hq hs'
    | _ => exact hQ _ _ _ _ _ _ hq hs'
  | loop c ih =>
    intro Q Q' st a w I γ hN hs h hQ
    obtain ⟨J, ⟨n, st0, hw, hJ⟩, hround⟩ := h
    obtain ⟨I0, γ0, hs0⟩ := hw _ _ _ _ _ _ _ hk hs
    refine wp_loop' (fun n a w => ∃ st I γ, J n st ∧ Sim w0 ex N st a w I γ) (fun n a w ⟨st, I, γ, hj, hs⟩ => ?_) (n := n) ⟨st0, I0, γ0, hJ, hs0⟩
    refine ih hN hs (hround n st hj) fun e st' a' w' I' γ' hq hs' => ?_
    cases e with
    | normal =>
      obtain ⟨m, st2, hlt, hw2, hj2⟩ := hq
      obtain ⟨I2, γ2, hs2⟩ := hw2 _ _ _ _ _ _ _ hk hs'
      exact ⟨m, hlt, st2, I2, γ2, hj2, hs2⟩
    | _ => exact hQ _ _ _ _ _ _ hq hs'
  | _ => intro Q Q' st a w I γ _ _ h _; exact h.elim
end Go.Lift
