/-
  A call as an operation; any operation of a region.
-/
import Derived.Test.YtgnfgcpolbcaoaaL13
namespace Go.Lift

section
variable {P : Program} {T : TypeId → Option TI} {C : FuncId → List V → List AObj → Option CRes}

theorem deepV_alive {g : Nat → Option AObj} {refs : List Nat} : ∀ (k : Nat) {v v' : V} {bs : List Nat}, deepV g refs k v = some (v', bs) → ∀ n ∈ bs, (∃ o, g n = some o ∧ o.md ≠ .dead) ∧ n ∉ refs := by
  have base : ∀ {v v' : V} {bs : List Nat}, (if v.closed then some (v, ([] : List Nat)) else none) = some (v', bs) → ∀ n ∈ bs, (∃ o, g n = some o ∧ o.md ≠ .dead) ∧ n ∉ refs := by
    intro v v' bs h
    split at h
    · cases h; intro n hn; cases hn
    · cases h
  have cells : ∀ {F : V → Option (V × List Nat)} {Q : Nat → Prop}, (∀ u v b, F u = some (v, b) → ∀ n ∈ b, Q n) → ∀ {cs cs' : List V} {bs : List Nat}, deepCells F cs = some (cs', bs) → ∀ n ∈ bs, Q n := by
    intro F Q hF cs
    induction cs with
    | nil => intro cs' bs h n hn; cases h; cases hn
    | cons c cs ih =>
      intro cs' bs h n hn
      simp only [deepCells] at h
      split at h
      · rename_i h1 h2
        cases h
        exact (List.mem_append.1 hn).elim (hF _ _ _ h1 n) (ih h2 n)
      · cases h
  have rows : ∀ {F : V → Option (V × List Nat)} {Q : Nat → Prop}, (∀ u v b, F u = some (v, b) → ∀ n ∈ b, Q n) → ∀ {cs cs' : List (List V)} {bs : List Nat}, deepRows F cs = some (cs', bs) → ∀ n ∈ bs, Q n := by
    intro F Q hF cs
    induction cs with
    | nil => intro cs' bs h n hn; cases h; cases hn
    | cons c cs ih =>
      intro cs' bs h n hn
      simp only [deepRows] at h
      split at h
      · rename_i h1 h2
        cases h
        exact (List.mem_append.1 hn).elim (cells hF h1 n) (ih h2 n)
      · cases h
  intro k
  induction k with
  | zero =>
    intro v v' bs h
    refine base (v := v) (v' := v') (bs := bs) ?_
    rw [← h]; cases v <;> rfl
  | succ k ih =>
    intro v v' bs h
    by_cases hown : ∃ nm off n, v = .own nm off n
    · obtain ⟨nm, off, n, rfl⟩ := hown
      simp only [deepV] at h
      split at h
      · cases h
      · rename_i hnr
        split at h
        · rename_i o hg
          split at h
          · rename_i hc
            split at h
            · rename_i rows' bs' hrows
              cases h
              intro x hx
              rcases List.mem_cons.1 hx with rfl | hx
              · exact ⟨⟨o, hg, hc.1⟩, by simpa using hnr⟩
              · split at hrows
                · cases hrows; cases hx
                · exact rows (Q := fun n => (∃ o, g n = some o ∧ o.md ≠ .dead) ∧ n ∉ refs) (fun u v b hu => ih hu) hrows x hx
            · cases h
          · cases h
        · cases h
    · refine base (v := v) (v' := v') (bs := bs) ?_
      rw [← h]
      cases v <;> first | rfl | exact absurd ⟨_, _, _, rfl⟩ hown

theorem argOne_alive {g : Nat → Option AObj} {refs : List Nat} {v v' : V} {bs : List Nat} (h : argOne g refs v = some (v', bs)) : ∀ n ∈ bs, ∃ o, g n = some o ∧ o.md ≠ .dead := by
  unfold argOne at h
  split at h
  · split at h
    · cases h; intro n hn; cases hn
    split at h
    · rename_i o hg
      split at h
      · rename_i hc
        cases h
        intro n hn
        simp at hn
        subst hn
        exact ⟨o, hg, hc.1⟩
      · split at h
        · exact fun n hn => (deepV_alive 3 h n hn).1
        · cases h
    · cases h
  · split at h
    · cases h; intro n hn; cases hn
    · cases h
  · split at h
    · cases h; intro n hn; cases hn
    · cases h
theorem argCells_alive {g : Nat → Option AObj} {refs : List Nat} : ∀ {cs cs' : List V} {bs : List Nat}, argCells g refs cs = some (cs', bs) → ∀ n ∈ bs, ∃ o, g n = some o ∧ o.md ≠ .dead
  | [], cs', bs, h => by cases h; intro n hn; cases hn
  | c :: cs, cs', bs, h => by
    simp only [argCells] at h
    split at h
    · rename_i v b vs bs' h1 h2
      cases h
      intro n hn
      exact (List.mem_append.1 hn).elim (argOne_alive h1 n) (argCells_alive h2 n)
    · cases h
theorem argV_alive {g : Nat → Option AObj} {refs : List Nat} {v v' : V} {bs : List Nat} (h : argV g refs v = some (v', bs)) : ∀ n ∈ bs, ∃ o, g n = some o ∧ o.md ≠ .dead := by
  unfold argV at h
  split at h
  · rename_i cs
    cases hcs : argCells g refs cs with
    | none => rw [hcs] at h; cases h
    | some p => obtain ⟨cs', bs'⟩ := p; rw [hcs] at h; cases h; exact argCells_alive hcs
  · exact argOne_alive h
theorem argVs_alive {g : Nat → Option AObj} {refs : List Nat} : ∀ {cs cs' : List V} {bs : List Nat}, argVs g refs cs = some (cs', bs) → ∀ n ∈ bs, ∃ o, g n = some o ∧ o.md ≠ .dead
  | [], cs', bs, h => by cases h; intro n hn; cases hn
  | c :: cs, cs', bs, h => by
    simp only [argVs] at h
    split at h
    · rename_i v b vs bs' h1 h2
      cases h
      intro n hn
      exact (List.mem_append.1 hn).elim (argV_alive h1 n) (argVs_alive h2 n)
    · cases h

theorem aCallR_sound (hC : SpecsOk P C) {w0 w : World} {ex I γ g} (hi : Inv w0 ex I γ g w) {nm : Nat} {f : FuncId} {args : List V} {vs : Array Value} {e : Eff} {refs : List Nat} (hnd : refs.Nodup) (hlen : args.length = vs.size)
    (hrd : ∀ (j : Nat) (u : V) (x : Value), args[j]? = some u → vs[j]? = some x → Rd w I γ u x) (h : aCallR C g nm f args refs = some e) :
    (∃ fn, P.funcs[f]? = some fn ∧ (fn.name == "runtime.NumGoroutine") = false ∧ fn.body.isNone = false) ∧
    Calls P f vs w fun e' w' => ∃ v I' γ', e' = .returned v ∧ Rd w' I' γ' e.v v ∧ Inv w0 ex I' γ' (setAll g e.wr) w' ∧ Ext I γ w I' γ' w' := by
  unfold aCallR at h
  split at h
  · rename_i vs' bs os hav hro
    split at h
    · rename_i hdj
      split at h
      · rename_i r hr
        simp only at h
        split at h
        · rename_i hc
          obtain ⟨c1, c2, c3, c4⟩ := hc
          cases h
          have hspec := hC f ⟨_, _, _, hr⟩
          refine ⟨hspec.body, ?_⟩
          have hd : ∀ n ∈ bs, n ∉ refs := by
            intro n hn hm
            have := List.all_eq_true.1 hdj n hm
            simp [hn] at this
          have halive := argVs_alive hav
          have hE := enter_inv (os := os) hi hro hnd hd halive
          obtain ⟨ol, oa⟩ := refObjs_spec hro
          obtain ⟨q1, q2⟩ := argVs_rd (γc := fun k => (refs[k]?).bind γ) (BS := bs) hi (fun k n hk => by simp [hk]) hav (fun n hn => hn)
          have hEntry : Entry w (Ic I γ bs) (fun k => (refs[k]?).bind γ) vs' os vs := by
            refine ⟨q1.trans hlen, fun j u' x hu hx => ?_, hE, fun o ho => ?_⟩
            · obtain ⟨u, h1, h2⟩ := q2 j u' hu
              exact h2 x (hrd j u x h1 hx)
            · obtain ⟨k, hk, hkv⟩ := List.mem_iff_getElem.1 ho
              obtain ⟨o', a1, a2, a3, a4⟩ := oa k _ (List.getElem?_eq_getElem (by rw [← ol]; exact hk))
              rw [List.getElem?_eq_getElem hk, hkv] at a1
              cases a1; exact ⟨a3, a4⟩
          refine (hspec.calls vs' os r hr w _ _ vs hEntry).mono ?_
          rintro e' w' ⟨v, I', γ', rfl, hL⟩
          have hfr : ∀ j, j < (r.objs.drop refs.length).length → g (nm + j) = none := fun j hj => freshAll_spec c3 j (by omega)
          have hext1 : ∀ b, I b → I' b := fun b hb => (hL.ext.imm b (.inl hb)).1
          have hren : ∀ k gi, γ' k = some gi → gAfter γ γ' nm refs.length (r.objs.drop refs.length).length (callNames refs nm k) = some gi := by
            refine gAfter_names (fun k x gi hk hx => ?_) (fun j hj => ?_) (fun k gi hk => ?_)
            · obtain ⟨o, o1, o2, o3, o4⟩ := oa k x hk
              have : ∃ gi, γ x = some gi := by
                rcases (hi.obj x o o2 (by rw [o3]; decide)).at_ with ⟨_, gi, q, _⟩ | ⟨gi, _, _, q, _⟩ <;> exact ⟨gi, q⟩
              obtain ⟨gi', hg⟩ := this
              have := hL.ext.nam k gi' (by simp [hk, hg])
              rw [hx] at this; cases this; exact hg
            · cases hx : γ (nm + j) with
              | none => rfl
              | some x => exact absurd (hfr j hj) (hi.dom _ x hx)
            · have := hL.inv.dom k gi hk
              rw [List.length_drop]
              have hlt : k < r.objs.length := by
                rcases Nat.lt_or_ge k r.objs.length with h | h
                · exact h
                · exact absurd (List.getElem?_eq_none h) this
              omega
          by_cases hsc : (r.v.scalar && allScalar r.objs) = true
          · have hkeep : ((r.v.scalar && allScalar r.objs) || bs.isEmpty) = true := by rw [hsc]; rfl
            rw [if_pos hkeep]
            simp only [Bool.and_eq_true] at hsc
            obtain ⟨s1, s2⟩ := hsc
            obtain ⟨r1, r2⟩ := leave_inv (nm := nm) hi hro hd halive hL c1 hfr c4 (fun b => I b ∨ (I' b ∧ (w.heap.size ≤ b ∨ exOf (fun k => (refs[k]?).bind γ) os.length b))) []
              (fun b hb => .inl hb) (fun b hb => hb.elim (hext1 b) (·.1)) (fun b hb hor => .inr ⟨hb, hor⟩) (.inl (allScalar_spec s2)) (.inl ⟨rfl, .inr fun b hb => hb.elim .inl (fun h => .inr h.2)⟩)
            exact ⟨v, _, _, rfl, (hL.rd.scalar s1 _ _).ren hren, r1, r2⟩
          · by_cases hbs : bs = []
            · subst hbs
              have hkeep : ((r.v.scalar && allScalar r.objs) || ([] : List Nat).isEmpty) = true := by simp
              rw [if_pos hkeep]
              obtain ⟨r1, r2⟩ := leave_inv (nm := nm) hi hro hd halive hL c1 hfr c4 I' [] hext1 (fun b hb => hb) (fun b hb _ => hb) (.inr fun b hb => hb) (.inl ⟨rfl, .inl rfl⟩)
              exact ⟨v, _, _, rfl, hL.rd.ren hren, r1, r2⟩
            · have hkeep : ((r.v.scalar && allScalar r.objs) || bs.isEmpty) = false := by
                simp only [Bool.not_eq_true] at hsc
                rw [hsc]
                cases bs with
                | nil => exact absurd rfl hbs
                | cons => rfl
              rw [hkeep]
              simp only [Bool.false_eq_true, if_false]
              obtain ⟨r1, r2⟩ := leave_inv (nm := nm) hi hro hd halive hL c1 hfr c4 I' (freeze g bs) hext1 (fun b hb => hb) (fun b hb _ => hb) (.inr fun b hb => hb) (.inr ⟨rfl, fun b hb => hb⟩)
              exact ⟨v, _, _, rfl, hL.rd.ren hren, r1, r2⟩
        · cases h
      · cases h
    · cases h
  · cases h

theorem aCall_sound (hC : SpecsOk P C) {w0 w : World} {ex I γ g} (hi : Inv w0 ex I γ g w) {nm : Nat} {f : FuncId} {args : List V} {vs : Array Value} {e : Eff} (hlen : args.length = vs.size)
    (hrd : ∀ (j : Nat) (u : V) (x : Value), args[j]? = some u → vs[j]? = some x → Rd w I γ u x) (h : aCall C g nm f args = some e) :
    (∃ fn, P.funcs[f]? = some fn ∧ (fn.name == "runtime.NumGoroutine") = false ∧ fn.body.isNone = false) ∧
    Calls P f vs w fun e' w' => ∃ v I' γ', e' = .returned v ∧ Rd w' I' γ' e.v v ∧ Inv w0 ex I' γ' (setAll g e.wr) w' ∧ Ext I γ w I' γ' w' := by
  unfold aCall at h
  split at h
  · rename_i e1 h1; cases h; exact aCallR_sound (e := e1) hC hi (ptrNames_nodup args) hlen hrd h1
  · split at h
    · rename_i e1 h1; cases h; exact aCallR_sound (e := e1) hC hi (allNames_nodup args) hlen hrd h1
    · cases h

theorem run_callFunc {f : FuncId} {fn : Func} {args : Array Value} {w : World} (h1 : P.funcs[f]? = some fn) (h2 : (fn.name == "runtime.NumGoroutine") = false) (h3 : fn.body.isNone = false) : (callFunc f args).run P w = .ok (.enter f args) w := by
  unfold callFunc
  simp only [Sem.run_bind, run_program, Result.andThen_ok, h1, h2, h3, Bool.false_eq_true, if_false, Sem.run_pure]

/-- Any operation: what the data say is what Go's operation does. -/
theorem op_wp (hT : TypesOk P T) (hC : SpecsOk P C) {w0 w : World} {ex I γ g} (hi : Inv w0 ex I γ g w) {ρ : Operand → V} {a : Act} (hs : ∀ x, Rd w I γ (ρ x) (a.eval x)) {nm : Nat} {o : Oper} {e : Eff} (h : aop T C ρ g nm o.op = some e)
    {K : Act → World → Prop} {Q : Exit → Act → World → Prop} (hK : ∀ x w' I' γ', Rd w' I' γ' e.v x → Inv w0 ex I' γ' (setAll g e.wr) w' → Ext I γ w I' γ' w' → K (a.put o.dst x) w') : o.wp P a w K Q := by
  cases hnc : isCall o.op with
  | false => exact aop_wp hT hi hs hnc h hK
  | true =>
    obtain ⟨dst, op, type, pos, after, guard⟩ := o
    simp only at h hnc hK
    unfold isCall at hnc
    split at hnc
    · rename_i fo args tys
      simp only [aop] at h
      split at h
      · rename_i f hf
        have hl : (args.toList.map ρ).length = (args.map a.eval).size := by simp
        have hr : ∀ (j : Nat) (u : V) (x : Value), (args.toList.map ρ)[j]? = some u → (args.map a.eval)[j]? = some x → Rd w I γ u x := by
          intro j u x h1 h2
          rw [List.getElem?_map] at h1
          rw [Array.getElem?_map] at h2
          cases hk : args[j]? with
          | none => rw [Array.getElem?_toList, hk] at h1; cases h1
          | some p => rw [Array.getElem?_toList, hk] at h1; rw [hk] at h2; cases h1; cases h2; exact hs p
        obtain ⟨⟨fn, b1, b2, b3⟩, hcalls⟩ := aCall_sound hC hi hl hr h
        have hfv : a.eval fo = .func (.func f) #[] #[] := by
          have := hs fo
          rw [hf] at this
          generalize a.eval fo = x at this
          cases this; rfl
        unfold Oper.wp
        have hex : execOp a.eval { dst := dst, op := .call ⟨.value fo, args, tys⟩, type := type, pos := pos, after := after, guard := guard } = callFunc f (args.map a.eval) := by
          show (do let d ← resolve a.eval ⟨.value fo, args, tys⟩ type; invoke d.target d.args) = _
          simp only [resolve, hfv, Deferred.ofValue, pure_bind, invoke]
          simp
        rw [hex, run_callFunc b1 b2 b3]
        show Calls P f (args.map a.eval) w _
        refine hcalls.mono ?_
        rintro e' w' ⟨v, I', γ', rfl, k1, k2, k3⟩
        exact hK v w' I' γ' k1 k2 k3
      · cases h
    · cases hnc
end
end Go.Lift
