/-
  Where branches meet: code from a state of data on, by parts.
-/
import Derived.Test.YtlelalnahlpcpaaGreatL28
set_option linter.unusedSimpArgs false
set_option linter.unusedVariables false
namespace Go.Lift

/-- What code comes to from any state of the machine that a state of data stands for. -/
def SemWp (P : Program) (N k : Nat) (c : Code) (Q : Exit → St → Prop) (st : St) : Prop :=
  ∀ w0 ex a w I γ, (∀ n, k ≤ n → ex.fix n = none) → Sim w0 ex N st a w I γ → ∀ Q' : Exit → Act → World → Prop, (∀ e st' a' w' I' γ', Q e st' → Sim w0 ex N st' a' w' I' γ' → Q' e a' w') → c.wp P Q' a w

section
variable {P : Program} {T : TypeId → Option TI} {C : FuncId → List V → List AObj → Option CRes} {N k : Nat}

theorem SemWp.weak {c : Code} {Q : Exit → St → Prop} {st st' : St} (hw : Weak k st st') (h : SemWp P N k c Q st') : SemWp P N k c Q st := fun w0 ex a w I γ hk hs Q' hQ => by
  obtain ⟨I', γ', hs'⟩ := hw w0 ex N a w I γ hk hs
  exact h w0 ex a w I' γ' hk hs' Q' hQ
theorem SemWp.mono {c : Code} {Q Q1 : Exit → St → Prop} {st : St} (h : SemWp P N k c Q st) (hQ : ∀ e st', Q e st' → Q1 e st') : SemWp P N k c Q1 st := fun w0 ex a w I γ hk hs Q' hQ' =>
  h w0 ex a w I γ hk hs Q' fun e st' a' w' I' γ' hq hs' => hQ' e st' a' w' I' γ' (hQ e st' hq) hs'
theorem SemWp.of_axwp (hT : TypesOk P T) (hC : SpecsOk P C) (hm : P.follows .mixedOrders = true) {c : Code} (hd : dstOk N c = true) {Q : Exit → St → Prop} {st : St} (h : axwp T C k c Q st) : SemWp P N k c Q st := fun _ _ _ _ _ _ hk hs _ hQ =>
  axwp_sound hT hC hm hk c hd hs h hQ

/-- A run up to the part of a code at a path; X: what that part must come to. -/
def axwpH (T : TypeId → Option TI) (C : FuncId → List V → List AObj → Option CRes) (k : Nat) (X : (Exit → St → Prop) → St → Prop) : List Nat → Code → (Exit → St → Prop) → St → Prop
  | [], _, Q, st => X Q st
  | n :: p, .seq a b, Q, st => if n = 0 then axwpH T C k X p a (fun e st' => match e with | .normal => axwp T C k b Q st' | e => Q e st') st
      else axwp T C k a (fun e st' => match e with | .normal => axwpH T C k X p b Q st' | e => Q e st') st
  | n :: p, .cond c x y, Q, st => if n = 0 then condV (axwpH T C k X p x Q st) (axwp T C k y Q st) (st.ev c) else condV (axwp T C k x Q st) (axwpH T C k X p y Q st) (st.ev c)
  | _ :: p, .block id c, Q, st => axwpH T C k X p c (fun e st' => match e with | .exit i => if i = id then Q .normal st' else Q (.exit i) st' | e => Q e st') st
  | _, _, _, _ => False
theorem axwpH_nil {X : (Exit → St → Prop) → St → Prop} {c : Code} {Q : Exit → St → Prop} {st : St} : axwpH T C k X [] c Q st = X Q st := by cases c <;> rfl
theorem axwpH_seq0 {X : (Exit → St → Prop) → St → Prop} {p : List Nat} {a b : Code} {Q : Exit → St → Prop} {st : St} : axwpH T C k X (0 :: p) (.seq a b) Q st = axwpH T C k X p a (fun e st' => match e with | .normal => axwp T C k b Q st' | e => Q e st') st := rfl
theorem axwpH_seq1 {X : (Exit → St → Prop) → St → Prop} {p : List Nat} {a b : Code} {Q : Exit → St → Prop} {st : St} : axwpH T C k X (1 :: p) (.seq a b) Q st = axwp T C k a (fun e st' => match e with | .normal => axwpH T C k X p b Q st' | e => Q e st') st := rfl
theorem axwpH_cond0 {X : (Exit → St → Prop) → St → Prop} {p : List Nat} {c : Operand} {x y : Code} {Q : Exit → St → Prop} {st : St} : axwpH T C k X (0 :: p) (.cond c x y) Q st = condV (axwpH T C k X p x Q st) (axwp T C k y Q st) (st.ev c) := rfl
theorem axwpH_cond1 {X : (Exit → St → Prop) → St → Prop} {p : List Nat} {c : Operand} {x y : Code} {Q : Exit → St → Prop} {st : St} : axwpH T C k X (1 :: p) (.cond c x y) Q st = condV (axwp T C k x Q st) (axwpH T C k X p y Q st) (st.ev c) := rfl
theorem axwpH_block {X : (Exit → St → Prop) → St → Prop} {n : Nat} {p : List Nat} {id : Nat} {c : Code} {Q : Exit → St → Prop} {st : St} : axwpH T C k X (n :: p) (.block id c) Q st = axwpH T C k X p c (fun e st' => match e with | .exit i => if i = id then Q .normal st' else Q (.exit i) st' | e => Q e st') st := rfl
attribute [simp] axwpH_nil axwpH_seq0 axwpH_seq1 axwpH_cond0 axwpH_cond1 axwpH_block

theorem condV_wp {c : Operand} {x y : Code} {A B : Prop} {st : St} {a : Act} {w : World} {Q' : Exit → Act → World → Prop} {w0 ex I γ} (hs : Sim w0 ex N st a w I γ) (h : condV A B (st.ev c)) (hx : A → x.wp P Q' a w) (hy : B → y.wp P Q' a w) : (Code.cond c x y).wp P Q' a w := by
  have hev := hs.ev c
  unfold condV at h
  split at h
  · rename_i hb
    rw [hb] at hev
    refine wp_cond_true ?_ (hx h)
    generalize a.eval c = v at hev
    cases hev; rfl
  · rename_i hb
    rw [hb] at hev
    refine wp_cond_false ?_ (hy h)
    generalize a.eval c = v at hev
    cases hev; rfl
  · rename_i hb
    rw [hb] at hev
    generalize hv : a.eval c = v at hev
    cases hev with
    | anyB _ b =>
      cases b with
      | true => exact wp_cond_true hv (hx h.1)
      | false => exact wp_cond_false hv (hy h.2)
  · exact h.elim

theorem axwpH_sound (hT : TypesOk P T) (hC : SpecsOk P C) (hm : P.follows .mixedOrders = true) : ∀ (p : List Nat) (c : Code) {Q : Exit → St → Prop} {st : St}, dstOk N c = true → axwpH T C k (fun Q st => SemWp P N k (subC p c) Q st) p c Q st → SemWp P N k c Q st
  | [], c, Q, st, _, h => by rw [axwpH_nil] at h; exact h
  | n :: p, c, Q, st, hd, h => by
    cases c with
    | seq a b =>
      simp only [dstOk, Bool.and_eq_true] at hd
      intro w0 ex ac w I γ hk hs Q' hQ
      simp only [axwpH, subC] at h
      by_cases hn : n = 0
      · simp only [if_pos hn] at h
        refine wp_seq (axwpH_sound hT hC hm p a hd.1 h w0 ex ac w I γ hk hs _ fun e st' a' w' I' γ' hq hs' => ?_)
        cases e with
        | normal => exact axwp_sound hT hC hm hk b hd.2 hs' hq hQ
        | _ => exact hQ _ _ _ _ _ _ hq hs'
      · simp only [if_neg hn] at h
        refine wp_seq (axwp_sound hT hC hm hk a hd.1 hs h fun e st' a' w' I' γ' hq hs' => ?_)
        cases e with
        | normal => exact axwpH_sound hT hC hm p b hd.2 hq w0 ex a' w' I' γ' hk hs' Q' hQ
        | _ => exact hQ _ _ _ _ _ _ hq hs'
    | cond c x y =>
      simp only [dstOk, Bool.and_eq_true] at hd
      intro w0 ex ac w I γ hk hs Q' hQ
      by_cases hn : n = 0
      · have e : (fun Q st => SemWp P N k (subC (n :: p) (.cond c x y)) Q st) = fun Q st => SemWp P N k (subC p x) Q st := by simp only [subC, if_pos hn]
        rw [e] at h
        simp only [axwpH, if_pos hn] at h
        exact condV_wp hs h (fun h => axwpH_sound hT hC hm p x hd.1 h w0 ex ac w I γ hk hs Q' hQ) (fun h => axwp_sound hT hC hm hk y hd.2 hs h hQ)
      · have e : (fun Q st => SemWp P N k (subC (n :: p) (.cond c x y)) Q st) = fun Q st => SemWp P N k (subC p y) Q st := by simp only [subC, if_neg hn]
        rw [e] at h
        simp only [axwpH, if_neg hn] at h
        exact condV_wp hs h (fun h => axwp_sound hT hC hm hk x hd.1 hs h hQ) (fun h => axwpH_sound hT hC hm p y hd.2 h w0 ex ac w I γ hk hs Q' hQ)
    | block id c =>
      intro w0 ex ac w I γ hk hs Q' hQ
      refine wp_block (axwpH_sound hT hC hm p c hd h w0 ex ac w I γ hk hs _ fun e st' a' w' I' γ' hq hs' => ?_)
      cases e with
      | exit i =>
        simp only [Exit.inBlock]
        simp only at hq
        split
        · rename_i e; rw [if_pos e] at hq; exact hQ _ _ _ _ _ _ hq hs'
        · rename_i e; rw [if_neg e] at hq; exact hQ _ _ _ _ _ _ hq hs'
      | _ => exact hQ _ _ _ _ _ _ hq hs'
    | _ => exact False.elim h

/-- A loop whose rounds are parted. -/
theorem SemWp.loop {c : Code} {Q : Exit → St → Prop} {st : St} {ι : Type} (S : ι → St) (ok : ι → Prop) (μ : ι → Nat) (i0 : ι) (h0 : Weak k st (S i0)) (hok : ok i0)
    (round : ∀ i, ok i → SemWp P N k c (fun e st' => match e with | .normal => Again k S ok μ i st' | e => Q e st') (S i)) : SemWp P N k (.loop c) Q st := by
  intro w0 ex a w I γ hk hs Q' hQ
  obtain ⟨I0, γ0, hs0⟩ := h0 _ _ _ _ _ _ _ hk hs
  refine wp_loop' (fun n a w => ∃ i I γ, ok i ∧ μ i = n ∧ Sim w0 ex N (S i) a w I γ) (fun n a w ⟨i, I, γ, h1, h2, hs⟩ => ?_) (n := μ i0) ⟨i0, I0, γ0, hok, rfl, hs0⟩
  refine round i h1 w0 ex a w I γ hk hs _ fun e st' a' w' I' γ' hq hs' => ?_
  cases e with
  | normal =>
    obtain ⟨j, q1, q2, q3⟩ := hq
    obtain ⟨I2, γ2, hs2⟩ := q3 _ _ _ _ _ _ _ hk hs'
    exact ⟨μ j, by omega, j, I2, γ2, q1, rfl, hs2⟩
  | _ => exact hQ _ _ _ _ _ _ hq hs'

/-- The code of a function from a path on. -/
def restC (f : Func) (p : List Nat) : Code := subC p (bodyC f)
theorem subC_add : ∀ (p q : List Nat) (c : Code), subC q (subC p c) = subC (p ++ q) c
  | [], q, c => rfl
  | n :: p, q, c => by
    have ih := subC_add p q
    cases c <;> simp only [subC, List.cons_append] <;> first | exact ih _ | (split <;> exact ih _) | skip
    all_goals (cases q <;> rfl)
/-- From one meeting of branches to the next. -/
theorem sem_at (hT : TypesOk P T) (hC : SpecsOk P C) (hm : P.follows .mixedOrders = true) (f : Func) (p q : List Nat) {c : Code} (hc : subC p (bodyC f) = c) (hd : dstOk N c = true) {Q : Exit → St → Prop} {st : St}
    (h : axwpH T C k (fun Q st => SemWp P N k (restC f (p ++ q)) Q st) q c Q st) : SemWp P N k (restC f p) Q st := by
  unfold restC at h ⊢
  rw [hc]
  refine axwpH_sound hT hC hm q c hd ?_
  have e : ∀ Q st, SemWp P N k (subC q c) Q st = SemWp P N k (subC (p ++ q) (bodyC f)) Q st := fun Q st => by rw [← hc, subC_add]
  simp only [e]; exact h
/-- From a meeting of branches to the end. -/
theorem sem_end (hT : TypesOk P T) (hC : SpecsOk P C) (hm : P.follows .mixedOrders = true) (f : Func) (p : List Nat) {c : Code} (hc : subC p (bodyC f) = c) (hd : dstOk N c = true) {Q : Exit → St → Prop} {st : St} (h : axwp T C k c Q st) : SemWp P N k (restC f p) Q st := by
  unfold restC
  rw [hc]
  exact SemWp.of_axwp hT hC hm hd h

theorem calls_of_sem (hT : TypesOk P T) {f : FuncId} {fn : Func} (hf : P.funcs[f]? = some fn) (hb : fn.body = some (bodyC fn)) {args : List V} {objs : List AObj} {r : CRes} (hlen : args.length ≤ fn.ntmps)
    (hsem : SemWp P fn.ntmps objs.length (restC fn []) (Ret T fn.results.toList r objs.length) (initSt args objs)) {w : World} {I : Nat → Prop} {γ : Nat → Option GI} {vs : Array Value} {wr : Nat → Prop} (hE : Entry w I γ wr args objs vs) :
    Calls P f vs w fun e w' => ∃ v I' γ', e = .returned v ∧ Leave w I γ wr r w' I' γ' v := by
  have hsem : SemWp P fn.ntmps objs.length (bodyC fn) (Ret T fn.results.toList r objs.length) (initSt args objs) := hsem
  refine calls_of_wp hf hb ?_
  have hsim : Sim w ⟨wr, I, γ⟩ fn.ntmps (initSt args objs) { tmps := vs ++ Array.replicate (fn.ntmps - vs.size) undef, defers := [] } w I γ := by
    refine ⟨by have := hE.len; simp; omega, fun n => ?_, hE.inv, rfl, hE.glob⟩
    simp only [initSt]
    by_cases hn : n < args.length
    · have hn' : n < vs.size := by rw [← hE.len]; exact hn
      have e1 : args.getD n .junk = args[n] := by simp [hn]
      have e2 : (vs ++ Array.replicate (fn.ntmps - vs.size) undef).getD n undef = vs[n] := by
        rw [Array.getD_eq_getD_getElem?, Array.getElem?_append_left hn', Array.getElem?_eq_getElem hn']; rfl
      rw [e1, e2]
      exact hE.rd n _ _ (List.getElem?_eq_getElem hn) (Array.getElem?_eq_getElem hn')
    · have e1 : args.getD n .junk = .junk := by simp [hn]
      rw [e1]; exact .junk _ _
  have hdom : ∀ n, objs.length ≤ n → γ n = none := by
    intro n hn
    cases hg : γ n with
    | none => rfl
    | some gi => exact absurd (List.getElem?_eq_none hn) (hE.inv.dom n gi hg)
  refine hsem _ _ _ _ _ _ hdom hsim _ fun e st' a' w' I' γ' hq hs => ?_
  obtain ⟨st1, hw, he, hk, ns, n1, n2, n3, n4, n5, n6⟩ := hq
  obtain ⟨I1, γ1, hs⟩ := hw _ _ _ _ _ _ _ hdom hs
  obtain ⟨x, x1, x2⟩ := retV_sound (P := P) hT hs n3
  have hinv := hs.inv.unren (f := ns) (g' := fun n => r.objs[n]?) (fun n o hn => n4 n o hn) (fun n m o o' h1 h2 he => n2 n m (List.getElem?_eq_some_iff.1 h1).1 (List.getElem?_eq_some_iff.1 h2).1 he)
    (fun n o hn => by
      have := n6 o (List.mem_of_getElem? hn)
      have e : (fun n => (r.objs[n]?).isSome) = fun j => decide (j < r.objs.length) := by
        funext j
        by_cases hj : j < r.objs.length <;> simp [hj]
      rw [e]; exact this)
    (fun n gi hn => by
      have hlt : n < objs.length := Nat.lt_of_not_le fun hle => by
        replace hn : γ n = some gi := hn
        rw [hdom n hle] at hn; cases hn
      have : n < r.objs.length := Nat.lt_of_lt_of_le hlt hk
      exact ⟨n1 n hlt, by simp [this]⟩)
  have hfin : a'.defers = [] ∧ ∃ v, (results fn a'.tmps).run P w' = .ok v w' ∧ ∃ v' I'' γ'', Ending.returned v = .returned v' ∧ Leave w I γ wr r w' I'' γ'' v' := by
    refine ⟨hs.defers, x, x1, x, I1, _, rfl, hinv, ?_, ?_⟩
    · refine x2.unren (D := fun j => decide (j < r.objs.length)) _ rfl n5 fun n hn => ?_
      simp only [decide_eq_true_eq] at hn
      simp [hn]
    · exact ⟨fun b hb => ⟨hs.inv.keep b hb, hs.inv.frame b (hE.inv.lt b hb) fun h => hE.wrI b h hb⟩, hinv.fix⟩
  cases e with
  | normal => exact hfin
  | ret => exact hfin
  | _ => exact he.elim

/-- A function's specification, by parts. -/
theorem spec_famS {f : FuncId} {fn : Func} (hf : P.funcs[f]? = some fn) (hname : (fn.name == "runtime.NumGoroutine") = false) (hb : fn.body = some (bodyC fn))
    {ι : Type} {A : ι → List V} {O : ι → List AObj} {ok : ι → Prop} {res : ι → CRes} (h : ∀ i, ok i → (A i).length ≤ fn.ntmps ∧ ∀ r, r = res i → SemWp P fn.ntmps (O i).length (restC fn []) (Ret T fn.results.toList r (O i).length) (initSt (A i) (O i))) (hT : TypesOk P T) : Spec P f (fam A O ok res) := by
  refine ⟨⟨fn, hf, hname, by rw [hb]; rfl⟩, fun args objs r hr w I γ wr vs hE => ?_⟩
  obtain ⟨i, hi, rfl, rfl, rfl⟩ := fam_some hr
  obtain ⟨hlen, hax⟩ := h i hi
  exact calls_of_sem hT hf hb hlen (hax _ rfl) hE

/-! ### Objects that were handed over and are not used any more -/
theorem weak_at2 {st : St} {sl : List (Nat × V)} {ob : List (Nat × AObj)} {c : Nat} (l : List (Nat ⊕ Nat)) (hs : ∀ p ∈ sl, st.s p.1 = p.2.ren (namesIn st l) ∧ p.2.within (fun n => (getG ob n).isSome) = true)
    (hg : ∀ p ∈ ob, st.g (namesIn st l p.1) = some (p.2.ren (namesIn st l)) ∧ p.2.within (fun n => (getG ob n).isSome) = true) (hinj : ∀ p ∈ ob, ∀ q ∈ ob, namesIn st l p.1 = namesIn st l q.1 → p.1 = q.1) (h0 : namesIn st l 0 = 0 ∧ (getG ob 0).isSome = true) (h1 : namesIn st l 1 = 1 ∧ (getG ob 1).isSome = true) : Weak 2 st (mkSt sl ob c) :=
  weak_at l hs hg hinj fun n hn => by
    have : n = 0 ∨ n = 1 := by omega
    rcases this with rfl | rfl
    · exact h0
    · exact h1
theorem Inv.dead {w0 w : World} {ex I γ} {g : Nat → Option AObj} (hi : Inv w0 ex I γ g w) {m : Nat} {o o' : AObj} (hg : g m = some o) (hd : o'.md = .dead) : Inv w0 ex I γ (upd g m (some o')) w := by
  have hup : ∀ x y, upd g m (some o') x = some y → y.md ≠ .dead → g x = some y := by
    intro x y h hy
    by_cases e : x = m
    · subst e; rw [upd_same] at h; cases h; exact absurd hd hy
    · rw [upd_ne _ _ e] at h; exact h
  refine ⟨fun n x hx hm => hi.obj n x (hup n x hx hm) hm, fun a b o1 o2 gi gi' h1 h2 d1 d2 => hi.inj a b o1 o2 gi gi' (hup a o1 h1 d1) (hup b o2 h2 d2) d1 d2, fun a o1 gi h1 d1 => hi.own a o1 gi (hup a o1 h1 d1) d1, fun a gi h1 h2 => ?_,
    hi.lt, hi.keep, hi.fix, hi.back, hi.frame, hi.os, hi.tape, hi.output, hi.size, by
      obtain ⟨F, hF⟩ := hi.trees
      exact ⟨F, hF.less (fun _ h => h) (fun _ _ _ _ _ _ _ h => h) (fun n x hx hm => .inl ⟨x, hup n x hx hm, hm, fun _ _ _ h _ => h⟩) (fun n x gi hx hm hγ _ => ⟨hγ, x, hup n x hx hm, hm⟩)⟩⟩
  by_cases e : a = m
  · subst e; rw [upd_same] at h2; cases h2
  · rw [upd_ne _ _ e] at h2; exact hi.dom a gi h1 h2
theorem weak_dead {st : St} (m : Nat) (o o' : AObj) (hg : st.g m = some o) (hd : o'.md = .dead) : Weak k st { st with g := upd st.g m (some o') } := by
  intro w0 ex N a w I γ _ hs
  exact ⟨I, γ, hs.size, hs.slots, hs.inv.dead hg hd, hs.defers, hs.glob⟩
/-- The end of a function that was handed two objects: they become data where they stand in the result, and are not used any more. -/
theorem retDead {res : List ResultVar} {v : V} {e : Exit} {st : St} {o0 o1 d0 d1 : AObj} (he : isEnd e = true) (h0 : st.g 0 = some o0) (h1 : st.g 1 = some o1) (m0 : o0.md ≠ .dead ∧ o0.fl ≠ 0) (m1 : o1.md ≠ .dead ∧ o1.fl ≠ 0) (e0 : d0.md = .dead ∧ d0.fl ≠ 0) (e1 : d1.md = .dead ∧ d1.fl ≠ 0) (hc : v.closed = true)
    (hv : retV T { fzSt [0, 1] st with g := upd (upd (fzSt [0, 1] st).g 0 (some d0)) 1 (some d1) } res = some v) : Ret T res ⟨v, [d0, d1]⟩ 2 e st := by
  have hz : ∀ n ∈ [0, 1], ∃ o, st.g n = some o ∧ o.md ≠ .dead ∧ o.fl ≠ 0 := by
    intro n hn
    simp at hn
    rcases hn with rfl | rfl
    · exact ⟨o0, h0, m0⟩
    · exact ⟨o1, h1, m1⟩
  have hsome : ∀ n o, st.g n = some o → ∃ o', (fzSt [0, 1] st).g n = some o' := by
    intro n o hn
    show ∃ o', (setAll st.g (freeze st.g [0, 1]) n).map (fzO st.g [0, 1]) = some o'
    rcases setAll_spec (freeze st.g [0, 1]) st.g n with ⟨o', _, h⟩ | ⟨_, h⟩
    · rw [h]; exact ⟨_, rfl⟩
    · rw [h, hn]; exact ⟨_, rfl⟩
  obtain ⟨p0, q0⟩ := hsome 0 o0 h0
  obtain ⟨p1, q1⟩ := hsome 1 o1 h1
  refine Ret.weak (Ret0.ret ⟨by cases e <;> simp [isEnd] at he <;> trivial, by simp, id, fun _ _ => rfl, fun i j _ _ h => h, by rw [hv]; simp [ren_closed _ _ hc], fun j o ho => ?_, within_closed _ _ hc, fun o ho => ?_⟩) ((weak_fz [0, 1] hz).trans ((weak_dead 0 p0 d0 q0 e0.1).trans (weak_dead 1 p1 d1 (by show upd (fzSt [0, 1] st).g 0 (some d0) 1 = some p1; rw [upd_ne _ _ (by decide)]; exact q1) e1.1)))
  · match j, ho with
    | 0, ho => simp at ho; subst ho; rw [AObj.ren_eq e0.2]; show upd (upd (fzSt [0, 1] st).g 0 (some d0)) 1 (some d1) 0 = _; rw [upd_ne _ _ (by decide), upd_same]
    | 1, ho => simp at ho; subst ho; rw [AObj.ren_eq e1.2]; show upd (upd (fzSt [0, 1] st).g 0 (some d0)) 1 (some d1) 1 = _; rw [upd_same]
    | j + 2, ho => simp at ho
  · simp at ho
    rcases ho with rfl | rfl
    · simp [AObj.within, e0.2]
    · simp [AObj.within, e1.2]
def aliveG (st : St) (n : Nat) : Bool := match st.g n with
  | some o => decide (o.md ≠ .dead) && decide (o.fl ≠ 0)
  | none => false
theorem aliveG_some {st : St} {n : Nat} (h : aliveG st n = true) : ∃ o, st.g n = some o ∧ o.md ≠ .dead ∧ o.fl ≠ 0 := by
  unfold aliveG at h
  split at h
  · rename_i o ho
    simp only [Bool.and_eq_true, decide_eq_true_eq] at h
    exact ⟨o, ho, h⟩
  · cases h
theorem retDead' {res : List ResultVar} {v : V} {e : Exit} {st : St} {d0 d1 : AObj} (he : isEnd e = true) (h0 : aliveG st 0 = true) (h1 : aliveG st 1 = true) (e0 : d0.md = .dead ∧ d0.fl ≠ 0) (e1 : d1.md = .dead ∧ d1.fl ≠ 0) (hc : v.closed = true)
    (hv : retV T { fzSt [0, 1] st with g := upd (upd (fzSt [0, 1] st).g 0 (some d0)) 1 (some d1) } res = some v) : Ret T res ⟨v, [d0, d1]⟩ 2 e st := by
  obtain ⟨o0, a0, m0⟩ := aliveG_some h0
  obtain ⟨o1, a1, m1⟩ := aliveG_some h1
  exact retDead he a0 a1 m0 m1 e0 e1 hc hv
end
end Go.Lift
