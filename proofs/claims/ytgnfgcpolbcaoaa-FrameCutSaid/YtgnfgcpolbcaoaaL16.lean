/-
  Regions: the operations in the order of the text, and in any order that Go may take.
-/
import Derived.Test.YtgnfgcpolbcaoaaL15
namespace Go.Lift

variable {P : Program} {T : TypeId → Option TI} {C : FuncId → List V → List AObj → Option CRes}

structure Sim (w0 : World) (ex : Ex) (N : Nat) (st : St) (a : Act) (w : World) (I : Nat → Prop) (γ : Nat → Option GI) : Prop where
  size : a.tmps.size = N
  slots : ∀ n, Rd w I γ (st.s n) (a.tmps.getD n undef)
  inv : Inv w0 ex I γ st.g w
  defers : a.defers = []

theorem Sim.ev {w0 ex N st a w I γ} (h : Sim w0 ex N st a w I γ) (x : Operand) : Rd w I γ (st.ev x) (a.eval x) := by
  cases x with
  | tmp t => exact h.slots t
  | const v => exact Rd.ofConst w I γ v
  | global g => exact .junk _ _
  | func f => exact .fn _ _

theorem Sim.put {w0 ex N st a w I γ} (h : Sim w0 ex N st a w I γ) {d : Option Tmp} (hd : ∀ t, d = some t → t < N) {v : V} {x : Value} {g' : Nat → Option AObj} {w' I' γ'} (hr : Rd w' I' γ' v x) (hi : Inv w0 ex I' γ' g' w') (he : Ext I γ w I' γ' w') :
    Sim w0 ex N { st with s := putS st.s d v, g := g' } (a.put d x) w' I' γ' := by
  cases d with
  | none => exact ⟨h.size, fun n => he.rd (h.slots n), hi, h.defers⟩
  | some t =>
    have ht := hd t rfl
    refine ⟨by simp [Act.put, h.size], fun n => ?_, hi, h.defers⟩
    by_cases e : n = t
    · subst e
      simp only [putS, upd_same, Act.put]
      have : (a.tmps.setIfInBounds n x).getD n undef = x := by simp [Array.getD, h.size, ht]
      rw [this]; exact hr
    · simp only [putS, upd_ne _ _ e, Act.put]
      have : (a.tmps.setIfInBounds t x).getD n undef = a.tmps.getD n undef := by
        rw [Array.getD_eq_getD_getElem?, Array.getD_eq_getD_getElem?, Array.getElem?_setIfInBounds_ne (fun h => e h.symm)]
      rw [this]; exact he.rd (h.slots n)

theorem guard_sound {w0 ex N st a w I γ} (h : Sim w0 ex N st a w I γ) {ops : Array Oper} {o : Oper} {b : Bool} (hg : guardOf ops o st.s = some b) : Region.wanted o (yielded ops a.tmps) = b := by
  unfold guardOf at hg
  unfold Region.wanted
  split at hg
  · rename_i h0; rw [h0]; cases hg; rfl
  · rename_i j want h0
    rw [h0]
    simp only
    split at hg
    · rename_i d hd
      split at hg
      · rename_i c hs
        cases hg
        have hr := h.slots d
        rw [hs] at hr
        have hv : a.tmps[d]? = some (.bool c) := by
          generalize hx : a.tmps.getD d undef = x at hr
          cases hr
          rw [Array.getD_eq_getD_getElem?] at hx
          cases hk : a.tmps[d]? with
          | none => rw [hk] at hx; cases hx
          | some y => rw [hk] at hx; rw [← hx]; rfl
        have : yielded ops a.tmps j = some c := by unfold yielded; rw [hd]; simp [hv]
        rw [this]
        cases c <;> cases want <;> rfl
      · rename_i hs
        cases hg
        have hr := h.slots d
        rw [hs] at hr
        have hv : a.tmps.getD d undef = .tuple #[] := by
          generalize hx : a.tmps.getD d undef = x at hr
          cases hr with
          | tup _ _ xs hl _ =>
            have : xs = #[] := Array.eq_empty_of_size_eq_zero hl.symm
            rw [this]
        have : yielded ops a.tmps j = none := by
          unfold yielded
          rw [hd]
          rw [Array.getD_eq_getD_getElem?] at hv
          cases hk : a.tmps[d]? with
          | none => simp [hk]
          | some y => rw [hk] at hv; simp at hv; subst hv; simp [hk]
        rw [this]
        rfl
      · cases hg
    · cases hg

theorem astep_sound (hT : TypesOk P T) (hC : SpecsOk P C) {w0 ex N st a w I γ} (h : Sim w0 ex N st a w I γ) {ops : Array Oper} {i : Nat} {st' : St} {rd wr : List Nat} (hs : astep T C ops i st = some (st', rd, wr))
    (hN : ∀ (o : Oper) t, ops[i]? = some o → o.dst = some t → t < N) {K : Act → World → Prop} {Q : Exit → Act → World → Prop} (hK : ∀ a' w' I' γ', Sim w0 ex N st' a' w' I' γ' → K a' w') : wpOp P ops Q i K a w := by
  unfold astep at hs
  unfold wpOp
  split at hs
  · cases hs
  · rename_i o ho
    rw [ho]
    simp only
    split at hs
    · cases hs
    · rename_i hg
      cases hs
      rw [guard_sound h hg]
      simp only [Bool.false_eq_true, if_false]
      have := h.put (d := o.dst) (fun t ht => hN o t ho ht) (v := .tup []) (x := undef) (.tup _ [] #[] rfl (fun j u x hu => by simp at hu)) h.inv (Ext.refl _ _ _)
      exact hK _ _ _ _ this
    · rename_i hg
      split at hs
      · cases hs
      · rename_i e he
        cases hs
        rw [guard_sound h hg]
        simp only [if_true]
        exact .inl (op_wp hT hC h.inv h.ev he fun x w' I' γ' h1 h2 h3 => hK _ _ _ _ (h.put (fun t ht => hN o t ho ht) h1 h2 h3))

/-- The operations of a list, one behind the other, and what each looks at. -/
def runL (T : TypeId → Option TI) (C : FuncId → List V → List AObj → Option CRes) (ops : Array Oper) : List Nat → St → Option (St × List (Nat × List Nat × List Nat))
  | [], st => some (st, [])
  | i :: r, st => match astep T C ops i st with
    | some (st', rd, wr) => match runL T C ops r st' with
      | some (st'', l) => some (st'', (i, rd, wr) :: l)
      | none => none
    | none => none

theorem runL_sound (hT : TypesOk P T) (hC : SpecsOk P C) {w0 ex N} {ops : Array Oper} (hN : ∀ (i : Nat) (o : Oper) t, ops[i]? = some o → o.dst = some t → t < N) {Q : Exit → Act → World → Prop} : ∀ {l : List Nat} {st st' : St} {fp a w I γ}, Sim w0 ex N st a w I γ → runL T C ops l st = some (st', fp) →
    (∀ a' w' I' γ', Sim w0 ex N st' a' w' I' γ' → Q .normal a' w') → wpOps P ops Q l a w
  | [], st, st', fp, a, w, I, γ, h, hr, hQ => by cases hr; exact hQ _ _ _ _ h
  | i :: l, st, st', fp, a, w, I, γ, h, hr, hQ => by
    rw [wpOps_cons]
    simp only [runL] at hr
    split at hr
    · rename_i st1 rd wr hs
      split at hr
      · rename_i st2 l' h2
        cases hr
        exact astep_sound hT hC h hs (hN i) fun a' w' I' γ' h' => runL_sound hT hC hN h' h2 hQ
      · cases hr
    · cases hr

theorem ev_congr {st st' : St} {l : List Operand} (h : ∀ d, Operand.tmp d ∈ l → st'.s d = st.s d) : ∀ x ∈ l, st'.ev x = st.ev x := by
  intro x hx
  cases x with
  | tmp t => exact h t hx
  | _ => rfl

theorem aop_congr {ρ ρ' : Operand → V} {g : Nat → Option AObj} {nm : Nat} {op : Op} (h : ∀ x ∈ op.operands, ρ' x = ρ x) : aop T C ρ' g nm op = aop T C ρ g nm op := by
  have pairs : ∀ ps : Array (Nat × Operand), (∀ x ∈ ps.map (·.2), ρ' x = ρ x) → (ps.toList.map fun (i, x) => (i, ρ' x)) = (ps.toList.map fun (i, x) => (i, ρ x)) := fun ps hp =>
    List.map_congr_left fun p hm => by
      obtain ⟨i, x⟩ := p
      simp only [hp x (Array.mem_map.2 ⟨(i, x), Array.mem_toList_iff.1 hm, rfl⟩)]
  have opt : ∀ o : Option Operand, (∀ x ∈ o.toArray, ρ' x = ρ x) → o.map ρ' = o.map ρ := fun o ho => by
    cases o with
    | none => rfl
    | some x => simp [ho x (by simp)]
  unfold aop
  cases op <;> simp only [Op.operands] at h <;> simp only
  case build t ps => rw [pairs ps fun x hx => h x (by simpa using hx)]
  case buildSlice t n ps => rw [pairs ps fun x hx => h x (by simpa using hx)]
  case slice t x lo hi mx => rw [h x (by simp), opt lo (fun y hy => h y (by simp at hy ⊢; exact .inr (.inl hy))), opt hi (fun y hy => h y (by simp at hy ⊢; exact .inr (.inr (.inl hy)))), opt mx (fun y hy => h y (by simp at hy ⊢; exact .inr (.inr (.inr hy))))]
  case call c =>
    obtain ⟨cal, args, tys⟩ := c
    have ha : args.toList.map ρ' = args.toList.map ρ := List.map_congr_left fun x hx => h x (by simp only [Call.operands, Array.mem_append]; exact .inr (Array.mem_toList_iff.1 hx))
    cases cal with
    | value f => simp only [ha, h f (by simp [Call.operands])]
    | builtin b => simp only [ha]
    | invoke r m => rfl
  all_goals (first | rfl | (simp_all; done))
end Go.Lift
