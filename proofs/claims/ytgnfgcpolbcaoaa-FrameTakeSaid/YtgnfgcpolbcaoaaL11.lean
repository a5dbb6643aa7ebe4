/-
  One operation that is no call of a Go function, in the model's own form.
-/
import Derived.Test.YtgnfgcpolbcaoaaL10
namespace Go.Lift

section
variable {P : Program} {T : TypeId → Option TI} {C : FuncId → List V → List AObj → Option CRes}

/-- What an operation must come to. -/
def Gives (w0 : World) (ex : Ex) (I : Nat → Prop) (γ : Nat → Option GI) (g : Nat → Option AObj) (w : World) (e : Eff) (r : Result Value) : Prop :=
  ∃ x w' I' γ', r = .ok x w' ∧ Rd w' I' γ' e.v x ∧ Inv w0 ex I' γ' (setAll g e.wr) w' ∧ Ext I γ w I' γ' w'

theorem Gives.pure {w0 w : World} {ex I γ g} (hi : Inv w0 ex I γ g w) {v : V} {rd : List Nat} {r : Result Value} (h : ∃ x, r = .ok x w ∧ Rd w I γ v x) : Gives w0 ex I γ g w ⟨v, [], rd⟩ r := by
  obtain ⟨x, h1, h2⟩ := h
  exact ⟨x, w, I, γ, h1, h2, hi, Ext.refl _ _ _⟩
theorem Gives.of {w0 w : World} {ex I γ g} {e : Eff} {r : Result Value} (h : ∃ x w' γ', r = .ok x w' ∧ Rd w' I γ' e.v x ∧ Inv w0 ex I γ' (setAll g e.wr) w' ∧ Ext I γ w I γ' w') : Gives w0 ex I γ g w e r := by
  obtain ⟨x, w', γ', h1, h2, h3, h4⟩ := h
  exact ⟨x, w', I, γ', h1, h2, h3, h4⟩

theorem pureEff_some {o : Option V} {e : Eff} (h : pureEff o = some e) : ∃ v, o = some v ∧ e = ⟨v, [], []⟩ := by
  unfold pureEff at h
  cases o with
  | none => cases h
  | some v => cases h; exact ⟨v, rfl, rfl⟩

theorem aMin_sound {w : World} {I γ} {b : Bool} {xs : List V} {vs : List Value} {v : V} (hl : xs.length = vs.length) (hr : ∀ (j : Nat) (u : V) (x : Value), xs[j]? = some u → vs[j]? = some x → Rd w I γ u x) (h : aMin b xs = some v) (a1 : Array TypeId) (t : TypeId) :
    ∃ r, (if b then Builtin.max_ a1 t vs.toArray else Builtin.min_ a1 t vs.toArray).run P w = .ok r w ∧ Rd w I γ v r := by
  unfold aMin at h
  split at h
  · rename_i k a k' b'
    split at h
    · rename_i hk
      cases h
      match vs, hl with
      | [x, y], _ =>
        have h1 := hr 0 _ x rfl rfl
        have h2 := hr 1 _ y rfl rfl
        cases h1; cases h2
        subst hk
        cases b
        · refine ⟨_, ?_, .int _ _ _⟩
          simp [Builtin.min_, Builtin.min2]
        · refine ⟨_, ?_, .int _ _ _⟩
          simp [Builtin.max_, Builtin.max2]
    · cases h
  · cases h

theorem szOf_rows {w0 w : World} {ex I γ g} (hi : Inv w0 ex I γ g w) {y : V} {vy : Value} {es : List (List V)} {rd : List Nat} {n : Nat} (hy : Rd w I γ y vy) (he : elemsOf g y = some (es, rd)) (hs : szOf g y = some n) : ∀ r ∈ es, r.length = n := by
  unfold elemsOf at he
  unfold szOf at hs
  split at he
  · cases he; cases hs
    cases hy with
    | nil => intro r hr; cases hr
    | sl _ _ _ _ a n c xs h0 h1' hlen hnc hcm hes => exact hes
  · split at he
    · rename_i o hg
      split at he
      · rename_i hc
        cases he
        simp only [hg, Option.some.injEq] at hs
        intro r hr
        rw [← hs]
        exact (hi.obj _ o hg hc.1).rows r (List.mem_of_mem_drop (List.mem_of_mem_take hr))
      · cases he
    · cases he
  · cases he

theorem aBuiltin_sound (hT : TypesOk P T) {w0 w : World} {ex I γ g} (hi : Inv w0 ex I γ g w) {nm : Nat} {b : Builtin} {tys : Array TypeId} {ty : TypeId} {args : List V} {vs : List Value} {e : Eff} (hl : args.length = vs.length)
    (hr : ∀ (j : Nat) (u : V) (x : Value), args[j]? = some u → vs[j]? = some x → Rd w I γ u x) (h : aBuiltin T g nm b tys.toList args = some e) (cs : Array Bool) :
    ∃ s : Sem Value, builtin b tys ty cs vs.toArray = (do pure (.value (← s))) ∧ Gives w0 ex I γ g w e (s.run P w) := by
  unfold aBuiltin at h
  split at h
  · -- len
    rename_i x
    match vs, hl with
    | [vx], _ =>
      have hx := hr 0 _ vx rfl rfl
      refine ⟨_, rfl, ?_⟩
      obtain ⟨tl⟩ := tys
      cases tl with
      | nil => simp at h
      | cons t tl =>
        simp only at h
        have key : ∀ d, descOf T t = some d → ∀ n : Nat, (match d, vx with | .string, .string s => s.size = n | .slice _, .slice _ m _ => m = n | _, _ => False) → (Builtin.len_ (⟨t :: tl⟩ : Array TypeId) ty #[vx]).run P w = .ok (.int .i64 n) w := by
          intro d hd n hn
          unfold Builtin.len_
          simp only [List.getElem?_toArray, List.getElem?_cons_zero, Sem.run_bind, desc_under hT hd, Result.andThen_ok]
          cases d <;> cases vx <;> simp only at hn <;> first | exact hn.elim | (subst hn; rfl)
        split at h
        · rename_i hd _; cases h; cases hx
          exact .pure hi ⟨_, key _ hd _ rfl, .int _ _ _⟩
        · rename_i hd _; cases h
          refine .pure hi ⟨_, key _ hd _ ?_, .int _ _ _⟩
          cases hx with
          | nil => rfl
          | sl _ _ _ _ a n c xs h0 h1 hlen => exact hlen.symm
        · rename_i hd _; cases h
          refine .pure hi ⟨_, key _ hd _ ?_, .int _ _ _⟩
          cases hx <;> rfl
        · cases h
  · -- cap
    rename_i tg sz es
    match vs, hl with
    | [vx], _ =>
      have hx := hr 0 _ vx rfl rfl
      refine ⟨_, rfl, ?_⟩
      obtain ⟨tl⟩ := tys
      cases tl with
      | nil => simp at h
      | cons t tl =>
        simp only at h
        split at h
        · rename_i el hd
          have key : ∀ (a : Option Addr) (n m : Nat), vx = .slice a n m → (Builtin.cap_ (⟨t :: tl⟩ : Array TypeId) ty #[vx]).run P w = .ok (.int .i64 m) w := by
            rintro a n m rfl
            unfold Builtin.cap_
            simp only [List.getElem?_toArray, List.getElem?_cons_zero, Sem.run_bind, desc_under hT hd, Result.andThen_ok]
            rfl
          split at h
          · split at h
            · rename_i h0 he
              cases h
              subst h0
              cases hx with
              | nil => exact .pure hi ⟨_, key _ _ _ rfl, .int _ _ _⟩
              | sl _ _ _ _ a n c xs h0 => exact absurd rfl h0
            · cases h
          · split at h
            · rename_i h0 h1
              cases h
              refine .pure hi ⟨.int .i64 es.length, ?_, .int _ _ _⟩
              cases hx with
              | nil => exact key _ _ _ rfl
              | sl _ _ _ _ a n c xs h0 h1' hlen =>
                have e : (es.length : Int) = (c : Int) := by rw [hlen, h1' h1]
                rw [e]; exact key _ _ _ rfl
            · cases h
        · cases h
  · -- append
    rename_i x y
    match vs, hl with
    | [vx, vy], _ =>
      have hx := hr 0 _ vx rfl rfl
      have hy := hr 1 _ vy rfl rfl
      refine ⟨_, rfl, ?_⟩
      obtain ⟨tl⟩ := tys
      simp only at h
      split at h
      · rename_i el tt tx hd
        simp only at hd
        split at h
        · rename_i s hd2 _
          split at h
          · rename_i hb
            obtain ⟨hb1, ei, hb2, hb3⟩ := isByte_some hT hb
            obtain ⟨t2, s3, s4⟩ := descOf_some hd2
            have hu2 : P.underlying tx = some .string := by rw [← s4]; exact (hT tx t2 s3).under
            cases hy
            refine .of (aAppend_sound hT hi hd hx (fun ei' h' => ?_) h)
            have hsz : ei'.size = 1 := by rw [hb2] at h'; cases h'; exact hb3
            rw [hsz]; exact .ofString hu2 s
          · cases h
        · rename_i e' hd2 _
          split at h
          · rename_i es rd he
            split at h
            · rename_i hsz
              refine .of (aAppend_sound hT hi hd hx (fun ei' h' => src_of hT hi hy he hd2 ?_) h)
              intro r hrm
              rcases hsz with hsz | hsz
              · have hs' : sizeT T el = some ei'.size := by simp [sizeT, h']
                rw [hs'] at hsz
                exact szOf_rows hi hy he hsz r hrm
              · have : es = [] := by simpa using hsz
                rw [this] at hrm; cases hrm
            · cases h
          · cases h
        · rename_i n hd2 _
          split at h
          · rename_i sz
            cases hy
            have hx' : vx = .slice none 0 0 := by
              cases hx with
              | nil => rfl
              | sl _ _ _ _ a n c xs h0 => exact absurd rfl h0
            subst hx'
            obtain ⟨t1, q1, q2⟩ := descOf_some hd
            obtain ⟨t2, s3, s4⟩ := descOf_some hd2
            refine .of (aZeros_sound hT hi (by rw [← q2]; exact (hT _ t1 q1).under) (by rw [← s4]; exact (hT _ t2 s3).under) h)
          · cases h
        · cases h
      · cases h
  · obtain ⟨v, h1, rfl⟩ := pureEff_some h
    exact ⟨_, rfl, .pure hi (by simpa using aMin_sound (P := P) (b := false) hl hr h1 tys ty)⟩
  · obtain ⟨v, h1, rfl⟩ := pureEff_some h
    exact ⟨_, rfl, .pure hi (by simpa using aMin_sound (P := P) (b := true) hl hr h1 tys ty)⟩
  · cases h

def isCall : Op → Bool
  | .call ⟨.value _, _, _⟩ => true
  | _ => false

theorem parts_rd {w : World} {I γ} {ρ : Operand → V} {a : Act} (hs : ∀ x, Rd w I γ (ρ x) (a.eval x)) (ps : Array (Nat × Operand)) :
    (ps.map fun (i, x) => (i, a.eval x)).toList.length = (ps.toList.map fun (i, x) => (i, ρ x)).length ∧
    ∀ (k : Nat) (i i' : Nat) (v : V) (x : Value), (ps.toList.map fun (i, x) => (i, ρ x))[k]? = some (i, v) → (ps.map fun (i, x) => (i, a.eval x)).toList[k]? = some (i', x) → i = i' ∧ Rd w I γ v x := by
  refine ⟨by simp, fun k i i' v x h1 h2 => ?_⟩
  rw [List.getElem?_map] at h1
  rw [Array.toList_map, List.getElem?_map] at h2
  cases hk : ps.toList[k]? with
  | none => rw [hk] at h1; cases h1
  | some p =>
    rw [hk] at h1 h2
    cases h1; cases h2
    exact ⟨rfl, hs _⟩

theorem opt_rd {w : World} {I γ} {ρ : Operand → V} {a : Act} (hs : ∀ x, Rd w I γ (ρ x) (a.eval x)) (o : Option Operand) : (∀ v, o.map ρ = some v → ∃ x, o.map a.eval = some x ∧ Rd w I γ v x) ∧ (o.map ρ = none → o.map a.eval = none) := by
  cases o with
  | none => exact ⟨(fun v h => by cases h), (fun _ => rfl)⟩
  | some x => exact ⟨(fun v h => by cases h; exact ⟨_, rfl, hs x⟩), (fun h => by cases h)⟩

theorem upon_value {o : Oper} {a : Act} {w : World} {K : Act → World → Prop} {Q : Exit → Act → World → Prop} {s : Sem Value} (he : execOp a.eval o = (do pure (.value (← s)))) {x : Value} {w' : World} (hs : s.run P w = .ok x w') (hk : K (a.put o.dst x) w') : o.wp P a w K Q := by
  unfold Oper.wp
  rw [he, Sem.run_bind, hs]
  exact hk

theorem aop_wp (hT : TypesOk P T) {w0 w : World} {ex I γ g} (hi : Inv w0 ex I γ g w) {ρ : Operand → V} {a : Act} (hs : ∀ x, Rd w I γ (ρ x) (a.eval x)) {nm : Nat} {o : Oper} {e : Eff} (hnc : isCall o.op = false) (h : aop T C ρ g nm o.op = some e)
    {K : Act → World → Prop} {Q : Exit → Act → World → Prop} (hK : ∀ x w' I' γ', Rd w' I' γ' e.v x → Inv w0 ex I' γ' (setAll g e.wr) w' → Ext I γ w I' γ' w' → K (a.put o.dst x) w') : o.wp P a w K Q := by
  have fin : ∀ s : Sem Value, execOp a.eval o = (do pure (.value (← s))) → Gives w0 ex I γ g w e (s.run P w) → o.wp P a w K Q := by
    intro s he hg
    obtain ⟨x, w', I', γ', h1, h2, h3, h4⟩ := hg
    exact upon_value he h1 (hK x w' I' γ' h2 h3 h4)
  obtain ⟨dst, op, type, pos, after, guard⟩ := o
  simp only at h hnc hK fin
  unfold aop at h
  split at h
  case h_1 x => cases h; exact fin (pure (a.eval x)) rfl (.pure hi ⟨_, rfl, hs x⟩)
  case h_2 x => cases h; exact fin (pure (a.eval x)) rfl (.pure hi ⟨_, rfl, hs x⟩)
  case h_3 c x y =>
    have hc := hs c
    split at h
    · rename_i hv
      rw [hv] at hc
      cases h
      refine upon_value (s := pure (a.eval x)) ?_ rfl (hK _ w I γ (hs x) hi (Ext.refl _ _ _))
      simp only [execOp]
      generalize a.eval c = vc at hc
      cases hc
      rfl
    · rename_i hv
      rw [hv] at hc
      cases h
      refine upon_value (s := pure (a.eval y)) ?_ rfl (hK _ w I γ (hs y) hi (Ext.refl _ _ _))
      simp only [execOp]
      generalize a.eval c = vc at hc
      cases hc
      rfl
    · cases h
  case h_4 t =>
    split at h
    · rename_i ei hei
      split at h
      · rename_i hc
        obtain ⟨hn, hv, hwr⟩ := fresh_some h
        obtain ⟨z, z1, z2, z3⟩ := (hT t ei hei).run_zero w
        refine fin (Instr.alloc t true (.tuple #[])) rfl (.of ?_)
        have hzl : ei.zero.length = z.cells.size := by rw [← z3]; simp
        have := newVar_sound (P := P) hi hn t z ei.zero hzl hc (fun j u y hu hy => zero_cells z3 hu hy)
        obtain ⟨ad, w', γ', h1, h2, h3, h4⟩ := this
        refine ⟨.pointer (some ad), w', γ', ?_, by rw [hv]; exact h2, ?_, h4⟩
        · simp only [Instr.alloc, Sem.run_bind, z1, Result.andThen_ok, h1, Sem.run_pure]
        · rw [hwr, setAll_one]; rw [hzl, z2] at h3; exact h3
      · cases h
    · cases h
  case h_5 t x =>
    split at h
    · rename_i hc
      obtain ⟨hn, hv, hwr⟩ := fresh_some h
      have hnj : ρ x ≠ .junk := fun e => by rw [e] at hc; simp [V.cells, cellularAll, V.cellular] at hc
      obtain ⟨q1, q2⟩ := (hs x).cells hnj
      obtain ⟨ad, w', γ', h1, h2, h3, h4⟩ := newVar_sound (P := P) hi hn t (a.eval x) (ρ x).cells q1 hc q2
      refine fin (Instr.box t (a.eval x)) rfl (.of ⟨.pointer (some ad), w', γ', ?_, by rw [hv]; exact h2, by rw [hwr, setAll_one]; exact h3, h4⟩)
      simp only [Instr.box, Sem.run_bind, h1, Result.andThen_ok, Sem.run_pure]
    · cases h
  case h_6 t ps =>
    obtain ⟨v, h1, rfl⟩ := pureEff_some h
    obtain ⟨p1, p2⟩ := parts_rd hs ps
    exact fin (Instr.build t (ps.map fun (i, x) => (i, a.eval x))) rfl (.pure hi (aBuild_sound hT p1 p2 h1))
  case h_7 t len ps =>
    obtain ⟨p1, p2⟩ := parts_rd hs ps
    have hk := aBuildSlice_sound (P := P) hT hi p1 p2 h
    exact fin _ rfl (.of hk)
  case h_8 t x =>
    obtain ⟨h1, h2⟩ := aLoad_sound hT hi (hs x) h
    obtain ⟨v, wr, rd⟩ := e
    cases h1
    exact fin (Instr.loadAt t (a.eval x)) rfl (.pure hi h2)
  case h_9 t x y =>
    obtain ⟨h1, w', h2, h3, h4⟩ := aStore_sound hT hi (hs x) (hs y) h
    unfold Oper.wp
    simp only [execOp, Sem.run_bind, h2, Result.andThen_ok, Sem.run_pure, Oper.upon]
    exact hK _ w' I γ (by rw [h1]; exact .junk _ _) h3 h4
  case h_10 x =>
    have hx := hs x
    split at h
    · rename_i hv
      rw [hv] at hx
      cases h
      refine upon_value (s := pure (a.eval x)) ?_ rfl (hK _ w I γ hx hi (Ext.refl _ _ _))
      simp only [execOp]
      generalize a.eval x = vx at hx
      cases hx
      rfl
    · rename_i hv
      rw [hv] at hx
      cases h
      refine upon_value (s := pure (a.eval x)) ?_ rfl (hK _ w I γ hx hi (Ext.refl _ _ _))
      simp only [execOp]
      generalize a.eval x = vx at hx
      cases hx
      rfl
    · cases h
  case h_11 bop xt x y _ =>
    obtain ⟨v, h1, rfl⟩ := pureEff_some h
    refine fin (do eqGuard bop xt x y (a.eval x) (a.eval y); binOp bop xt (a.eval x) (a.eval y)) (by simp only [execOp]) (.pure hi (aBin_sound hT x y (hs x) (hs y) h1))
  case h_12 uop _ x =>
    obtain ⟨v, h1, rfl⟩ := pureEff_some h
    exact fin (Op.unary uop (a.eval x)) rfl (.pure hi (aUn_sound (hs x) h1))
  case h_13 src dst' x => exact fin (convert src dst' (a.eval x)) rfl (.of (aConv_sound hT hi (hs x) h))
  case h_14 t l c => exact fin (Instr.makeSlice t (a.eval l) (a.eval c)) rfl (.of (aMake_sound hT hi (hs l) (hs c) h))
  case h_15 t x lo hi' mx =>
    obtain ⟨v, h1, rfl⟩ := Option.map_eq_some_iff.1 h
    exact fin (Instr.sliceAt t (a.eval x) (lo.map a.eval) (hi'.map a.eval) (mx.map a.eval)) rfl
      (.pure hi (aSlice_sound hT hi (hs x) (opt_rd hs lo).1 (opt_rd hs lo).2 (opt_rd hs hi').1 (opt_rd hs hi').2 (opt_rd hs mx).1 (opt_rd hs mx).2 h1))
  case h_16 s x f =>
    obtain ⟨v, h1, rfl⟩ := pureEff_some h
    exact fin (Instr.fieldAt s (a.eval x) f) rfl (.pure hi (aFieldAddr_sound hT (hs x) h1))
  case h_17 s x f =>
    obtain ⟨v, h1, rfl⟩ := pureEff_some h
    exact fin (Instr.field s (a.eval x) f) rfl (.pure hi (aField_sound hT (hs x) h1))
  case h_18 t x i =>
    obtain ⟨v, h1, rfl⟩ := Option.map_eq_some_iff.1 h
    exact fin (Instr.indexAt t (a.eval x) (a.eval i)) rfl (.pure hi (aIndexAddr_sound hT hi (hs x) (hs i) h1))
  case h_19 t x i =>
    obtain ⟨v, h1, rfl⟩ := pureEff_some h
    exact fin (Instr.index t (a.eval x) (a.eval i)) rfl (.pure hi (aIndex_sound hT (hs x) (hs i) h1))
  case h_20 x i =>
    have hx := hs x
    split at h
    · rename_i hv
      rw [hv] at hx
      obtain ⟨v, h1, rfl⟩ := pureEff_some h
      refine fin (Instr.extract (a.eval x) i) rfl (.pure hi ?_)
      generalize a.eval x = vx at hx
      cases hx with
      | tup _ cs xs hl hr =>
        have hlt : i < xs.size := by rw [← hl]; exact (List.getElem?_eq_some_iff.1 h1).1
        exact ⟨xs[i], by simp [Instr.extract, Array.getElem?_eq_getElem hlt], hr i v _ h1 (Array.getElem?_eq_getElem hlt)⟩
    · cases h
  case h_21 b args tys =>
    have hl : (args.toList.map ρ).length = (args.toList.map a.eval).length := by simp
    have hr : ∀ (j : Nat) (u : V) (x : Value), (args.toList.map ρ)[j]? = some u → (args.toList.map a.eval)[j]? = some x → Rd w I γ u x := by
      intro j u x h1 h2
      rw [List.getElem?_map] at h1 h2
      cases hk : args.toList[j]? with
      | none => rw [hk] at h1; cases h1
      | some p => rw [hk] at h1 h2; cases h1; cases h2; exact hs p
    obtain ⟨s, s1, s2⟩ := aBuiltin_sound hT hi (ty := type) hl hr h (args.map fun | .const _ => true | _ => false)
    refine fin s ?_ s2
    rw [← s1]
    show (do let d ← resolve a.eval ⟨.builtin b, args, tys⟩ type; invoke d.target d.args) = _
    simp only [resolve]
    have : (args.toList.map a.eval).toArray = args.map a.eval := by rw [← Array.toList_map]
    rw [this]; rfl
  case h_22 => simp [isCall] at hnc
  case h_23 => cases h
end
end Go.Lift
