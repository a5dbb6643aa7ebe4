/-
  The run over data, as rules for simp.
-/
import Derived.Test.YtgnfgcpolbcaoaaL19
import Derived.KernelRfl
namespace Go.Lift

variable {P : Program} {T : TypeId → Option TI} {C : FuncId → List V → List AObj → Option CRes} {k : Nat}

/-- A value whose type names what stands behind it: simp works on the value alone. -/
abbrev VOf (_A _B : Prop) := V
def condV (A B : Prop) (v : VOf A B) : Prop := match v with
  | .bool true => A
  | .bool false => B
  | .anyB => A ∧ B
  | _ => False
@[simp] theorem condV_any (A B : Prop) : condV A B .anyB = (A ∧ B) := rfl
@[simp] theorem condV_true (A B : Prop) : condV A B (.bool true) = A := rfl
@[simp] theorem condV_false (A B : Prop) : condV A B (.bool false) = B := rfl
theorem condV_bool (b : Bool) (A B : Prop) : condV A B (.bool b) ↔ ((b = true → A) ∧ (b = false → B)) := by cases b <;> simp [condV]
theorem condV_split {p : Prop} [Decidable p] {A B : Prop} (h1 : p → A) (h2 : ¬ p → B) : condV A B (.bool (decide p)) := by by_cases h : p <;> simp [condV, h, h1, h2]
theorem condV_splitb {b : Bool} {A B : Prop} (h1 : b = true → A) (h2 : b = false → B) : condV A B (.bool b) := by cases b <;> simp [condV, h1, h2]
theorem condV_splitn {b : Bool} {A B : Prop} (h1 : b = false → A) (h2 : b = true → B) : condV A B (.bool (!b)) := by cases b <;> simp [condV, h1, h2]

theorem axwp_skip {Q : Exit → St → Prop} {st : St} : axwp T C k .skip Q st = Q .normal st := rfl
theorem axwp_seq {a b : Code} {Q : Exit → St → Prop} {st : St} : axwp T C k (.seq a b) Q st = axwp T C k a (fun e st' => match e with | .normal => axwp T C k b Q st' | e => Q e st') st := rfl
theorem axwp_cond {c : Operand} {x y : Code} {Q : Exit → St → Prop} {st : St} : axwp T C k (.cond c x y) Q st = condV (axwp T C k x Q st) (axwp T C k y Q st) (st.ev c) := by
  simp only [axwp, condV]
  cases st.ev c <;> first | rfl | (rename_i b; cases b <;> rfl)
theorem axwp_block {id : Nat} {c : Code} {Q : Exit → St → Prop} {st : St} : axwp T C k (.block id c) Q st = axwp T C k c (fun e st' => match e with | .exit i => if i = id then Q .normal st' else Q (.exit i) st' | e => Q e st') st := rfl
theorem axwp_exit {id : Nat} {Q : Exit → St → Prop} {st : St} : axwp T C k (.exit id) Q st = Q (.exit id) st := rfl
theorem axwp_ret {Q : Exit → St → Prop} {st : St} : axwp T C k .ret Q st = Q .ret st := rfl
theorem axwp_label {l : Nat} {Q : Exit → St → Prop} {st : St} : axwp T C k (.label l) Q st = Q .normal st := rfl

/-- What stands behind a region. -/
def afterR (ops : Array Oper) (draw : Bool) (Q : Exit → St → Prop) : Option (St × List (Nat × List Nat × List Nat)) → Prop
  | none => False
  | some (st', fp) => (draw = true → drawOk ops (tabOf ops) = true ∧ fpOk (tabOf ops) fp = true) ∧ Q .normal { st' with c := st'.c + 8 * ops.size }
theorem axwp_region {id : Nat} {ops : Array Oper} {draw : Bool} {Q : Exit → St → Prop} {st : St} : axwp T C k (.region id ops draw) Q st ↔ afterR ops draw Q (runO T C ops ops.toList 0 st) := by
  simp only [axwp, afterR]
  constructor
  · rintro ⟨st', fp, h1, h2, h3⟩; rw [h1]; exact ⟨h2, h3⟩
  · intro h
    split at h
    · exact h.elim
    · rename_i st' fp h1; exact ⟨st', fp, h1, h.1, h.2⟩

/-- A region, its operations run one by one. -/
def goR (T : TypeId → Option TI) (C : FuncId → List V → List AObj → Option CRes) (ops : Array Oper) (draw : Bool) (Q : Exit → St → Prop) : List Oper → Nat → St → List (Nat × List Nat × List Nat) → Prop
  | [], _, st, fp => (draw = true → drawOk ops (tabOf ops) = true ∧ fpOk (tabOf ops) fp.reverse = true) ∧ Q .normal { st with c := st.c + 8 * ops.size }
  | o :: r, i, st, fp => match stepO T C ops o (st.c + 8 * i) st with
    | some (st', rd, wr) => goR T C ops draw Q r (i + 1) st' ((i, rd, wr) :: fp)
    | none => False

theorem goR_iff {ops : Array Oper} {draw : Bool} {Q : Exit → St → Prop} : ∀ (l : List Oper) (i : Nat) (st : St) (fp0 : List (Nat × List Nat × List Nat)),
    goR T C ops draw Q l i st fp0 ↔ (match runO T C ops l i st with | none => False | some (st', fp) => (draw = true → drawOk ops (tabOf ops) = true ∧ fpOk (tabOf ops) (fp0.reverse ++ fp) = true) ∧ Q .normal { st' with c := st'.c + 8 * ops.size })
  | [], i, st, fp0 => by simp [goR, runO]
  | o :: r, i, st, fp0 => by
    simp only [goR, runO]
    cases stepO T C ops o (st.c + 8 * i) st with
    | none => rfl
    | some p =>
      obtain ⟨st', rd, wr⟩ := p
      simp only
      rw [goR_iff r (i + 1) st']
      cases runO T C ops r (i + 1) st' with
      | none => rfl
      | some p => obtain ⟨a, b⟩ := p; simp
theorem axwp_go {id : Nat} {ops : Array Oper} {draw : Bool} {Q : Exit → St → Prop} {st : St} : axwp T C k (.region id ops draw) Q st ↔ goR T C ops draw Q ops.toList 0 st [] := by
  rw [axwp_region, goR_iff]
  simp only [afterR]
  cases runO T C ops ops.toList 0 st with
  | none => rfl
  | some p => obtain ⟨a, b⟩ := p; simp

theorem axwp_go' {id : Nat} {l : List Oper} {draw : Bool} {Q : Exit → St → Prop} {st : St} : axwp T C k (.region id (Array.mk l) draw) Q st ↔ goR T C (Array.mk l) draw Q l 0 st [] := axwp_go

/-- What stands behind an operation. -/
abbrev EffOf (_st : St) (_d : Option Tmp) (_K : St → List Nat → List Nat → Prop) := Option Eff
def thenE (st : St) (d : Option Tmp) (K : St → List Nat → List Nat → Prop) (o : EffOf st d K) : Prop := match o with
  | none => False
  | some e => K { st with s := putS st.s d e.v, g := setAll st.g e.wr } e.rd (e.wr.map (·.1))
abbrev GdOf (_A _B : Prop) := Option Bool
def thenG (A B : Prop) (o : GdOf A B) : Prop := match o with
  | none => False
  | some true => A
  | some false => B

@[simp] theorem thenE_some (st : St) (d : Option Tmp) (K : St → List Nat → List Nat → Prop) (e : Eff) : thenE st d K (some e) = K { st with s := putS st.s d e.v, g := setAll st.g e.wr } e.rd (e.wr.map (·.1)) := rfl
@[simp] theorem thenG_true (A B : Prop) : thenG A B (some true) = A := rfl
@[simp] theorem thenG_false (A B : Prop) : thenG A B (some false) = B := rfl
theorem thenG_some (A B : Prop) (b : Bool) : thenG A B (some b) ↔ ((b = true → A) ∧ (b = false → B)) := by cases b <;> simp [thenG]
theorem thenG_split {b : Bool} {A B : Prop} (h1 : b = true → A) (h2 : b = false → B) : thenG A B (some b) := (thenG_some A B b).2 ⟨h1, h2⟩
theorem thenE_of {st : St} {d : Option Tmp} {K : St → List Nat → List Nat → Prop} {o : Option Eff} (e : Eff) (h : o = some e) (hK : K { st with s := putS st.s d e.v, g := setAll st.g e.wr } e.rd (e.wr.map (·.1))) : thenE st d K o := by rw [h]; exact hK

/-- A loop, of which simp changes nothing. -/
abbrev UnitOf (_c : Code) (_Q : Exit → St → Prop) (_st : St) := Unit
def wpL (T : TypeId → Option TI) (C : FuncId → List V → List AObj → Option CRes) (k : Nat) (c : Code) (Q : Exit → St → Prop) (st : St) (_u : UnitOf c Q st) : Prop := axwp T C k (.loop c) Q st
theorem axwp_wpL {c : Code} {Q : Exit → St → Prop} {st : St} : axwp T C k (.loop c) Q st = wpL T C k c Q st () := rfl

theorem goR_nil {ops : Array Oper} {draw : Bool} {Q : Exit → St → Prop} {i : Nat} {st : St} {fp} : goR T C ops draw Q [] i st fp = ((draw = true → drawOk ops (tabOf ops) = true ∧ fpOk (tabOf ops) fp.reverse = true) ∧ Q .normal { st with c := st.c + 8 * ops.size }) := rfl
theorem goR_cons {ops : Array Oper} {draw : Bool} {Q : Exit → St → Prop} {o : Oper} {r : List Oper} {i : Nat} {st : St} {fp} :
    goR T C ops draw Q (o :: r) i st fp ↔ thenG (thenE st o.dst (fun st' rd wr => goR T C ops draw Q r (i + 1) st' ((i, rd, wr) :: fp)) (aop T C st.ev st.g (st.c + 8 * i) o.op)) (goR T C ops draw Q r (i + 1) { st with s := putS st.s o.dst (.tup []) } ((i, [], []) :: fp)) (guardOf ops o st.s) := by
  simp only [goR, stepO]
  cases guardOf ops o st.s with
  | none => rfl
  | some b =>
    cases b with
    | false => rfl
    | true =>
      simp only [thenG]
      cases aop T C st.ev st.g (st.c + 8 * i) o.op with
      | none => rfl
      | some e => rfl
theorem goR_free {ops : Array Oper} {draw : Bool} {Q : Exit → St → Prop} {d : Option Tmp} {op : Op} {t : TypeId} {p : String} {af : Array Edge} {r : List Oper} {i : Nat} {st : St} {fp} :
    goR T C ops draw Q (⟨d, op, t, p, af, none⟩ :: r) i st fp ↔ thenE st d (fun st' rd wr => goR T C ops draw Q r (i + 1) st' ((i, rd, wr) :: fp)) (aop T C st.ev st.g (st.c + 8 * i) op) := by
  rw [goR_cons]; rfl
theorem goR_guard {ops : Array Oper} {draw : Bool} {Q : Exit → St → Prop} {d : Option Tmp} {op : Op} {t : TypeId} {p : String} {af : Array Edge} {gd : Nat × Bool} {r : List Oper} {i : Nat} {st : St} {fp} :
    goR T C ops draw Q (⟨d, op, t, p, af, some gd⟩ :: r) i st fp ↔ thenG (thenE st d (fun st' rd wr => goR T C ops draw Q r (i + 1) st' ((i, rd, wr) :: fp)) (aop T C st.ev st.g (st.c + 8 * i) op)) (goR T C ops draw Q r (i + 1) { st with s := putS st.s d (.tup []) } ((i, [], []) :: fp)) (guardOf ops ⟨d, op, t, p, af, some gd⟩ st.s) := goR_cons

attribute [simp ↓] axwp_skip axwp_seq axwp_cond axwp_block axwp_exit axwp_ret axwp_label axwp_go' axwp_wpL goR_nil goR_free goR_guard

theorem ren_closed (f : Nat → Nat) (v : V) (h : v.closed = true) : v.ren f = v := by
  have key : ∀ (n : Nat) (v : V), SizeOf.sizeOf v ≤ n → v.closed = true → v.ren f = v := by
    intro n
    induction n with
    | zero => intro v hs; cases v <;> simp at hs
    | succ n ih =>
      intro v hs hc
      have all : ∀ cs : List V, SizeOf.sizeOf cs ≤ n → V.closed.closedAll cs = true → V.ren.renAll f cs = cs := by
        intro cs
        induction cs with
        | nil => intros; rfl
        | cons c cs ihc =>
          intro hs hc
          simp only [V.closed.closedAll, Bool.and_eq_true] at hc
          simp at hs
          simp only [V.ren.renAll]
          rw [ih c (by omega) hc.1, ihc (by omega) hc.2]
      cases v <;> simp [V.closed] at hc <;> try rfl
      · simp at hs; simp only [V.ren]; rw [all _ (by omega) hc]
      · simp at hs; simp only [V.ren]; rw [all _ (by omega) hc]
  exact key _ v (Nat.le_refl _) h

theorem within_closed (D : Nat → Bool) (v : V) (h : v.closed = true) : v.within D = true := by
  have key : ∀ (n : Nat) (v : V), SizeOf.sizeOf v ≤ n → v.closed = true → v.within D = true := by
    intro n
    induction n with
    | zero => intro v hs; cases v <;> simp at hs
    | succ n ih =>
      intro v hs hc
      have all : ∀ cs : List V, SizeOf.sizeOf cs ≤ n → V.closed.closedAll cs = true → V.within.withinAll D cs = true := by
        intro cs
        induction cs with
        | nil => intros; rfl
        | cons c cs ihc =>
          intro hs hc
          simp only [V.closed.closedAll, Bool.and_eq_true] at hc
          simp at hs
          simp only [V.within.withinAll, Bool.and_eq_true]
          exact ⟨ih c (by omega) hc.1, ihc (by omega) hc.2⟩
      cases v <;> simp [V.closed] at hc <;> try rfl
      · simp at hs; simp only [V.within]; exact all _ (by omega) hc
      · simp at hs; simp only [V.within]; exact all _ (by omega) hc
  exact key _ v (Nat.le_refl _) h

def isEnd : Exit → Bool
  | .normal | .ret => true
  | _ => false

/-- The end of a function whose result holds no memory of its own. -/
theorem ret_closed {res : List ResultVar} {e : Exit} {st : St} {v : V} (he : isEnd e = true) (h : retV T st res = some v) (hv : v.closed = true) : Ret T res ⟨v, []⟩ 0 e st := by
  refine Ret0.ret ⟨by cases e <;> simp [isEnd] at he <;> trivial, Nat.le_refl _, id, fun j h => absurd h (by omega), fun i j hi => by simp at hi, by rw [h, ren_closed _ _ hv], fun j o ho => by simp at ho, within_closed _ _ hv, fun o ho => by simp at ho⟩

/-- The end of a function whose result is a slice in new memory. -/
theorem ret_own {res : List ResultVar} {e : Exit} {st : St} {nm n : Nat} {o : AObj} (he : isEnd e = true) (h : retV T st res = some (.own nm 0 n)) (hg : st.g nm = some o) (hfl : o.fl ≠ 0) : Ret T res ⟨.own 0 0 n, [o]⟩ 0 e st := by
  refine Ret0.ret ⟨by cases e <;> simp [isEnd] at he <;> trivial, by simp, fun _ => nm, fun j h => absurd h (by omega), fun i j hi hj _ => by simp at hi hj; omega, by rw [h]; rfl, fun j o' ho => ?_, rfl, fun o' ho => ?_⟩
  · cases j with
    | zero => simp at ho; subst ho; rw [hg, AObj.ren_eq hfl]
    | succ j => simp at ho
  · simp at ho; subst ho; simp [AObj.within, hfl]

/-- The head of a loop is reached again, in a smaller state of the family. -/
def Again (k : Nat) {ι : Type} (S : ι → St) (ok : ι → Prop) (μ : ι → Nat) (i : ι) (st : St) : Prop := ∃ j, ok j ∧ μ j < μ i ∧ Weak k st (S j)
theorem Again.mk {k : Nat} {ι : Type} {S : ι → St} {ok : ι → Prop} {μ : ι → Nat} {i : ι} {st : St} (j : ι) (h1 : ok j) (h2 : μ j < μ i) (h3 : Weak k st (S j)) : Again k S ok μ i st := ⟨j, h1, h2, h3⟩

/-- A loop: its states as a family. -/
theorem axwp_loop {c : Code} {Q : Exit → St → Prop} {st : St} {ι : Type} (S : ι → St) (ok : ι → Prop) (μ : ι → Nat) (i0 : ι) (h0 : Weak k st (S i0)) (hok : ok i0)
    (round : ∀ i, ok i → axwp T C k c (fun e st' => match e with | .normal => Again k S ok μ i st' | e => Q e st') (S i)) : wpL T C k c Q st () := by
  show axwp T C k (.loop c) Q st
  refine ⟨fun n st => ∃ i, ok i ∧ μ i = n ∧ st = S i, ⟨μ i0, S i0, h0, i0, hok, rfl, rfl⟩, ?_⟩
  rintro n st1 ⟨i, hi, rfl, rfl⟩
  have mono : ∀ (c : Code) {Q Q' : Exit → St → Prop} {st : St}, (∀ e st, Q e st → Q' e st) → axwp T C k c Q st → axwp T C k c Q' st := by
    intro c
    induction c with
    | region id ops draw => rintro Q Q' st hq ⟨st', fp, h1, h2, h3⟩; exact ⟨st', fp, h1, h2, hq _ _ h3⟩
    | seq a b iha ihb => intro Q Q' st hq h; exact iha (fun e st' h' => by cases e <;> first | exact ihb hq h' | exact hq _ _ h') h
    | cond c a b iha ihb =>
      intro Q Q' st hq h
      simp only [axwp] at h ⊢
      split at h
      · exact iha hq h
      · exact ihb hq h
      · exact ⟨iha hq h.1, ihb hq h.2⟩
      · exact h.elim
    | block id c ih =>
      intro Q Q' st hq h
      refine ih (fun e st' h' => ?_) h
      cases e with
      | exit i =>
        simp only at h' ⊢
        split
        · rename_i e; rw [if_pos e] at h'; exact hq _ _ h'
        · rename_i e; rw [if_neg e] at h'; exact hq _ _ h'
      | _ => exact hq _ _ h'
    | loop c ih =>
      rintro Q Q' st hq ⟨J, h1, h2⟩
      exact ⟨J, h1, fun n st1 hj => ih (fun e st' h' => by cases e <;> first | exact h' | exact hq _ _ h') (h2 n st1 hj)⟩
    | skip => intro Q Q' st hq h; exact hq _ _ h
    | label => intro Q Q' st hq h; exact hq _ _ h
    | exit => intro Q Q' st hq h; exact hq _ _ h
    | ret => intro Q Q' st hq h; exact hq _ _ h
    | _ => intro Q Q' st _ h; exact h.elim
  refine mono c (fun e st' h' => ?_) (round i hi)
  cases e with
  | normal =>
    obtain ⟨j, j1, j2, j3⟩ := h'
    exact ⟨μ j, S j, j2, j3, j, j1, rfl, rfl⟩
  | _ => exact h'

section
variable (T : TypeId → Option TI) (C : FuncId → List V → List AObj → Option CRes) (ρ : Operand → V) (g : Nat → Option AObj) (nm : Nat)
theorem aop_move (x : Operand) : aop T C ρ g nm (.move x) = some ⟨ρ x, [], []⟩ := rfl
theorem aop_assign (x : Operand) : aop T C ρ g nm (.assign x) = some ⟨ρ x, [], []⟩ := rfl
def pickV (c a b : V) : Option Eff := match c with
  | .bool true => some ⟨a, [], []⟩
  | .bool false => some ⟨b, [], []⟩
  | _ => none
theorem aop_pick (c x y : Operand) : aop T C ρ g nm (.pick c x y) = pickV (ρ c) (ρ x) (ρ y) := by
  simp only [aop, pickV]; cases ρ c <;> first | rfl | (rename_i b; cases b <;> rfl)
theorem pickV_true (a b : V) : pickV (.bool true) a b = some ⟨a, [], []⟩ := rfl
theorem pickV_false (a b : V) : pickV (.bool false) a b = some ⟨b, [], []⟩ := rfl
theorem pickV_ite (c : Bool) (a b : V) : pickV (.bool c) a b = some ⟨if c = true then a else b, [], []⟩ := by cases c <;> rfl
theorem pickV_bool (c x y : Bool) : pickV (.bool c) (.bool x) (.bool y) = some ⟨.bool (if c = true then x else y), [], []⟩ := by cases c <;> rfl
theorem aop_box (e : TypeId) (x : Operand) : aop T C ρ g nm (.box e x) = if cellularAll (ρ x).cells then fresh nm ⟨e, (ρ x).cells.length, [(ρ x).cells], true, flOf (ρ x).cells, .rw⟩ (.ptr nm 0 0) [] g else none := rfl
theorem aop_build (t : TypeId) (ps : Array (Nat × Operand)) : aop T C ρ g nm (.build t ps) = pureEff (aBuild T t (ps.toList.map fun p => (p.1, ρ p.2))) := rfl
theorem aop_buildSlice (t : TypeId) (l : Nat) (ps : Array (Nat × Operand)) : aop T C ρ g nm (.buildSlice t l ps) = aBuildSlice T g nm t l (ps.toList.map fun p => (p.1, ρ p.2)) := rfl
theorem aop_load (t : TypeId) (x : Operand) : aop T C ρ g nm (.load t x) = aLoad T g t (ρ x) := rfl
theorem aop_store (t : TypeId) (x y : Operand) : aop T C ρ g nm (.store t x y) = aStore T g t (ρ x) (ρ y) := rfl
theorem aop_binOp (op : BinOp) (t : TypeId) (x y : Operand) (u : TypeId) : aop T C ρ g nm (.binOp op t x y u) = pureEff (aBin T op t (ρ x) (ρ y)) := rfl
theorem aop_unOp (op : UnOp) (t : TypeId) (x : Operand) : aop T C ρ g nm (.unOp op t x) = pureEff (aUn op (ρ x)) := rfl
theorem aop_convert (s d : TypeId) (x : Operand) : aop T C ρ g nm (.convert s d x) = aConv T g nm s d (ρ x) := rfl
theorem aop_makeSlice (t : TypeId) (l c : Operand) : aop T C ρ g nm (.makeSlice t l c) = aMake T g nm t (ρ l) (ρ c) := rfl
theorem aop_slice (t : TypeId) (x : Operand) (lo hi mx : Option Operand) : aop T C ρ g nm (.slice t x lo hi mx) = (aSlice T g t (ρ x) (lo.map ρ) (hi.map ρ) (mx.map ρ)).map fun v => ⟨v, [], ownRd (ρ x)⟩ := rfl
theorem aop_fieldAddr (t : TypeId) (x : Operand) (f : Nat) : aop T C ρ g nm (.fieldAddr t x f) = pureEff (aFieldAddr T t (ρ x) f) := rfl
theorem aop_field (t : TypeId) (x : Operand) (f : Nat) : aop T C ρ g nm (.field t x f) = pureEff (aField T t (ρ x) f) := rfl
theorem aop_indexAddr (t : TypeId) (x i : Operand) : aop T C ρ g nm (.indexAddr t x i) = (aIndexAddr T g t (ρ x) (ρ i)).map fun v => ⟨v, [], ownRd (ρ x)⟩ := rfl
theorem aop_index (t : TypeId) (x i : Operand) : aop T C ρ g nm (.index t x i) = pureEff (aIndex T t (ρ x) (ρ i)) := rfl
def extractV (x : V) (i : Nat) : Option Eff := match x with
  | .tup vs => pureEff (vs[i]?)
  | _ => none
theorem aop_extract (x : Operand) (i : Nat) : aop T C ρ g nm (.extract x i) = extractV (ρ x) i := by
  simp only [aop, extractV]; cases ρ x <;> rfl
theorem extractV_tup (vs : List V) (i : Nat) : extractV (.tup vs) i = pureEff (vs[i]?) := rfl
theorem aop_builtin (b : Builtin) (xs : Array Operand) (ts : Array TypeId) : aop T C ρ g nm (.call ⟨.builtin b, xs, ts⟩) = aBuiltin T g nm b ts.toList (xs.toList.map ρ) := rfl
def callV (f : V) (xs : List V) : Option Eff := match f with
  | .fn f => aCall C g nm f xs
  | _ => none
theorem aop_call (f : Operand) (xs : Array Operand) (ts : Array TypeId) : aop T C ρ g nm (.call ⟨.value f, xs, ts⟩) = callV C g nm (ρ f) (xs.toList.map ρ) := by
  simp only [aop, callV]; cases ρ f <;> rfl
theorem callV_fn (f : FuncId) (xs : List V) : callV C g nm (.fn f) xs = aCall C g nm f xs := rfl
def nilV (x : V) : Option Eff := match x with
  | .ptr n i j => some ⟨.ptr n i j, [], []⟩
  | .pp cs => some ⟨.pp cs, [], []⟩
  | _ => none
theorem aop_nilCheck (x : Operand) : aop T C ρ g nm (.nilCheck x) = nilV (ρ x) := by simp only [aop, nilV]; cases ρ x <;> rfl
theorem aop_alloc (e : TypeId) : aop T C ρ g nm (.alloc e) = (match T e with | some ei => if cellularAll ei.zero then fresh nm ⟨e, ei.size, [ei.zero], true, flOf ei.zero, .rw⟩ (.ptr nm 0 0) [] g else none | none => none) := rfl
end
/-! Bitwise operations, by name. -/
def iAnd (k : IntKind) (a b : Int) : Int := k.wrap (BitVec.ofInt k.bits a &&& BitVec.ofInt k.bits b).toNat
def iOr (k : IntKind) (a b : Int) : Int := k.wrap (BitVec.ofInt k.bits a ||| BitVec.ofInt k.bits b).toNat
def iXor (k : IntKind) (a b : Int) : Int := k.wrap (BitVec.ofInt k.bits a ^^^ BitVec.ofInt k.bits b).toNat
section
variable (T : TypeId → Option TI) (g : Nat → Option AObj) (nm : Nat) (t : TypeId) (k : IntKind) (a b : Int)
theorem aBin_add : aBin T .add t (.int k a) (.int k b) = some (.int k (k.wrap (a + b))) := by simp [aBin, isShift, aInt]
theorem aBin_sub : aBin T .sub t (.int k a) (.int k b) = some (.int k (k.wrap (a - b))) := by simp [aBin, isShift, aInt]
theorem aBin_mul : aBin T .mul t (.int k a) (.int k b) = some (.int k (k.wrap (a * b))) := by simp [aBin, isShift, aInt]
theorem aBin_quo : aBin T .quo t (.int k a) (.int k b) = if b = 0 then none else some (.int k (k.wrap (a.tdiv b))) := by simp [aBin, isShift, aInt]
theorem aBin_rem : aBin T .rem t (.int k a) (.int k b) = if b = 0 then none else some (.int k (a.tmod b)) := by simp [aBin, isShift, aInt]
theorem aBin_and : aBin T .and t (.int k a) (.int k b) = some (.int k (iAnd k a b)) := by simp only [aBin, isShift, aInt]; simp [iAnd]
theorem aBin_or : aBin T .or t (.int k a) (.int k b) = some (.int k (iOr k a b)) := by simp only [aBin, isShift, aInt]; simp [iOr]
theorem aBin_xor : aBin T .xor t (.int k a) (.int k b) = some (.int k (iXor k a b)) := by simp only [aBin, isShift, aInt]; simp [iXor]
theorem beq_int : (a == b) = decide (a = b) := by by_cases h : a = b <;> simp [h]
theorem aBin_eql : aBin T .eql t (.int k a) (.int k b) = some (.bool (decide (a = b))) := by simp [aBin, isShift, aInt, beq_int]
theorem aBin_neq : aBin T .neq t (.int k a) (.int k b) = some (.bool (decide (¬ a = b))) := by simp [aBin, isShift, aInt, bne, beq_int]
theorem aBin_lss : aBin T .lss t (.int k a) (.int k b) = some (.bool (decide (a < b))) := by simp [aBin, isShift, aInt]
theorem aBin_leq : aBin T .leq t (.int k a) (.int k b) = some (.bool (decide (a ≤ b))) := by simp [aBin, isShift, aInt]
theorem aBin_gtr : aBin T .gtr t (.int k a) (.int k b) = some (.bool (decide (a > b))) := by simp [aBin, isShift, aInt]
theorem aBin_geq : aBin T .geq t (.int k a) (.int k b) = some (.bool (decide (a ≥ b))) := by simp [aBin, isShift, aInt]
theorem aBin_shl (k' : IntKind) : aBin T .shl t (.int k a) (.int k' b) = if b < 0 then none else some (.int k (k.wrap (a * 2 ^ min b.toNat k.bits))) := by simp [aBin, isShift, aShift]
theorem aBin_shr (k' : IntKind) : aBin T .shr t (.int k a) (.int k' b) = if b < 0 then none else some (.int k (a.fdiv (2 ^ min b.toNat k.bits))) := by simp [aBin, isShift, aShift]
theorem aBin_str (op : BinOp) (x y : ByteArray) : aBin T op t (.str x) (.str y) = aStr op x y := rfl
def eqbV (d : Option TypeDesc) (op : BinOp) (a b : Bool) : Option V := match d, op with
  | some .bool, .eql => some (.bool (a == b))
  | some .bool, .neq => some (.bool (!(a == b)))
  | _, _ => none
theorem aBin_eqb {T : TypeId → Option TI} {t : TypeId} (op : BinOp) (a b : Bool) : aBin T op t (.bool a) (.bool b) = eqbV (descOf T t) op a b := by
  simp only [aBin, eqbV]
  generalize descOf T t = d
  cases d with
  | none => rfl
  | some d => cases d <;> cases op <;> rfl
theorem eqbV_eql (a b : Bool) : eqbV (some .bool) .eql a b = some (.bool (a == b)) := rfl
theorem eqbV_neq (a b : Bool) : eqbV (some .bool) .neq a b = some (.bool (!(a == b))) := rfl
theorem aUn_not (x : Bool) : aUn .not (.bool x) = some (.bool !x) := rfl
theorem aUn_neg : aUn .neg (.int k a) = some (.int k (k.wrap (0 - a))) := rfl
theorem aUn_xor : aUn .xor (.int k a) = some (.int k (k.wrap (-a - 1))) := rfl
theorem pureEff_ok (v : V) : pureEff (some v) = some ⟨v, [], []⟩ := rfl
theorem pureEff_none : pureEff none = none := rfl
end
theorem ev_tmp (s : Nat → V) (g : Nat → Option AObj) (c : Nat) (t : Tmp) : St.ev ⟨s, g, c⟩ (.tmp t) = s t := rfl
theorem ev_const (st : St) (v : Value) : st.ev (.const v) = ofConst v := rfl
theorem ev_func (st : St) (f : FuncId) : st.ev (.func f) = .fn f := rfl
theorem ofConst_int (k : IntKind) (n : Int) : ofConst (.int k n) = .int k n := rfl
theorem ofConst_bool (b : Bool) : ofConst (.bool b) = .bool b := rfl
theorem ofConst_string (b : ByteArray) : ofConst (.string b) = .str b := rfl
theorem ofConst_nil : ofConst (.slice none 0 0) = .sl 0 1 [] := rfl
theorem ofConst_agg (cs : Array Value) : ofConst (.agg cs) = .agg (cs.toList.map ofCell) := rfl
theorem guardOf_none (ops : Array Oper) (d : Option Tmp) (op : Op) (t : TypeId) (p : String) (af : Array Edge) (s : Nat → V) : guardOf ops ⟨d, op, t, p, af, none⟩ s = some true := rfl
def guardV (want : Bool) : V → Option Bool
  | .bool b => some (b == want)
  | .tup [] => some false
  | _ => none
theorem guardV_skip (w : Bool) : guardV w (.tup []) = some false := rfl
theorem guardV_bool (w b : Bool) : guardV w (.bool b) = some (b == w) := rfl
theorem guardOf_some (ops : Array Oper) (d : Option Tmp) (op : Op) (t : TypeId) (p : String) (af : Array Edge) (j : Nat) (w : Bool) (s : Nat → V) : guardOf ops ⟨d, op, t, p, af, some (j, w)⟩ s = (match (ops[j]?).bind (·.dst) with | some d => guardV w (s d) | none => none) := by
  simp only [guardOf, guardV]
  rfl
theorem putS_some (s : Nat → V) (d : Tmp) (v : V) : putS s (some d) v = upd s d v := rfl
theorem putS_none (s : Nat → V) (v : V) : putS s none v = s := rfl
theorem upd_at {α : Type} (f : Nat → α) (k n : Nat) (v : α) : upd f k v n = if n = k then v else f n := rfl
theorem descOf_of {T : TypeId → Option TI} {t : TypeId} {ti : TI} (h : T t = some ti) : descOf T t = some ti.desc := by simp [descOf, h]
theorem sizeT_of {T : TypeId → Option TI} {t : TypeId} {ti : TI} (h : T t = some ti) : sizeT T t = some ti.size := by simp [sizeT, h]

attribute [simp] aop_move aop_assign aop_pick pickV_true pickV_false pickV_bool aop_box aop_build aop_buildSlice aop_load aop_store aop_binOp aop_unOp aop_convert aop_makeSlice aop_slice aop_fieldAddr aop_field aop_indexAddr aop_index aop_extract extractV_tup aop_builtin aop_call callV_fn aop_nilCheck nilV aop_alloc
  aBin_add aBin_sub aBin_mul aBin_quo aBin_rem aBin_and aBin_or aBin_xor aBin_eql aBin_neq aBin_lss aBin_leq aBin_gtr aBin_geq aBin_shl aBin_shr aBin_str aBin_eqb eqbV_eql eqbV_neq aUn_not aUn_neg aUn_xor pureEff_ok pureEff_none ev_tmp ev_const ev_func ofConst_int ofConst_bool ofConst_string ofConst_nil ofConst_agg
  guardOf_none guardOf_some guardV_bool guardV_skip putS_some putS_none upd_at aStr
attribute [simp] setAll ofCell aConv aSlice lowOf highOf aIndexAddr aIndex aFieldAddr aField fieldOf fromCells aLoad aStore aBuild placeOf fillV splice
  aBuildSlice rowsOf aMake fresh cellularAll V.cellular V.cells V.isJunk flOf V.closed V.closed.closedAll V.scalar V.scalar.scalarAll aBuiltin aAppend aZeros elemsOf szOf flOfSrc kill aMin isByte aCall aCallR nameOf namesOf addNew allNames ptrNames argVs argV argOne argCells refObjs freshAll noneOpen allScalar numbered freeze disjoint callNames posOf
  V.ren V.ren.renAll AObj.ren ownRd retV allRes oneRes isEnd

/-! Comparing with nil, deep reading. -/
def nilEq (d : Option TypeDesc) (op : BinOp) (t : Nat) (e : Bool) : Option V := match d, op with
  | some (.slice _), .eql => if t = 0 then some (.bool true) else if t = 1 ∨ t = 4 ∨ e = false then some (.bool false) else some .anyB
  | some (.slice _), .neq => if t = 0 then some (.bool false) else if t = 1 ∨ t = 4 ∨ e = false then some (.bool true) else some .anyB
  | _, _ => none
theorem aBin_nil {T : TypeId → Option TI} {xt : TypeId} (op : BinOp) (t a b : Nat) (rows : List (List V)) : aBin T op xt (.sl t a rows) (.sl 0 b []) = nilEq (descOf T xt) op t rows.isEmpty := by
  simp only [aBin, nilEq]
  generalize descOf T xt = d
  cases d with
  | none => rfl
  | some d => cases d <;> cases op <;> rfl
/-- Not nil, as far as a tag and the elements tell. -/
def nnB (t : Nat) (b : Bool) : Bool := decide (t = 1 ∨ t = 4 ∨ b = false)
theorem nilEq_eql (e : TypeId) (t : Nat) (b : Bool) : nilEq (some (.slice e)) .eql t b = if t = 0 then some (.bool true) else if nnB t b = true then some (.bool false) else some .anyB := by simp only [nilEq, nnB, decide_eq_true_eq]
theorem nilEq_neq (e : TypeId) (t : Nat) (b : Bool) : nilEq (some (.slice e)) .neq t b = if t = 0 then some (.bool false) else if nnB t b = true then some (.bool true) else some .anyB := by simp only [nilEq, nnB, decide_eq_true_eq]
theorem nnB_false (t : Nat) : nnB t false = true := by simp [nnB]
def nilEqO (d : Option TypeDesc) (op : BinOp) (n : Nat) : Option V := match d, op with
  | some (.slice _), .eql => if n ≠ 0 then some (.bool false) else some .anyB
  | some (.slice _), .neq => if n ≠ 0 then some (.bool true) else some .anyB
  | _, _ => none
theorem aBin_nilO {T : TypeId → Option TI} {xt : TypeId} (op : BinOp) (nm off n b : Nat) : aBin T op xt (.own nm off n) (.sl 0 b []) = nilEqO (descOf T xt) op n := by
  simp only [aBin, nilEqO]
  generalize descOf T xt = d
  cases d with
  | none => rfl
  | some d => cases d <;> cases op <;> rfl
theorem nilEqO_eql (e : TypeId) (n : Nat) : nilEqO (some (.slice e)) .eql n = if n ≠ 0 then some (.bool false) else some .anyB := rfl
theorem nilEqO_neq (e : TypeId) (n : Nat) : nilEqO (some (.slice e)) .neq n = if n ≠ 0 then some (.bool true) else some .anyB := rfl
theorem aUn_anyB : aUn .not .anyB = some .anyB := rfl
section
variable (g : Nat → Option AObj) (refs : List Nat)
def deepO (k : Nat) (nm off n : Nat) : Option AObj → Option (V × List Nat)
  | some o => if o.md ≠ .dead ∧ off + n ≤ o.elems.length then match (if o.fl ≠ 0 then some ((o.elems.drop off).take n, []) else deepRows (deepV g refs k) ((o.elems.drop off).take n)) with
      | some (rows, bs) => some (.sl 2 o.es rows, nm :: bs)
      | none => none
      else none
  | none => none
theorem deepV_own3 (nm off n : Nat) : deepV g refs 3 (.own nm off n) = if refs.contains nm then none else deepO g refs 2 nm off n (g nm) := by
  simp only [deepV, deepO]
  split
  · rfl
  · cases g nm <;> rfl
theorem deepV_own2 (nm off n : Nat) : deepV g refs 2 (.own nm off n) = if refs.contains nm then none else deepO g refs 1 nm off n (g nm) := by
  simp only [deepV, deepO]
  split
  · rfl
  · cases g nm <;> rfl
theorem deepV_own1 (nm off n : Nat) : deepV g refs 1 (.own nm off n) = if refs.contains nm then none else deepO g refs 0 nm off n (g nm) := by
  simp only [deepV, deepO]
  split
  · rfl
  · cases g nm <;> rfl
theorem deepO_some (k nm off n : Nat) (o : AObj) : deepO g refs k nm off n (some o) = if o.md ≠ .dead ∧ off + n ≤ o.elems.length then match (if o.fl ≠ 0 then some ((o.elems.drop off).take n, []) else deepRows (deepV g refs k) ((o.elems.drop off).take n)) with
      | some (rows, bs) => some (.sl 2 o.es rows, nm :: bs)
      | none => none
      else none := rfl
theorem deepV_sl (k a b : Nat) (r : List (List V)) : deepV g refs k (.sl a b r) = some (.sl a b r, []) := by cases k <;> rfl
theorem deepV_int (k : Nat) (a : IntKind) (b : Int) : deepV g refs k (.int a b) = some (.int a b, []) := by cases k <;> rfl
theorem deepV_bool (k : Nat) (b : Bool) : deepV g refs k (.bool b) = some (.bool b, []) := by cases k <;> rfl
theorem deepV_str (k : Nat) (b : ByteArray) : deepV g refs k (.str b) = some (.str b, []) := by cases k <;> rfl
theorem deepV_pnil (k : Nat) : deepV g refs k .pnil = some (.pnil, []) := by cases k <;> rfl
theorem deepV_pp (k : Nat) (r : List V) : deepV g refs k (.pp r) = some (.pp r, []) := by cases k <;> rfl
def deepNmO (k : Nat) : Option AObj → List Nat
  | some o => if o.fl ≠ 0 then [] else o.elems.flatMap fun r => r.flatMap (deepNm g k)
  | none => []
theorem deepNm_own3 (nm off n : Nat) : deepNm g 3 (.own nm off n) = nm :: deepNmO g 2 (g nm) := by simp only [deepNm, deepNmO]; cases g nm <;> rfl
theorem deepNm_own2 (nm off n : Nat) : deepNm g 2 (.own nm off n) = nm :: deepNmO g 1 (g nm) := by simp only [deepNm, deepNmO]; cases g nm <;> rfl
theorem deepNm_own1 (nm off n : Nat) : deepNm g 1 (.own nm off n) = nm :: deepNmO g 0 (g nm) := by simp only [deepNm, deepNmO]; cases g nm <;> rfl
theorem deepNmO_some (k : Nat) (o : AObj) : deepNmO g k (some o) = if o.fl ≠ 0 then [] else o.elems.flatMap fun r => r.flatMap (deepNm g k) := rfl
theorem deepNm_sl (k a b : Nat) (r : List (List V)) : deepNm g k (.sl a b r) = [] := by cases k <;> rfl
theorem deepNm_int (k : Nat) (a : IntKind) (b : Int) : deepNm g k (.int a b) = [] := by cases k <;> rfl
theorem deepNm_bool (k : Nat) (b : Bool) : deepNm g k (.bool b) = [] := by cases k <;> rfl
theorem deepNm_str (k : Nat) (b : ByteArray) : deepNm g k (.str b) = [] := by cases k <;> rfl
theorem deepNm_pnil (k : Nat) : deepNm g k .pnil = [] := by cases k <;> rfl
theorem deepNm_pp (k : Nat) (r : List V) : deepNm g k (.pp r) = [] := by cases k <;> rfl
theorem deepNm_ptr (k a b c : Nat) : deepNm g k (.ptr a b c) = [] := by cases k <;> rfl
theorem deepNm_anyB (k : Nat) : deepNm g k .anyB = [] := by cases k <;> rfl
end
theorem cutTag_0 (b : Bool) : cutTag 0 b = 0 := rfl
theorem cutTag_2 (b : Bool) : cutTag 2 b = 2 := by simp [cutTag]
theorem cutTag_ne {t : Nat} {b : Bool} : cutTag t b = 0 ↔ t = 0 := by unfold cutTag; split <;> simp_all; split <;> simp_all
attribute [simp] cutTag_0 cutTag_2 cutTag_ne nnB_false aBin_nil nilEq_eql nilEq_neq aBin_nilO nilEqO_eql nilEqO_neq aUn_anyB deepV_own3 deepV_own2 deepV_own1 deepO_some deepV_sl deepV_int deepV_bool deepV_str deepV_pnil deepV_pp
  deepNm_own3 deepNm_own2 deepNm_own1 deepNmO_some deepNm_sl deepNm_int deepNm_bool deepNm_str deepNm_pnil deepNm_pp deepNm_ptr deepNm_anyB cutO deepRows deepCells argNm argNms

theorem initSt_eq (args : List V) (objs : List AObj) : initSt args objs = { s := fun n => args.getD n .junk, g := fun n => objs[n]?, c := objs.length } := rfl
attribute [simp] initSt_eq
end Go.Lift
