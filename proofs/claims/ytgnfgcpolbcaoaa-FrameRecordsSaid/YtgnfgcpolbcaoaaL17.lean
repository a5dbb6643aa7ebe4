/-
  A region that draws its order: one run in the order of the text serves, where what is not ordered does not meet.
-/
import Derived.Test.YtgnfgcpolbcaoaaL16
namespace Go.Lift

variable {P : Program} {T : TypeId → Option TI} {C : FuncId → List V → List AObj → Option CRes}

def directOf (o : Oper) : List Nat := (o.after.toList.filter fun e => Region.binds .any e).map (·.on)
def direct (ops : Array Oper) (j : Nat) : List Nat := match ops[j]? with | some o => directOf o | none => []
def orAll (tab : List Nat) : List Nat → Nat
  | [] => 0
  | k :: r => (2 ^ k ||| tab.getD k 0) ||| orAll tab r
def befores : List Oper → List Nat → List Nat
  | [], acc => acc
  | o :: r, acc => befores r (acc ++ [orAll acc (directOf o)])

/-- The table tells who stands ahead of whom; who is not ordered writes nothing that the other looks at. -/
def drawOk (ops : Array Oper) (tab : List Nat) : Bool :=
  (List.range ops.size).all fun j => (direct ops j).all (fun k => decide (k < j)) && (tab.getD j 0 == orAll tab (direct ops j)) &&
    (List.range j).all fun i => (tab.getD j 0).testBit i || match ops[i]?, ops[j]? with
      | some a, some b => a.apart ops b
      | _, _ => false

def disj (a b : List Nat) : Bool := a.all fun x => !b.contains x
def indep (f g : List Nat × List Nat) : Bool := disj f.2 (g.1 ++ g.2) && disj g.2 f.1
def fpOk (tab : List Nat) : List (Nat × List Nat × List Nat) → Bool
  | [] => true
  | (i, f) :: r => r.all (fun p => (tab.getD p.1 0).testBit i || indep f p.2) && fpOk tab r

theorem disj_spec {a b : List Nat} (h : disj a b = true) : ∀ x ∈ a, x ∉ b := by
  intro x hx hb
  have := List.all_eq_true.1 h x hx
  simp [hb] at this

theorem orAll_bit {tab : List Nat} {i : Nat} : ∀ {l : List Nat}, (orAll tab l).testBit i = true → ∃ k ∈ l, i = k ∨ (tab.getD k 0).testBit i = true
  | [], h => by simp [orAll] at h
  | k :: r, h => by
    simp only [orAll, Nat.testBit_or, Bool.or_eq_true] at h
    rcases h with (h | h) | h
    · refine ⟨k, List.mem_cons_self .., .inl ?_⟩
      rw [Nat.testBit_two_pow] at h
      exact (show k = i by simpa using h).symm
    · exact ⟨k, List.mem_cons_self .., .inr h⟩
    · obtain ⟨k', h1, h2⟩ := orAll_bit h
      exact ⟨k', List.mem_cons_of_mem _ h1, h2⟩

theorem drawOk_spec {ops : Array Oper} {tab : List Nat} (h : drawOk ops tab = true) : ∀ j, j < ops.size → (∀ k ∈ direct ops j, k < j) ∧ tab.getD j 0 = orAll tab (direct ops j) ∧
    ∀ i, i < j → (tab.getD j 0).testBit i = true ∨ ∃ a b, ops[i]? = some a ∧ ops[j]? = some b ∧ a.apart ops b = true := by
  simp only [drawOk, Bool.and_eq_true, List.all_eq_true, List.mem_range] at h
  intro j hj
  obtain ⟨⟨h1, h2⟩, h3⟩ := h j hj
  refine ⟨fun k hk => by simpa using h1 k hk, by simpa using h2, fun i hi => ?_⟩
  have := h3 i hi
  simp only [Bool.or_eq_true] at this
  rcases this with h | h
  · exact .inl h
  · split at h
    · rename_i a b ha hb; exact .inr ⟨a, b, ha, hb, h⟩
    · cases h

/-- What stands ahead of j has come up, if j may come up. -/
theorem ahead_listed {ops : Array Oper} {tab : List Nat} (hd : drawOk ops tab = true) {L : Nat → Prop} (hcl : ∀ j, L j → ∀ k ∈ direct ops j, L k) : ∀ (j : Nat), j < ops.size → (∀ k ∈ direct ops j, L k) → ∀ i, (tab.getD j 0).testBit i = true → L i := by
  intro j
  induction j using Nat.strongRecOn with
  | _ j ih =>
    intro hj hk i hi
    obtain ⟨h1, h2, _⟩ := drawOk_spec hd j hj
    rw [h2] at hi
    obtain ⟨k, k1, k2⟩ := orAll_bit hi
    rcases k2 with rfl | k2
    · exact hk i k1
    · exact ih k (h1 k k1) (Nat.lt_trans (h1 k k1) hj) (hcl k (hk k k1)) i k2

theorem astep_some {ops : Array Oper} {i : Nat} {st st' : St} {rd wr : List Nat} (h : astep T C ops i st = some (st', rd, wr)) :
    ∃ o, ops[i]? = some o ∧ ((guardOf ops o st.s = some false ∧ st' = { st with s := putS st.s o.dst (.tup []) } ∧ rd = [] ∧ wr = []) ∨
      (guardOf ops o st.s = some true ∧ ∃ e, aop T C st.ev st.g (st.c + 8 * i) o.op = some e ∧ st' = { st with s := putS st.s o.dst e.v, g := setAll st.g e.wr } ∧ rd = e.rd ∧ wr = e.wr.map (·.1))) := by
  unfold astep at h
  split at h
  · cases h
  · rename_i o ho
    refine ⟨o, ho, ?_⟩
    split at h
    · cases h
    · rename_i hg; cases h; exact .inl ⟨hg, rfl, rfl, rfl⟩
    · rename_i hg
      split at h
      · cases h
      · rename_i e he; cases h; exact .inr ⟨hg, e, he, rfl, rfl, rfl⟩

theorem putS_ne {s : Nat → V} {d : Option Tmp} {v : V} {n : Nat} (h : ∀ t, d = some t → n ≠ t) : putS s d v n = s n := by
  cases d with
  | none => rfl
  | some t => exact upd_ne _ _ (h t rfl)

theorem setAll_ne {l : List (Nat × AObj)} {g : Nat → Option AObj} {n : Nat} (h : n ∉ l.map (·.1)) : setAll g l n = g n := by
  rcases setAll_spec l g n with ⟨o, h1, _⟩ | ⟨_, h2⟩
  · exact absurd (List.mem_map.2 ⟨(n, o), h1, rfl⟩) h
  · exact h2

theorem setAll_congr : ∀ {l : List (Nat × AObj)} {g g' : Nat → Option AObj} {n : Nat}, g n = g' n → setAll g l n = setAll g' l n
  | [], _, _, _, h => h
  | (k, o) :: l, g, g', n, h => by
    show setAll (upd g k (some o)) l n = setAll (upd g' k (some o)) l n
    refine setAll_congr ?_
    unfold upd; split
    · rfl
    · exact h
theorem setAll_mem_irrel : ∀ {l : List (Nat × AObj)} {g g' : Nat → Option AObj} {n : Nat}, n ∈ l.map (·.1) → setAll g l n = setAll g' l n
  | [], _, _, _, h => by simp at h
  | (k, o) :: l, g, g', n, h => by
    show setAll (upd g k (some o)) l n = setAll (upd g' k (some o)) l n
    by_cases hm : n ∈ l.map (·.1)
    · exact setAll_mem_irrel hm
    · have : n = k := by simpa [hm] using h
      subst this
      refine setAll_congr ?_
      simp

theorem setAll_comm {a b : List (Nat × AObj)} {g : Nat → Option AObj} (h : ∀ x ∈ a.map (·.1), x ∉ b.map (·.1)) : setAll (setAll g a) b = setAll (setAll g b) a := by
  funext n
  by_cases ha : n ∈ a.map (·.1)
  · rw [setAll_ne (h n ha)]
    exact setAll_mem_irrel ha
  · rw [setAll_ne (l := a) ha]
    exact setAll_congr (setAll_ne ha)

theorem guardOf_congr {ops : Array Oper} {o : Oper} {s s' : Nat → V} (h : ∀ d, d ∈ o.looksAt ops → s' d = s d) : guardOf ops o s' = guardOf ops o s := by
  unfold guardOf
  cases hg : o.guard with
  | none => rfl
  | some p =>
    obtain ⟨j, want⟩ := p
    simp only
    cases hd : (ops[j]?).bind (·.dst) with
    | none => rfl
    | some d =>
      simp only
      rw [h d (by simp [Oper.looksAt, hg, hd])]

/-- Two operations that do not meet may change places. -/
theorem swap {ops : Array Oper} {x i : Nat} {s0 s1 s2 : St} {rx wx ri wi : List Nat} {ox oi : Oper} (hox : ops[x]? = some ox) (hoi : ops[i]? = some oi) (hap : ox.apart ops oi = true)
    (hx : astep T C ops x s0 = some (s1, rx, wx)) (hi : astep T C ops i s1 = some (s2, ri, wi)) (hin : indep (rx, wx) (ri, wi) = true) :
    ∃ s1', astep T C ops i s0 = some (s1', ri, wi) ∧ astep T C ops x s1' = some (s2, rx, wx) := by
  obtain ⟨p1, p2, p3⟩ := Oper.apart_spec hap
  simp only [indep, Bool.and_eq_true] at hin
  have d1 := disj_spec hin.1
  have d2 := disj_spec hin.2
  have operands : ∀ {o : Oper} {st st' : St}, (∀ d, d ∈ o.looksAt ops → st'.s d = st.s d) → ∀ y ∈ o.op.operands, st'.ev y = st.ev y := by
    intro o st st' h y hy
    cases y with
    | tmp t => exact h t (by simp only [Oper.looksAt, List.mem_append, List.mem_filterMap]; exact .inl ⟨.tmp t, Array.mem_toList_iff.2 hy, rfl⟩)
    | _ => rfl
  obtain ⟨ox', hox', hxx⟩ := astep_some hx
  obtain ⟨oi', hoi', hii⟩ := astep_some hi
  rw [hox] at hox'; cases hox'
  rw [hoi] at hoi'; cases hoi'
  have putcomm : ∀ (s : Nat → V) (u v : V), putS (putS s ox.dst u) oi.dst v = putS (putS s oi.dst v) ox.dst u := by
    intro s u v
    cases hdx : ox.dst with
    | none => rfl
    | some d =>
      cases hdi : oi.dst with
      | none => rfl
      | some d' =>
        have hne : d ≠ d' := fun e => p2 d hdx (by rw [hdi, e])
        funext n
        simp only [putS, upd]
        by_cases h1 : n = d <;> by_cases h2 : n = d' <;> simp [h1, h2]
        · exact absurd (h1.symm.trans h2) hne
        · intro h; exact absurd h hne
        · intro h; exact absurd h.symm hne
  have sx : ∀ u, ∀ d, d ∈ oi.looksAt ops → putS s0.s ox.dst u d = s0.s d := fun u d hd => putS_ne fun t ht e => p1 t ht (e ▸ hd)
  have si : ∀ (s : Nat → V) u, ∀ d, d ∈ ox.looksAt ops → putS s oi.dst u d = s d := fun s u d hd => putS_ne fun t ht e => p3 t ht (e ▸ hd)
  rcases hxx with ⟨gx, rfl, rfl, rfl⟩ | ⟨gx, ex, hex, rfl, rfl, rfl⟩
  · rcases hii with ⟨gi, rfl, rfl, rfl⟩ | ⟨gi, ei, hei, rfl, rfl, rfl⟩
    · rw [guardOf_congr (sx _)] at gi
      refine ⟨{ s0 with s := putS s0.s oi.dst (.tup []) }, by simp only [astep, hoi, gi], ?_⟩
      have := guardOf_congr (ops := ops) (o := ox) (s := s0.s) (si s0.s (.tup []))
      simp only [astep, hox, this, gx, putcomm]
    · simp only at gi hei
      rw [guardOf_congr (sx _)] at gi
      rw [aop_congr (ρ := s0.ev) (operands (st := s0) (o := oi) (sx _))] at hei
      refine ⟨{ s0 with s := putS s0.s oi.dst ei.v, g := setAll s0.g ei.wr }, by simp only [astep, hoi, gi, hei], ?_⟩
      have := guardOf_congr (ops := ops) (o := ox) (s := s0.s) (si s0.s ei.v)
      simp only [astep, hox, this, gx, putcomm]
  · rcases hii with ⟨gi, rfl, rfl, rfl⟩ | ⟨gi, ei, hei, rfl, rfl, rfl⟩
    · simp only at gi
      rw [guardOf_congr (sx _)] at gi
      refine ⟨{ s0 with s := putS s0.s oi.dst (.tup []) }, by simp only [astep, hoi, gi], ?_⟩
      have hg := guardOf_congr (ops := ops) (o := ox) (s := s0.s) (si s0.s (.tup []))
      have ho := aop_congr (T := T) (C := C) (ρ := s0.ev) (ρ' := ({ s0 with s := putS s0.s oi.dst (.tup []) } : St).ev) (g := s0.g) (nm := s0.c + 8 * x) (operands (st := s0) (o := ox) (si s0.s (.tup [])))
      simp only [astep, hox, hg, gx, ho, hex, putcomm]
    · simp only at gi hei d1 d2
      rw [guardOf_congr (sx _)] at gi
      rw [aop_congr (ρ := s0.ev) (operands (st := s0) (o := oi) (sx _))] at hei
      have hei' := aop_loc hei (g' := s0.g) (fun n hn => (setAll_ne (fun h => d1 n h hn)).symm)
      refine ⟨{ s0 with s := putS s0.s oi.dst ei.v, g := setAll s0.g ei.wr }, by simp only [astep, hoi, gi, hei'], ?_⟩
      have hg := guardOf_congr (ops := ops) (o := ox) (s := s0.s) (si s0.s ei.v)
      have ho := aop_congr (T := T) (C := C) (ρ := s0.ev) (ρ' := ({ s0 with s := putS s0.s oi.dst ei.v, g := setAll s0.g ei.wr } : St).ev) (g := setAll s0.g ei.wr) (nm := s0.c + 8 * x) (operands (st := s0) (o := ox) (si s0.s ei.v))
      have hex' := aop_loc hex (g' := setAll s0.g ei.wr) (fun n hn => setAll_ne (fun h => by
        rcases List.mem_append.1 hn with hn | hn
        · exact d2 n h hn
        · exact d1 n hn (List.mem_append_right _ h)))
      have hcm : setAll (setAll s0.g ex.wr) ei.wr = setAll (setAll s0.g ei.wr) ex.wr := setAll_comm fun n hn h => d1 n hn (List.mem_append_right _ h)
      simp only [astep, hox, hg, gx, ho, hex', putcomm, hcm]

/-- An operation that may come up now comes up first. -/
theorem front {ops : Array Oper} {tab : List Nat} (hd : drawOk ops tab = true) {i : Nat} {B : List Nat} : ∀ {A : List Nat} {st st' : St} {fp}, (∀ x ∈ A, x < i ∧ (tab.getD i 0).testBit x = false) → runL T C ops (A ++ i :: B) st = some (st', fp) → fpOk tab fp = true →
    ∃ st1 rd wr fp', astep T C ops i st = some (st1, rd, wr) ∧ runL T C ops (A ++ B) st1 = some (st', fp') ∧ fpOk tab fp' = true ∧ (∀ p ∈ fp', p ∈ fp) ∧ (i, rd, wr) ∈ fp
  | [], st, st', fp, _, hr, hf => by
    simp only [List.nil_append, runL] at hr
    split at hr
    · rename_i st1 rd wr hs
      split at hr
      · rename_i st2 l h2
        cases hr
        simp only [fpOk, Bool.and_eq_true] at hf
        exact ⟨st1, rd, wr, l, hs, h2, hf.2, fun p hp => List.mem_cons_of_mem _ hp, List.mem_cons_self ..⟩
      · cases hr
    · cases hr
  | x :: A, st, st', fp, hA, hr, hf => by
    simp only [List.cons_append, runL] at hr
    split at hr
    · rename_i sx rx wx hs
      split at hr
      · rename_i st2 l h2
        cases hr
        simp only [fpOk, Bool.and_eq_true] at hf
        obtain ⟨st1, rd, wr, fp', q1, q2, q3, q4, q5⟩ := front hd (fun y hy => hA y (List.mem_cons_of_mem _ hy)) h2 hf.2
        obtain ⟨hlt, hbit⟩ := hA x (List.mem_cons_self ..)
        have hpair := List.all_eq_true.1 hf.1 _ q5
        simp only [hbit, Bool.false_or] at hpair
        obtain ⟨oi, hoi, _⟩ := astep_some q1
        have hisz : i < ops.size := (Array.getElem?_eq_some_iff.1 hoi).1
        have hst := drawOk_spec hd
        obtain ⟨a, b, ha, hb, hap⟩ := ((hst i hisz).2.2 x hlt).resolve_left (by rw [hbit]; simp)
        obtain ⟨s1', r1, r2⟩ := swap ha hb hap hs q1 hpair
        refine ⟨s1', rd, wr, (x, rx, wx) :: fp', r1, by simp only [List.cons_append, runL, r2, q2], ?_, ?_, List.mem_cons_of_mem _ q5⟩
        · simp only [fpOk, Bool.and_eq_true]
          exact ⟨List.all_eq_true.2 fun p hp => List.all_eq_true.1 hf.1 p (q4 p hp), q3⟩
        · intro p hp
          rcases List.mem_cons.1 hp with rfl | hp
          · exact List.mem_cons_self ..
          · exact List.mem_cons_of_mem _ (q4 p hp)
      · cases hr
    · cases hr
end Go.Lift
