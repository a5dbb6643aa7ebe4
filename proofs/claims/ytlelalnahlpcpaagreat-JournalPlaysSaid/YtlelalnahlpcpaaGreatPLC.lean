/-
  Texts: L17, L18, L19, L20, L21, L22, L23, L24, L25, L26, L27.
-/
import Derived.Test.YtlelalnahlpcpaaGreatPLB
import Derived.KernelRfl
import Derived.Below
import Derived.Carry
import Derived.ChangeSame
import Derived.WideShapes
import Derived.OpenShut
set_option linter.unusedSimpArgs false
set_option linter.unusedVariables false
/-
  A region that draws its order: one run in the order of the text serves, where what is not ordered does not meet.
-/
namespace Go.Lift

variable {P : Program} {T : TypeId → Option TI} {C : FuncId → List V → List AObj → Option CRes}

def directOf (o : Oper) : List Nat := (o.after.toList.filter fun e => Region.binds .any e).map (·.on)
def direct (ops : Array Oper) (j : Nat) : List Nat := match ops[j]? with | some o => directOf o | none => []
def orAll (tab : List Nat) : List Nat → Nat
  | [] => 0
  | k :: r => (2 ^ k ||| tab.getD k 0) ||| orAll tab r
def befores : List Oper → List Nat → List Nat
  | [], acc => acc
  | o :: r, acc => befores r (acc ++ [orAll acc (directOf o)])

/-- The table tells who stands ahead of whom; who is not ordered writes nothing that the other looks at. -/
def drawOk (ops : Array Oper) (tab : List Nat) : Bool :=
  (List.range ops.size).all fun j => (direct ops j).all (fun k => decide (k < j)) && (tab.getD j 0 == orAll tab (direct ops j)) &&
    (List.range j).all fun i => (tab.getD j 0).testBit i || match ops[i]?, ops[j]? with
      | some a, some b => a.apart ops b
      | _, _ => false

def disj (a b : List Nat) : Bool := a.all fun x => !b.contains x
def indep (f g : List Nat × List Nat) : Bool := disj f.2 (g.1 ++ g.2) && disj g.2 f.1
def fpOk (tab : List Nat) : List (Nat × List Nat × List Nat) → Bool
  | [] => true
  | (i, f) :: r => r.all (fun p => (tab.getD p.1 0).testBit i || indep f p.2) && fpOk tab r

theorem disj_spec {a b : List Nat} (h : disj a b = true) : ∀ x ∈ a, x ∉ b := by
  intro x hx hb
  have := List.all_eq_true.1 h x hx
  simp [hb] at this

theorem orAll_bit {tab : List Nat} {i : Nat} : ∀ {l : List Nat}, (orAll tab l).testBit i = true → ∃ k ∈ l, i = k ∨ (tab.getD k 0).testBit i = true
  | [], h => by simp [orAll] at h
  | k :: r, h => by
    simp only [orAll, Nat.testBit_or, Bool.or_eq_true] at h
    rcases h with (h | h) | h
    · refine ⟨k, List.mem_cons_self .., .inl ?_⟩
      rw [Nat.testBit_two_pow] at h
      exact (show k = i by simpa using h).symm
    · exact ⟨k, List.mem_cons_self .., .inr h⟩
    · obtain ⟨k', h1, h2⟩ := orAll_bit h
      exact ⟨k', List.mem_cons_of_mem _ h1, h2⟩

theorem drawOk_spec {ops : Array Oper} {tab : List Nat} (h : drawOk ops tab = true) : ∀ j, j < ops.size → (∀ k ∈ direct ops j, k < j) ∧ tab.getD j 0 = orAll tab (direct ops j) ∧
    ∀ i, i < j → (tab.getD j 0).testBit i = true ∨ ∃ a b, ops[i]? = some a ∧ ops[j]? = some b ∧ a.apart ops b = true := by
  simp only [drawOk, Bool.and_eq_true, List.all_eq_true, List.mem_range] at h
  intro j hj
  obtain ⟨⟨h1, h2⟩, h3⟩ := h j hj
  refine ⟨fun k hk => by simpa using h1 k hk, by simpa using h2, fun i hi => ?_⟩
  have := h3 i hi
  simp only [Bool.or_eq_true] at this
  rcases this with h | h
  · exact .inl h
  · split at h
    · rename_i a b ha hb; exact .inr ⟨a, b, ha, hb, h⟩
    · cases h

/-- What stands ahead of j has come up, if j may come up. -/
theorem ahead_listed {ops : Array Oper} {tab : List Nat} (hd : drawOk ops tab = true) {L : Nat → Prop} (hcl : ∀ j, L j → ∀ k ∈ direct ops j, L k) : ∀ (j : Nat), j < ops.size → (∀ k ∈ direct ops j, L k) → ∀ i, (tab.getD j 0).testBit i = true → L i := by
  intro j
  induction j using Nat.strongRecOn with
  | _ j ih =>
    intro hj hk i hi
    obtain ⟨h1, h2, _⟩ := drawOk_spec hd j hj
    rw [h2] at hi
    obtain ⟨k, k1, k2⟩ := orAll_bit hi
    rcases k2 with rfl | k2
    · exact hk i k1
    · exact ih k (h1 k k1) (Nat.lt_trans (h1 k k1) hj) (hcl k (hk k k1)) i k2

theorem astep_some {ops : Array Oper} {i : Nat} {st st' : St} {rd wr : List Nat} (h : astep T C ops i st = some (st', rd, wr)) :
    ∃ o, ops[i]? = some o ∧ ((guardOf ops o st.s = some false ∧ st' = { st with s := putS st.s o.dst (.tup []) } ∧ rd = [] ∧ wr = []) ∨
      (guardOf ops o st.s = some true ∧ ∃ e, aop T C st.ev st.g (st.c + 8 * i) o.op = some e ∧ st' = { st with s := putS st.s o.dst e.v, g := setAll st.g e.wr } ∧ rd = e.rd ∧ wr = e.wr.map (·.1))) := by
  unfold astep at h
  split at h
  · cases h
  · rename_i o ho
    refine ⟨o, ho, ?_⟩
    split at h
    · cases h
    · rename_i hg; cases h; exact .inl ⟨hg, rfl, rfl, rfl⟩
    · rename_i hg
      split at h
      · cases h
      · rename_i e he; cases h; exact .inr ⟨hg, e, he, rfl, rfl, rfl⟩

theorem putS_ne {s : Nat → V} {d : Option Tmp} {v : V} {n : Nat} (h : ∀ t, d = some t → n ≠ t) : putS s d v n = s n := by
  cases d with
  | none => rfl
  | some t => exact upd_ne _ _ (h t rfl)

theorem setAll_ne {l : List (Nat × AObj)} {g : Nat → Option AObj} {n : Nat} (h : n ∉ l.map (·.1)) : setAll g l n = g n := by
  rcases setAll_spec l g n with ⟨o, h1, _⟩ | ⟨_, h2⟩
  · exact absurd (List.mem_map.2 ⟨(n, o), h1, rfl⟩) h
  · exact h2

theorem setAll_congr : ∀ {l : List (Nat × AObj)} {g g' : Nat → Option AObj} {n : Nat}, g n = g' n → setAll g l n = setAll g' l n
  | [], _, _, _, h => h
  | (k, o) :: l, g, g', n, h => by
    show setAll (upd g k (some o)) l n = setAll (upd g' k (some o)) l n
    refine setAll_congr ?_
    unfold upd; split
    · rfl
    · exact h
theorem setAll_mem_irrel : ∀ {l : List (Nat × AObj)} {g g' : Nat → Option AObj} {n : Nat}, n ∈ l.map (·.1) → setAll g l n = setAll g' l n
  | [], _, _, _, h => by simp at h
  | (k, o) :: l, g, g', n, h => by
    show setAll (upd g k (some o)) l n = setAll (upd g' k (some o)) l n
    by_cases hm : n ∈ l.map (·.1)
    · exact setAll_mem_irrel hm
    · have : n = k := by simpa [hm] using h
      subst this
      refine setAll_congr ?_
      simp

theorem setAll_comm {a b : List (Nat × AObj)} {g : Nat → Option AObj} (h : ∀ x ∈ a.map (·.1), x ∉ b.map (·.1)) : setAll (setAll g a) b = setAll (setAll g b) a := by
  funext n
  by_cases ha : n ∈ a.map (·.1)
  · rw [setAll_ne (h n ha)]
    exact setAll_mem_irrel ha
  · rw [setAll_ne (l := a) ha]
    exact setAll_congr (setAll_ne ha)

theorem guardOf_congr {ops : Array Oper} {o : Oper} {s s' : Nat → V} (h : ∀ d, d ∈ o.looksAt ops → s' d = s d) : guardOf ops o s' = guardOf ops o s := by
  unfold guardOf
  cases hg : o.guard with
  | none => rfl
  | some p =>
    obtain ⟨j, want⟩ := p
    simp only
    cases hd : (ops[j]?).bind (·.dst) with
    | none => rfl
    | some d =>
      simp only
      rw [h d (by simp [Oper.looksAt, hg, hd])]

/-- Two operations that do not meet may change places. -/
theorem swap {ops : Array Oper} {x i : Nat} {s0 s1 s2 : St} {rx wx ri wi : List Nat} {ox oi : Oper} (hox : ops[x]? = some ox) (hoi : ops[i]? = some oi) (hap : ox.apart ops oi = true)
    (hx : astep T C ops x s0 = some (s1, rx, wx)) (hi : astep T C ops i s1 = some (s2, ri, wi)) (hin : indep (rx, wx) (ri, wi) = true) :
    ∃ s1', astep T C ops i s0 = some (s1', ri, wi) ∧ astep T C ops x s1' = some (s2, rx, wx) := by
  obtain ⟨p1, p2, p3⟩ := Oper.apart_spec hap
  simp only [indep, Bool.and_eq_true] at hin
  have d1 := disj_spec hin.1
  have d2 := disj_spec hin.2
  have operands : ∀ {o : Oper} {st st' : St}, (∀ d, d ∈ o.looksAt ops → st'.s d = st.s d) → ∀ y ∈ o.op.operands, st'.ev y = st.ev y := by
    intro o st st' h y hy
    cases y with
    | tmp t => exact h t (by simp only [Oper.looksAt, List.mem_append, List.mem_filterMap]; exact .inl ⟨.tmp t, Array.mem_toList_iff.2 hy, rfl⟩)
    | _ => rfl
  obtain ⟨ox', hox', hxx⟩ := astep_some hx
  obtain ⟨oi', hoi', hii⟩ := astep_some hi
  rw [hox] at hox'; cases hox'
  rw [hoi] at hoi'; cases hoi'
  have putcomm : ∀ (s : Nat → V) (u v : V), putS (putS s ox.dst u) oi.dst v = putS (putS s oi.dst v) ox.dst u := by
    intro s u v
    cases hdx : ox.dst with
    | none => rfl
    | some d =>
      cases hdi : oi.dst with
      | none => rfl
      | some d' =>
        have hne : d ≠ d' := fun e => p2 d hdx (by rw [hdi, e])
        funext n
        simp only [putS, upd]
        by_cases h1 : n = d <;> by_cases h2 : n = d' <;> simp [h1, h2]
        · exact absurd (h1.symm.trans h2) hne
        · intro h; exact absurd h hne
        · intro h; exact absurd h.symm hne
  have sx : ∀ u, ∀ d, d ∈ oi.looksAt ops → putS s0.s ox.dst u d = s0.s d := fun u d hd => putS_ne fun t ht e => p1 t ht (e ▸ hd)
  have si : ∀ (s : Nat → V) u, ∀ d, d ∈ ox.looksAt ops → putS s oi.dst u d = s d := fun s u d hd => putS_ne fun t ht e => p3 t ht (e ▸ hd)
  rcases hxx with ⟨gx, rfl, rfl, rfl⟩ | ⟨gx, ex, hex, rfl, rfl, rfl⟩
  · rcases hii with ⟨gi, rfl, rfl, rfl⟩ | ⟨gi, ei, hei, rfl, rfl, rfl⟩
    · rw [guardOf_congr (sx _)] at gi
      refine ⟨{ s0 with s := putS s0.s oi.dst (.tup []) }, by simp only [astep, hoi, gi], ?_⟩
      have := guardOf_congr (ops := ops) (o := ox) (s := s0.s) (si s0.s (.tup []))
      simp only [astep, hox, this, gx, putcomm]
    · simp only at gi hei
      rw [guardOf_congr (sx _)] at gi
      rw [aop_congr (ρ := s0.ev) (operands (st := s0) (o := oi) (sx _))] at hei
      refine ⟨{ s0 with s := putS s0.s oi.dst ei.v, g := setAll s0.g ei.wr }, by simp only [astep, hoi, gi, hei], ?_⟩
      have := guardOf_congr (ops := ops) (o := ox) (s := s0.s) (si s0.s ei.v)
      simp only [astep, hox, this, gx, putcomm]
  · rcases hii with ⟨gi, rfl, rfl, rfl⟩ | ⟨gi, ei, hei, rfl, rfl, rfl⟩
    · simp only at gi
      rw [guardOf_congr (sx _)] at gi
      refine ⟨{ s0 with s := putS s0.s oi.dst (.tup []) }, by simp only [astep, hoi, gi], ?_⟩
      have hg := guardOf_congr (ops := ops) (o := ox) (s := s0.s) (si s0.s (.tup []))
      have ho := aop_congr (T := T) (C := C) (ρ := s0.ev) (ρ' := ({ s0 with s := putS s0.s oi.dst (.tup []) } : St).ev) (g := s0.g) (nm := s0.c + 8 * x) (operands (st := s0) (o := ox) (si s0.s (.tup [])))
      simp only [astep, hox, hg, gx, ho, hex, putcomm]
    · simp only at gi hei d1 d2
      rw [guardOf_congr (sx _)] at gi
      rw [aop_congr (ρ := s0.ev) (operands (st := s0) (o := oi) (sx _))] at hei
      have hei' := aop_loc hei (g' := s0.g) (fun n hn => (setAll_ne (fun h => d1 n h hn)).symm)
      refine ⟨{ s0 with s := putS s0.s oi.dst ei.v, g := setAll s0.g ei.wr }, by simp only [astep, hoi, gi, hei'], ?_⟩
      have hg := guardOf_congr (ops := ops) (o := ox) (s := s0.s) (si s0.s ei.v)
      have ho := aop_congr (T := T) (C := C) (ρ := s0.ev) (ρ' := ({ s0 with s := putS s0.s oi.dst ei.v, g := setAll s0.g ei.wr } : St).ev) (g := setAll s0.g ei.wr) (nm := s0.c + 8 * x) (operands (st := s0) (o := ox) (si s0.s ei.v))
      have hex' := aop_loc hex (g' := setAll s0.g ei.wr) (fun n hn => setAll_ne (fun h => by
        rcases List.mem_append.1 hn with hn | hn
        · exact d2 n h hn
        · exact d1 n hn (List.mem_append_right _ h)))
      have hcm : setAll (setAll s0.g ex.wr) ei.wr = setAll (setAll s0.g ei.wr) ex.wr := setAll_comm fun n hn h => d1 n hn (List.mem_append_right _ h)
      simp only [astep, hox, hg, gx, ho, hex', putcomm, hcm]

/-- An operation that may come up now comes up first. -/
theorem front {ops : Array Oper} {tab : List Nat} (hd : drawOk ops tab = true) {i : Nat} {B : List Nat} : ∀ {A : List Nat} {st st' : St} {fp}, (∀ x ∈ A, x < i ∧ (tab.getD i 0).testBit x = false) → runL T C ops (A ++ i :: B) st = some (st', fp) → fpOk tab fp = true →
    ∃ st1 rd wr fp', astep T C ops i st = some (st1, rd, wr) ∧ runL T C ops (A ++ B) st1 = some (st', fp') ∧ fpOk tab fp' = true ∧ (∀ p ∈ fp', p ∈ fp) ∧ (i, rd, wr) ∈ fp
  | [], st, st', fp, _, hr, hf => by
    simp only [List.nil_append, runL] at hr
    split at hr
    · rename_i st1 rd wr hs
      split at hr
      · rename_i st2 l h2
        cases hr
        simp only [fpOk, Bool.and_eq_true] at hf
        exact ⟨st1, rd, wr, l, hs, h2, hf.2, fun p hp => List.mem_cons_of_mem _ hp, List.mem_cons_self ..⟩
      · cases hr
    · cases hr
  | x :: A, st, st', fp, hA, hr, hf => by
    simp only [List.cons_append, runL] at hr
    split at hr
    · rename_i sx rx wx hs
      split at hr
      · rename_i st2 l h2
        cases hr
        simp only [fpOk, Bool.and_eq_true] at hf
        obtain ⟨st1, rd, wr, fp', q1, q2, q3, q4, q5⟩ := front hd (fun y hy => hA y (List.mem_cons_of_mem _ hy)) h2 hf.2
        obtain ⟨hlt, hbit⟩ := hA x (List.mem_cons_self ..)
        have hpair := List.all_eq_true.1 hf.1 _ q5
        simp only [hbit, Bool.false_or] at hpair
        obtain ⟨oi, hoi, _⟩ := astep_some q1
        have hisz : i < ops.size := (Array.getElem?_eq_some_iff.1 hoi).1
        have hst := drawOk_spec hd
        obtain ⟨a, b, ha, hb, hap⟩ := ((hst i hisz).2.2 x hlt).resolve_left (by rw [hbit]; simp)
        obtain ⟨s1', r1, r2⟩ := swap ha hb hap hs q1 hpair
        refine ⟨s1', rd, wr, (x, rx, wx) :: fp', r1, by simp only [List.cons_append, runL, r2, q2], ?_, ?_, List.mem_cons_of_mem _ q5⟩
        · simp only [fpOk, Bool.and_eq_true]
          exact ⟨List.all_eq_true.2 fun p hp => List.all_eq_true.1 hf.1 p (q4 p hp), q3⟩
        · intro p hp
          rcases List.mem_cons.1 hp with rfl | hp
          · exact List.mem_cons_self ..
          · exact List.mem_cons_of_mem _ (q4 p hp)
      · cases hr
    · cases hr
end Go.Lift

/-
  Code, loops, functions.
-/
namespace Go.Lift

variable {P : Program} {T : TypeId → Option TI} {C : FuncId → List V → List AObj → Option CRes}

theorem draw_any (hT : TypesOk P T) (hC : SpecsOk P C) {w0 ex N} {ops : Array Oper} {tab : List Nat} (hd : drawOk ops tab = true) (hN : ∀ (i : Nat) (o : Oper) t, ops[i]? = some o → o.dst = some t → t < N) {Q : Exit → Act → World → Prop} {st' : St}
    (hQ : ∀ a' w' I' γ', Sim w0 ex N st' a' w' I' γ' → Q .normal a' w') : ∀ (n : Nat) (l : List Nat) (listed : Array Bool) {st : St} {fp} {a w I γ}, l.length = n → listed.size = ops.size →
    (∀ i, i ∈ l ↔ i < ops.size ∧ listed.getD i true = false) → l.Pairwise (· < ·) → (∀ j, listed.getD j false = true → ∀ k ∈ direct ops j, listed.getD k false = true) → runL T C ops l st = some (st', fp) → fpOk tab fp = true →
    Sim w0 ex N st a w I γ → wpAny P .any ops Q n listed a w := by
  intro n
  induction n with
  | zero =>
    intro l listed st fp a w I γ hl hsz hmem _ _ hr _ hs
    cases List.eq_nil_of_length_eq_zero hl
    cases hr
    refine ⟨?_, hQ _ _ _ _ hs⟩
    rw [List.eq_nil_iff_forall_not_mem]
    intro i hi
    obtain ⟨h1, o, h2, _⟩ := mem_ready.1 hi
    have := (hmem i).2 ⟨(Array.getElem?_eq_some_iff.1 h2).1, h1⟩
    cases this
  | succ n ih =>
    intro l listed st fp a w I γ hl hsz hmem hsort hcl hr hf hs
    have get_lt : ∀ k, k < ops.size → listed.getD k true = false ∨ listed.getD k false = true := by
      intro k hk
      have hk' : k < listed.size := by rw [hsz]; exact hk
      cases hb : listed[k] with
      | false => left; simp [Array.getD, hk', hb]
      | true => right; simp [Array.getD, hk', hb]
    have dirs : ∀ j o, ops[j]? = some o → ∀ k, k ∈ direct ops j ↔ ∃ e ∈ o.after, Region.binds .any e = true ∧ e.on = k := by
      intro j o ho k
      simp only [direct, ho, directOf, List.mem_map, List.mem_filter, Array.mem_toList_iff]
      constructor
      · rintro ⟨e, ⟨h1, h2⟩, h3⟩; exact ⟨e, h1, h2, h3⟩
      · rintro ⟨e, h1, h2, h3⟩; exact ⟨e, ⟨h1, h2⟩, h3⟩
    refine ⟨fun hnil => ?_, fun i hi => ?_⟩
    · exfalso
      cases l with
      | nil => simp at hl
      | cons h t =>
        have hh := (hmem h).1 (List.mem_cons_self ..)
        have ho := Array.getElem?_eq_getElem hh.1
        have : h ∈ Region.ready .any ops listed := by
          refine mem_ready.2 ⟨hh.2, _, ho, fun e he hb => ?_⟩
          have hk := (dirs h _ ho e.on).2 ⟨e, he, hb, rfl⟩
          have hlt := (drawOk_spec hd h hh.1).1 _ hk
          rcases get_lt e.on (Nat.lt_trans hlt hh.1) with h1 | h1
          · have := (hmem e.on).2 ⟨Nat.lt_trans hlt hh.1, h1⟩
            rcases List.mem_cons.1 this with h2 | h2
            · omega
            · have := (List.pairwise_cons.1 hsort).1 _ h2; omega
          · exact h1
        rw [hnil] at this; cases this
    · obtain ⟨h1, o, ho, hall⟩ := mem_ready.1 hi
      have hisz := (Array.getElem?_eq_some_iff.1 ho).1
      have him := (hmem i).2 ⟨hisz, h1⟩
      obtain ⟨A, B, rfl⟩ := List.append_of_mem him
      have hdirl : ∀ k ∈ direct ops i, listed.getD k false = true := by
        intro k hk
        obtain ⟨e, he, hb, rfl⟩ := (dirs i o ho k).1 hk
        exact hall e he hb
      have hA : ∀ x ∈ A, x < i ∧ (tab.getD i 0).testBit x = false := by
        intro x hx
        refine ⟨(List.pairwise_append.1 hsort).2.2 x hx i (List.mem_cons_self ..), ?_⟩
        cases hb : (tab.getD i 0).testBit x with
        | false => rfl
        | true =>
          have hl' := ahead_listed hd (L := fun k => listed.getD k false = true) hcl i hisz hdirl x hb
          have hx' := (hmem x).1 (List.mem_append_left _ hx)
          have hlt : x < listed.size := by rw [hsz]; exact hx'.1
          simp [Array.getD, hlt] at hl' hx'
          rw [hl'] at hx'
          simp at hx'
      obtain ⟨st1, rd, wr, fp', q1, q2, q3, _, _⟩ := front hd hA hr hf
      refine astep_sound hT hC hs q1 (hN i) fun a' w' I' γ' hs' => ih (A ++ B) _ ?_ ?_ ?_ ?_ ?_ q2 q3 hs'
      · simp at hl ⊢; omega
      · simpa using hsz
      · intro k
        have hil : i < listed.size := by rw [hsz]; exact hisz
        have hni : i ∉ A ++ B := by
          intro hm
          rcases List.mem_append.1 hm with hm | hm
          · exact Nat.lt_irrefl _ ((List.pairwise_append.1 hsort).2.2 i hm i (List.mem_cons_self ..))
          · exact Nat.lt_irrefl _ ((List.pairwise_cons.1 (List.pairwise_append.1 hsort).2.1).1 i hm)
        by_cases e : k = i
        · subst e
          constructor
          · intro hm; exact absurd hm hni
          · rintro ⟨_, h⟩; simp [Array.getD, hil] at h
        · rw [getD_set_ne true (fun h => e h.symm), ← hmem k]
          simp [e]
      · have hp := List.pairwise_append.1 hsort
        refine List.pairwise_append.2 ⟨hp.1, (List.pairwise_cons.1 hp.2.1).2, fun x hx y hy => hp.2.2 x hx y (List.mem_cons_of_mem _ hy)⟩
      · intro j hj k hk
        by_cases e : j = i
        · subst e; exact getD_set_true (hdirl k hk)
        · rw [getD_set_ne false (fun h => e h.symm)] at hj
          exact getD_set_true (hcl j hj k hk)

theorem Sim.same {w0 ex N st a w I γ} (h : Sim w0 ex N st a w I γ) {w' : World} (hs : Same w w') : Sim w0 ex N st a w' I γ :=
  ⟨h.size, fun n => (hs.ext I γ).rd (h.slots n), h.inv.same hs, h.defers, (hs.ext I γ).glob h.glob⟩

/-- A state that says less. -/
def Weak (k : Nat) (st st' : St) : Prop := ∀ w0 ex N a w I γ, (∀ n, k ≤ n → ex.fix n = none) → Sim w0 ex N st a w I γ → ∃ I' γ', Sim w0 ex N st' a w I' γ'

theorem Weak.refl (k : Nat) (st : St) : Weak k st st := fun _ _ _ _ _ _ _ _ h => ⟨_, _, h⟩
theorem Weak.trans {k : Nat} {a b c : St} (h : Weak k a b) (h2 : Weak k b c) : Weak k a c := fun w0 ex N x w I γ hk s => by
  obtain ⟨I', γ', s'⟩ := h w0 ex N x w I γ hk s
  exact h2 w0 ex N x w I' γ' hk s'

/-- One operation, given itself. -/
noncomputable def stepO (T : TypeId → Option TI) (C : FuncId → List V → List AObj → Option CRes) (ops : Array Oper) (o : Oper) (nm : Nat) (st : St) : Option (St × List Nat × List Nat) :=
  match guardOf ops o st.s with
  | none => none
  | some false => some ({ st with s := putS st.s o.dst (.tup []) }, [], [])
  | some true => match aop T C st.ev st.g nm o.op with
    | none => none
    | some e => some ({ st with s := putS st.s o.dst e.v, g := setAll st.g e.wr }, e.rd, e.wr.map (·.1))

/-- The operations of a region in the order of the text, from number i on. -/
noncomputable def runO (T : TypeId → Option TI) (C : FuncId → List V → List AObj → Option CRes) (ops : Array Oper) : List Oper → Nat → St → Option (St × List (Nat × List Nat × List Nat))
  | [], _, st => some (st, [])
  | o :: r, i, st => match stepO T C ops o (st.c + 8 * i) st with
    | some (st', rd, wr) => match runO T C ops r (i + 1) st' with
      | some (st'', l) => some (st'', (i, rd, wr) :: l)
      | none => none
    | none => none

theorem runO_eq {ops : Array Oper} : ∀ (l : List Oper) (i : Nat) (st : St), (∀ j, l[j]? = ops[i + j]?) → runO T C ops l i st = runL T C ops (List.range' i l.length) st
  | [], i, st, _ => rfl
  | o :: r, i, st, h => by
    have ho : ops[i]? = some o := by simpa using (h 0).symm
    have hr : ∀ j, r[j]? = ops[i + 1 + j]? := fun j => by
      have := h (j + 1)
      rw [List.getElem?_cons_succ] at this
      rw [this]; congr 1; omega
    have hs : astep T C ops i st = stepO T C ops o (st.c + 8 * i) st := by
      simp only [astep, ho, stepO]
      cases guardOf ops o st.s with
      | none => rfl
      | some b => cases b <;> rfl
    simp only [runO, List.length_cons, List.range'_succ, runL, hs]
    cases stepO T C ops o (st.c + 8 * i) st with
    | none => rfl
    | some p =>
      obtain ⟨a, b, c⟩ := p
      simp only [runO_eq r (i + 1) _ hr]
      cases runL T C ops (List.range' (i + 1) r.length) a <;> rfl

def tabOf (ops : Array Oper) : List Nat := befores ops.toList []

/-- The weakest state from which code comes to Q. -/
def axwp (T : TypeId → Option TI) (C : FuncId → List V → List AObj → Option CRes) (k : Nat) : Code → (Exit → St → Prop) → St → Prop
  | .skip, Q, st => Q .normal st
  | .label _, Q, st => Q .normal st
  | .region _ ops draw, Q, st => ∃ st' fp, runO T C ops ops.toList 0 st = some (st', fp) ∧ (draw = true → drawOk ops (tabOf ops) = true ∧ fpOk (tabOf ops) fp = true) ∧ Q .normal { st' with c := st'.c + 8 * ops.size }
  | .seq a b, Q, st => axwp T C k a (fun e st' => match e with | .normal => axwp T C k b Q st' | e => Q e st') st
  | .cond c x y, Q, st => match st.ev c with
    | .bool true => axwp T C k x Q st
    | .bool false => axwp T C k y Q st
    | .anyB => axwp T C k x Q st ∧ axwp T C k y Q st
    | _ => False
  | .block id c, Q, st => axwp T C k c (fun e st' => match e with | .exit i => if i = id then Q .normal st' else Q (.exit i) st' | e => Q e st') st
  | .loop c, Q, st => ∃ J : Nat → St → Prop, (∃ n st0, Weak k st st0 ∧ J n st0) ∧ ∀ n st1, J n st1 → axwp T C k c (fun e st' => match e with | .normal => ∃ m st2, m < n ∧ Weak k st' st2 ∧ J m st2 | e => Q e st') st1
  | .exit id, Q, st => Q (.exit id) st
  | .ret, Q, st => Q .ret st
  | _, _, _ => False

def dstOk (N : Nat) : Code → Bool
  | .region _ ops _ => ops.all fun o => match o.dst with | some d => decide (d < N) | none => true
  | .seq a b => dstOk N a && dstOk N b
  | .cond _ a b => dstOk N a && dstOk N b
  | .block _ a => dstOk N a
  | .loop a => dstOk N a
  | _ => true

theorem wp_loop' {c : Code} {Q : Exit → Act → World → Prop} (I : Nat → Act → World → Prop) (round : ∀ n a w, I n a w → c.wp P (Exit.then (fun a' w' => ∃ m, m < n ∧ I m a' w') Q) a w) {n : Nat} {a : Act} {w : World} (h₀ : I n a w) : (Code.loop c).wp P Q a w := by
  intro b k cs
  have key : ∀ n a w, I n a w → ∃ e a' w', Q e a' w' ∧ Arrives P (lone (b.at a (.code c :: .inLoop c :: k)) cs w) b k cs e a' w' := by
    intro n
    induction n using Nat.strongRecOn with
    | _ n ih =>
      intro a w hI
      obtain ⟨e, a₁, w₁, hq, harr⟩ := round n a w hI b (.inLoop c :: k) cs
      cases e with
      | normal =>
        obtain ⟨m, hlt, hI₁⟩ := hq
        obtain ⟨e₂, a₂, w₂, hq₂, harr₂⟩ := ih m hlt a₁ w₁ hI₁
        exact ⟨e₂, a₂, w₂, hq₂, .of_steps (Steps.trans harr (.one step_inLoop)) harr₂⟩
      | exit id => exact ⟨_, a₁, w₁, hq, .pass (x := .inLoop c) rfl (fun _ _ => .inl (by simp)) harr⟩
      | goto l => exact ⟨_, a₁, w₁, hq, .pass (x := .inLoop c) rfl (fun _ _ => .inl (by simp)) harr⟩
      | ret => exact ⟨_, a₁, w₁, hq, .pass (x := .inLoop c) rfl (fun _ _ => .inl (by simp)) harr⟩
      | panic ch => exact ⟨_, a₁, w₁, hq, .pass (x := .inLoop c) rfl (fun _ _ => .inl (by simp)) harr⟩
      | outgrown => exact ⟨_, a₁, w₁, hq, .pass (x := .inLoop c) rfl (fun _ _ => .inl (by simp)) harr⟩
  obtain ⟨e, a', w', hq, harr⟩ := key n a w h₀
  exact ⟨e, a', w', hq, .of_steps (.one step_loop) harr⟩

theorem axwp_sound (hT : TypesOk P T) (hC : SpecsOk P C) (hm : P.follows .mixedOrders = true) {w0 ex N k} (hk : ∀ n, k ≤ n → ex.fix n = none) : ∀ (c : Code) {Q : Exit → St → Prop} {Q' : Exit → Act → World → Prop} {st a w I γ}, dstOk N c = true → Sim w0 ex N st a w I γ → axwp T C k c Q st →
    (∀ e st' a' w' I' γ', Q e st' → Sim w0 ex N st' a' w' I' γ' → Q' e a' w') → c.wp P Q' a w := by
  intro c
  induction c with
  | skip => intro Q Q' st a w I γ _ hs h hQ; exact wp_skip (hQ _ _ _ _ _ _ h hs)
  | label l => intro Q Q' st a w I γ _ hs h hQ; exact wp_label (hQ _ _ _ _ _ _ h hs)
  | exit id => intro Q Q' st a w I γ _ hs h hQ; exact wp_exit (hQ _ _ _ _ _ _ h hs)
  | ret => intro Q Q' st a w I γ _ hs h hQ; exact wp_ret (hQ _ _ _ _ _ _ h hs)
  | region id ops draw =>
    intro Q Q' st a w I γ hN hs h hQ
    obtain ⟨st', fp, h1, h2, h3⟩ := h
    rw [runO_eq ops.toList 0 st (fun j => by rw [Array.getElem?_toList, Nat.zero_add]), Array.length_toList, ← List.range_eq_range'] at h1
    have hN' : ∀ (i : Nat) (o : Oper) t, ops[i]? = some o → o.dst = some t → t < N := by
      intro i o t ho ht
      have := Array.all_eq_true_iff_forall_mem.1 hN o (Array.mem_of_getElem? ho)
      simpa [ht] using this
    have hQ' : ∀ a' w' I' γ', Sim w0 ex N st' a' w' I' γ' → Q' .normal a' w' := fun a' w' I' γ' hs' => hQ _ _ _ _ _ _ h3 ⟨hs'.size, hs'.slots, hs'.inv, hs'.defers, hs'.glob⟩
    cases draw with
    | false => exact wp_region (runL_sound hT hC hN' hs h1 hQ')
    | true =>
      obtain ⟨d1, d2⟩ := h2 rfl
      refine wp_region_any hm (draw_any hT hC d1 hN' hQ' ops.size (List.range ops.size) _ (by simp) (by simp) (fun i => ?_) List.pairwise_lt_range (fun j hj => ?_) h1 d2 (hs.same ⟨rfl, rfl, rfl, rfl⟩))
      · rw [List.mem_range]
        constructor
        · intro hi; exact ⟨hi, by simp [Array.getD, hi]⟩
        · exact (·.1)
      · exfalso
        by_cases hj' : j < ops.size <;> simp [Array.getD, hj'] at hj
  | seq x y ihx ihy =>
    intro Q Q' st a w I γ hN hs h hQ
    simp only [dstOk, Bool.and_eq_true] at hN
    refine wp_seq (ihx hN.1 hs h fun e st' a' w' I' γ' hq hs' => ?_)
    cases e with
    | normal => exact ihy hN.2 hs' hq hQ
    | _ => exact hQ _ _ _ _ _ _ hq hs'
  | cond c x y ihx ihy =>
    intro Q Q' st a w I γ hN hs h hQ
    simp only [dstOk, Bool.and_eq_true] at hN
    simp only [axwp] at h
    have hev := hs.ev c
    split at h
    · rename_i hb
      rw [hb] at hev
      refine wp_cond_true ?_ (ihx hN.1 hs h hQ)
      generalize a.eval c = v at hev
      cases hev; rfl
    · rename_i hb
      rw [hb] at hev
      refine wp_cond_false ?_ (ihy hN.2 hs h hQ)
      generalize a.eval c = v at hev
      cases hev; rfl
    · rename_i hb
      rw [hb] at hev
      generalize hv : a.eval c = v at hev
      cases hev with
      | anyB _ b =>
        cases b with
        | true => exact wp_cond_true hv (ihx hN.1 hs h.1 hQ)
        | false => exact wp_cond_false hv (ihy hN.2 hs h.2 hQ)
    · exact h.elim
  | block id c ih =>
    intro Q Q' st a w I γ hN hs h hQ
    refine wp_block (ih hN hs h fun e st' a' w' I' γ' hq hs' => ?_)
    cases e with
    | exit i =>
      simp only [Exit.inBlock]
      simp only at hq
      split
      · rename_i e; rw [if_pos e] at hq; exact hQ _ _ _ _ _ _ hq hs'
      · rename_i e; rw [if_neg e] at hq; exact hQ _ _ _ _ _ _ hq hs'
    | _ => exact hQ _ _ _ _ _ _ hq hs'
  | loop c ih =>
    intro Q Q' st a w I γ hN hs h hQ
    obtain ⟨J, ⟨n, st0, hw, hJ⟩, hround⟩ := h
    obtain ⟨I0, γ0, hs0⟩ := hw _ _ _ _ _ _ _ hk hs
    refine wp_loop' (fun n a w => ∃ st I γ, J n st ∧ Sim w0 ex N st a w I γ) (fun n a w ⟨st, I, γ, hj, hs⟩ => ?_) (n := n) ⟨st0, I0, γ0, hJ, hs0⟩
    refine ih hN hs (hround n st hj) fun e st' a' w' I' γ' hq hs' => ?_
    cases e with
    | normal =>
      obtain ⟨m, st2, hlt, hw2, hj2⟩ := hq
      obtain ⟨I2, γ2, hs2⟩ := hw2 _ _ _ _ _ _ _ hk hs'
      exact ⟨m, hlt, st2, I2, γ2, hj2, hs2⟩
    | _ => exact hQ _ _ _ _ _ _ hq hs'
  | _ => intro Q Q' st a w I γ _ _ h _; exact h.elim
end Go.Lift

/-
  A function's specification from a run over data; states that say less.
-/
namespace Go.Lift

variable {P : Program} {T : TypeId → Option TI} {C : FuncId → List V → List AObj → Option CRes}

/-- The names in data are among those of D. -/
def V.within (D : Nat → Bool) : V → Bool
  | .own nm _ _ => D nm
  | .ptr nm _ _ => D nm
  | .agg cs | .tup cs => withinAll D cs
  | .tree .. => false
  | _ => true
where withinAll (D : Nat → Bool) : List V → Bool
  | [] => true
  | c :: cs => c.within D && withinAll D cs
def V.withinC (D : Nat → Bool) : List V → Bool
  | [] => true
  | c :: cs => (c.isTree || c.within D) && withinC D cs
def AObj.within (D : Nat → Bool) (o : AObj) : Bool := decide (o.fl ≠ 0) || o.elems.all (V.withinC D)
theorem V.withinC_get {D : Nat → Bool} : ∀ {cs : List V}, V.withinC D cs = true → ∀ (j : Nat) (u : V), cs[j]? = some u → u.isTree = true ∨ u.within D = true
  | [], _, j, u, h => by simp at h
  | c :: cs, hc, j, u, h => by
    simp only [V.withinC, Bool.and_eq_true, Bool.or_eq_true] at hc
    cases j with
    | zero => simp at h; subst h; exact hc.1
    | succ j => exact V.withinC_get hc.2 j u (by simpa using h)

theorem V.withinAll_get {D : Nat → Bool} : ∀ {cs : List V}, V.within.withinAll D cs = true → ∀ (j : Nat) (u : V), cs[j]? = some u → u.within D = true
  | [], _, j, u, h => by simp at h
  | c :: cs, hc, j, u, h => by
    simp only [V.within.withinAll, Bool.and_eq_true] at hc
    cases j with
    | zero => simp at h; subst h; exact hc.1
    | succ j => exact V.withinAll_get hc.2 j u (by simpa using h)

theorem Rd.unren {w : World} {I : Nat → Prop} {γ γ' : Nat → Option GI} {f : Nat → Nat} {D : Nat → Bool} {u : V} {x : Value} (h : Rd w I γ u x) : ∀ v : V, v.ren f = u → v.within D = true → (∀ n, D n = true → γ' n = γ (f n)) → Rd w I γ' v x := by
  induction h with
  | junk => intro v e _ _; cases v <;> simp [V.ren] at e; exact .junk _ _
  | int => intro v e _ _; cases v <;> simp [V.ren] at e; obtain ⟨rfl, rfl⟩ := e; exact .int _ _ _
  | bool => intro v e _ _; cases v <;> simp [V.ren] at e; subst e; exact .bool _ _
  | str => intro v e _ _; cases v <;> simp [V.ren] at e; subst e; exact .str _ _
  | nil _ t es h => intro v e _ _; cases v <;> simp [V.ren] at e; obtain ⟨rfl, rfl, rfl⟩ := e; exact .nil _ _ _ h
  | sl _ tag es elems a n c xs h0 h1 hlen hnc hcm hes hcel hc hr ih =>
    intro v e _ _; cases v <;> simp [V.ren] at e; obtain ⟨rfl, rfl, rfl⟩ := e; exact .sl _ _ _ _ a n c xs h0 h1 hlen hnc hcm hes hcel hc hr
  | own _ nm off n c o gi hγ hnn hcap hn hcm ho =>
    intro v e hd hg; cases v <;> simp [V.ren] at e
    obtain ⟨rfl, rfl, rfl⟩ := e
    exact .own _ _ _ _ _ _ gi ((hg _ hd).trans hγ) hnn hcap hn hcm ho
  | ownnil _ nm A gi hγ hnn =>
    intro v e hd hg; cases v <;> simp [V.ren] at e
    obtain ⟨rfl, rfl, rfl⟩ := e
    exact .ownnil _ _ A gi ((hg _ hd).trans hγ) hnn
  | ptr _ nm i j gi hγ hnn =>
    intro v e hd hg; cases v <;> simp [V.ren] at e
    obtain ⟨rfl, rfl, rfl⟩ := e
    exact .ptr _ _ _ _ gi ((hg _ hd).trans hγ) hnn
  | pp _ cells a xs hc hr ih => intro v e _ _; cases v <;> simp [V.ren] at e; subst e; exact .pp _ _ a xs hc hr
  | pnil => intro v e _ _; cases v <;> simp [V.ren] at e; exact .pnil _
  | agg _ cells xs hl hr ih =>
    intro v e hd hg
    cases v <;> simp [V.ren] at e
    rename_i cs
    subst e
    refine .agg _ _ _ ((renAll_len f cs).symm.trans hl) fun j u x hu hx => ?_
    exact ih j (u.ren f) x (by rw [renAll_get, hu]; rfl) hx u rfl (V.withinAll_get hd j u hu) hg
  | tup _ cells xs hl hr ih =>
    intro v e hd hg
    cases v <;> simp [V.ren] at e
    rename_i cs
    subst e
    refine .tup _ _ _ ((renAll_len f cs).symm.trans hl) fun j u x hu hx => ?_
    exact ih j (u.ren f) x (by rw [renAll_get, hu]; rfl) hx u rfl (V.withinAll_get hd j u hu) hg
  | fn => intro v e _ _; cases v <;> simp [V.ren] at e; subst e; exact .fn _ _
  | clo _ f' caps xs hl hr ih => intro v e _ _; cases v <;> simp [V.ren] at e; obtain ⟨rfl, rfl⟩ := e; exact .clo _ _ _ xs hl hr
  | anyB => intro v e _ _; cases v <;> simp [V.ren] at e; exact .anyB _ _
  | treep => intro v e hd _; cases v <;> simp [V.ren] at e; cases hd
  | trees => intro v e hd _; cases v <;> simp [V.ren] at e; cases hd

/-- Objects under fewer, other names. -/
theorem Inv.unren {w0 w : World} {ex I γ g} (h : Inv w0 ex I γ g w) {f : Nat → Nat} {g' : Nat → Option AObj} (hg : ∀ n o, g' n = some o → g (f n) = some (o.ren f)) (hinj : ∀ n m o o', g' n = some o → g' m = some o' → f n = f m → n = m)
    (hw : ∀ n o, g' n = some o → o.within (fun n => (g' n).isSome) = true) (hfix : ∀ n gi, ex.fix n = some gi → f n = n ∧ (g' n).isSome = true) :
    Inv w0 ex I (fun n => if (g' n).isSome = true then γ (f n) else none) g' w := by
  have hD : ∀ n, (fun n => (g' n).isSome) n = true → (fun n => if (g' n).isSome = true then γ (f n) else none) n = γ (f n) := by
    intro n hn; simp only at hn ⊢; rw [if_pos hn]
  have gat : ∀ n o, g' n = some o → (if (g' n).isSome = true then γ (f n) else none) = γ (f n) := by
    intro n o hn; rw [hn]; rfl
  refine ⟨fun n o hn hm => ?_, ?_, ?_, ?_, h.lt, h.keep, fun n gi hn => ?_, h.back, h.frame, h.os, h.tape, h.output, h.size, ?_⟩
  rotate_right
  · obtain ⟨F, hF⟩ := h.trees
    have tc : ∀ n i j u, TCell g' n i j u → TCell g (f n) i j u := by
      rintro n i j u ⟨o, h1, h2, h3, h4⟩
      refine ⟨o.ren f, hg n o h1, by rw [AObj.ren_md]; exact h2, ?_, h4⟩
      unfold AObj.ren
      split
      · obtain ⟨r, k1, k2⟩ := cellAt_some h3
        refine cellAt_mk (e := V.ren.renAll f r) (by rw [List.getElem?_map, k1]; rfl) ?_
        rw [renAll_get, k2]
        simp only [Option.map_some, V.ren_nl f (.inl h4)]
      · exact h3
    refine ⟨_, hF.still f (fun _ h => h) (fun n i j u hu => ⟨tc n i j u hu, fun gi h1 h2 => ?_⟩) (fun n m i j u i' j' u' hu hu' e => ?_) (fun _ _ _ _ _ _ _ h => h) fun m o gi h1 h2 h3 h4 => ?_⟩
    · obtain ⟨o, k1, _⟩ := hu
      rw [← gat n o k1]; exact h1
    · obtain ⟨o, k1, _⟩ := hu
      obtain ⟨o', k2, _⟩ := hu'
      exact hinj n m o o' k1 k2 e
    · exact ⟨f m, o.ren f, gi, hg m o h1, by rw [AObj.ren_md]; exact h2, by rw [← gat m o h1]; exact h3, h4, rfl⟩
  · have ho := h.obj (f n) (o.ren f) (hg n o hn) (by rw [AObj.ren_md]; exact hm)
    by_cases hfl : o.fl = 0
    · have hr : o.ren f = { o with elems := o.elems.map (V.ren.renAll f) } := by unfold AObj.ren; rw [if_pos hfl]
      rw [hr] at ho
      have hwn := hw n o hn
      simp only [AObj.within, hfl, ne_eq, not_true, decide_false, Bool.false_or] at hwn
      have wcell : ∀ i j u, cellAt o.elems i j = some u → u.isTree = true ∨ u.within (fun n => (g' n).isSome) = true := by
        intro i j u hu
        obtain ⟨r, h1, h2⟩ := cellAt_some hu
        exact V.withinC_get (List.all_eq_true.1 hwn r (List.mem_of_getElem? h1)) j u h2
      have rencell : ∀ i j u, cellAt o.elems i j = some u → cellAt (o.elems.map (V.ren.renAll f)) i j = some (u.ren f) := by
        intro i j u hu
        obtain ⟨r, h1, h2⟩ := cellAt_some hu
        exact cellAt_mk (e := V.ren.renAll f r) (by rw [List.getElem?_map, h1]; rfl) (by rw [renAll_get, h2]; rfl)
      refine ⟨fun r hr => ?_, fun i j u hu => ?_, fun hf => absurd hfl hf, fun hf => by omega, ?_⟩
      · rw [← renAll_len f r]; exact ho.rows _ (List.mem_map.2 ⟨r, hr, rfl⟩)
      · rw [← ren_cellular f u]; exact ho.cel i j _ (rencell i j u hu)
      · rcases ho.at_ with ⟨he, gi, h1, h2⟩ | ⟨gi, cur, fr, h1, ha⟩
        · exact .inl ⟨by simpa using he, gi, (gat n o hn).trans h1, h2⟩
        · refine .inr ⟨gi, cur, fr, (gat n o hn).trans h1, ⟨ha.nn, ha.es, ha.heap, ha.frz, ha.size, by simpa using ha.le, fun ht => by simpa using ha.tight ht, ha.max, fun i j u hu => ?_, ha.ro, ha.rw⟩⟩
          obtain ⟨y, y1, y2⟩ := ha.cells i j _ (rencell i j u hu)
          refine ⟨y, y1, ?_⟩
          rcases wcell i j u hu with h | h
          · rw [V.ren_nl f (.inl h)] at y2
            exact y2.nl (.inl h) ⟨n, gi, (gat n o hn).trans h1⟩
          · exact y2.unren u rfl h hD
    · rw [AObj.ren_eq hfl] at ho
      refine ⟨ho.rows, ho.cel, ho.closed, ho.scalar, ?_⟩
      rcases ho.at_ with ⟨he, gi, h1, h2⟩ | ⟨gi, cur, fr, h1, ha⟩
      · exact .inl ⟨he, gi, (gat n o hn).trans h1, h2⟩
      · refine .inr ⟨gi, cur, fr, (gat n o hn).trans h1, ⟨ha.nn, ha.es, ha.heap, ha.frz, ha.size, ha.le, ha.tight, ha.max, fun i j u hu => ?_, ha.ro, ha.rw⟩⟩
        obtain ⟨y, y1, y2⟩ := ha.cells i j u hu
        exact ⟨y, y1, y2.closed (ho.closed hfl i j u hu) _⟩
  · intro n m o o' gi gi' h1 h2 d1 d2 g1 g2 n1 n2 hb
    rw [gat n o h1] at g1; rw [gat m o' h2] at g2
    exact hinj n m o o' h1 h2 (h.inj (f n) (f m) _ _ gi gi' (hg n o h1) (hg m o' h2) (by rw [AObj.ren_md]; exact d1) (by rw [AObj.ren_md]; exact d2) g1 g2 n1 n2 hb)
  · intro n o gi h1 d1 g1 n1
    rw [gat n o h1] at g1
    exact h.own (f n) _ gi (hg n o h1) (by rw [AObj.ren_md]; exact d1) g1 n1
  · intro n gi h1 h2
    rw [h2] at h1
    cases h1
  · obtain ⟨e1, e2⟩ := hfix n gi hn
    rw [if_pos e2, e1]; exact h.fix n gi hn

theorem weak_ren {k : Nat} (f : Nat → Nat) {st st' : St} (hs : ∀ n, st'.s n = .junk ∨ (st.s n = (st'.s n).ren f ∧ (st'.s n).within (fun n => (st'.g n).isSome) = true)) (hg : ∀ n o, st'.g n = some o → st.g (f n) = some (o.ren f))
    (hinj : ∀ n m o o', st'.g n = some o → st'.g m = some o' → f n = f m → n = m) (hw : ∀ n o, st'.g n = some o → o.within (fun n => (st'.g n).isSome) = true) (hfix : ∀ n, n < k → f n = n ∧ (st'.g n).isSome = true) : Weak k st st' := by
  intro w0 ex N a w I γ hk h
  refine ⟨I, _, h.size, fun n => ?_, h.inv.unren hg hinj hw (fun n gi hn => hfix n (Nat.lt_of_not_le fun hle => by rw [hk n hle] at hn; cases hn)), h.defers, h.glob⟩
  rcases hs n with e | ⟨e, e2⟩
  · rw [e]; exact .junk _ _
  · have := h.slots n
    rw [e] at this
    exact this.unren _ rfl e2 (fun m hm => by rw [if_pos hm])

/-- The nil slice as a slice of an object of the frame. -/
theorem weak_nil {k : Nat} {st : St} (i n : Nat) {sz : Nat} (o : AObj) (hi : st.s i = .sl 0 sz []) (hn : st.g n = none) (he : o.elems = []) : Weak k st { st with s := upd st.s i (.own n 0 0), g := upd st.g n (some o) } := by
  intro w0 ex N a w I γ _ h
  obtain ⟨h1, h2⟩ := h.inv.phantom hn he
  refine ⟨I, _, h.size, fun m => ?_, h1, h.defers, h.glob⟩
  by_cases e : m = i
  · subst e
    simp only [upd_same]
    have := h.slots m
    rw [hi] at this
    generalize a.tmps.getD m undef = x at this
    cases this with
    | nil => exact .ownnil _ _ _ ⟨0, 0, 0, true⟩ (by simp [gUp]) rfl
    | sl _ _ _ _ a n c xs h0 => exact absurd rfl h0
  · simp only [upd_ne _ _ e]
    exact h2.rd (h.slots m)

def oneRes (T : TypeId → Option TI) (st : St) : ResultVar → Option V
  | .tmp t => some (st.s t)
  | .cell a t => match aLoad T st.g t (st.s a) with | some e => some e.v | none => none
def allRes (T : TypeId → Option TI) (st : St) : List ResultVar → Option (List V)
  | [] => some []
  | r :: rs => match oneRes T st r, allRes T st rs with
    | some v, some vs => some (v :: vs)
    | _, _ => none
def retV (T : TypeId → Option TI) (st : St) (l : List ResultVar) : Option V :=
  match allRes T st l with
  | some [v] => some v
  | some vs => some (.tup vs)
  | none => none

/-- What a function's end must say. -/
def Ret0 (T : TypeId → Option TI) (res : List ResultVar) (r : CRes) (k : Nat) (e : Exit) (st : St) : Prop :=
  (match e with | .normal | .ret => True | _ => False) ∧ k ≤ r.objs.length ∧ ∃ ns : Nat → Nat, (∀ j, j < k → ns j = j) ∧ (∀ i j, i < r.objs.length → j < r.objs.length → ns i = ns j → i = j) ∧ retV T st res = some (r.v.ren ns) ∧
    (∀ (j : Nat) (o : AObj), r.objs[j]? = some o → st.g (ns j) = some (o.ren ns)) ∧ r.v.within (fun j => decide (j < r.objs.length)) = true ∧ (∀ o ∈ r.objs, o.within (fun j => decide (j < r.objs.length)) = true)

/-- What a function's end must say, perhaps less of the state being known. -/
def Ret (T : TypeId → Option TI) (res : List ResultVar) (r : CRes) (k : Nat) (e : Exit) (st : St) : Prop := ∃ st', Weak k st st' ∧ Ret0 T res r k e st'
theorem Ret0.ret {T : TypeId → Option TI} {res : List ResultVar} {r : CRes} {k : Nat} {e : Exit} {st : St} (h : Ret0 T res r k e st) : Ret T res r k e st := ⟨st, Weak.refl _ _, h⟩
theorem Ret.weak {T : TypeId → Option TI} {res : List ResultVar} {r : CRes} {k : Nat} {e : Exit} {st st' : St} (h : Ret T res r k e st') (hw : Weak k st st') : Ret T res r k e st := by
  obtain ⟨s, h1, h2⟩ := h
  exact ⟨s, hw.trans h1, h2⟩

def initSt (args : List V) (objs : List AObj) : St := { s := fun n => args.getD n .junk, g := fun n => objs[n]?, c := objs.length }

def resSem (tmps : Array Value) : ResultVar → Sem Value
  | .tmp t => pure (tmps.getD t undef)
  | .cell a t => do loadVar t (← asAddr (tmps.getD a undef))

theorem oneRes_sound (hT : TypesOk P T) {w0 ex N st a w I γ} (h : Sim w0 ex N st a w I γ) {r : ResultVar} {v : V} (hv : oneRes T st r = some v) :
    ∃ x, (resSem a.tmps r).run P w = .ok x w ∧ Rd w I γ v x := by
  cases r with
  | tmp t => cases hv; exact ⟨_, rfl, h.slots t⟩
  | cell c t =>
    simp only [oneRes] at hv
    split at hv
    · rename_i e he
      cases hv
      obtain ⟨_, x, h1, h2⟩ := aLoad_sound (P := P) hT h.inv (h.slots c) he
      refine ⟨x, ?_, h2⟩
      rw [← h1]
      have hs := h.slots c
      have : ∃ ad, a.tmps.getD c undef = .pointer (some ad) := by
        generalize a.tmps.getD c undef = y at hs
        unfold aLoad at he
        split at he
        · cases he
        · split at he
          · rename_i hx; rw [hx] at hs; cases hs; exact ⟨_, rfl⟩
          · rename_i hx; rw [hx] at hs; cases hs; exact ⟨_, rfl⟩
          · cases he
      obtain ⟨ad, had⟩ := this
      simp only [resSem, had]; rfl
    · cases hv

theorem allRes_sound (hT : TypesOk P T) {w0 ex N st a w I γ} (h : Sim w0 ex N st a w I γ) : ∀ {l : List ResultVar} {vs : List V}, allRes T st l = some vs →
    ∃ xs : List Value, (l.mapM (resSem a.tmps)).run P w = .ok xs w ∧ xs.length = vs.length ∧ ∀ (j : Nat) (u : V) (x : Value), vs[j]? = some u → xs[j]? = some x → Rd w I γ u x
  | [], vs, hv => by cases hv; exact ⟨[], rfl, rfl, fun j u x h => by simp at h⟩
  | r :: l, vs, hv => by
    simp only [allRes] at hv
    split at hv
    · rename_i v vs' h1 h2
      cases hv
      obtain ⟨x, x1, x2⟩ := oneRes_sound (P := P) hT h h1
      obtain ⟨xs, y1, y2, y3⟩ := allRes_sound hT h h2
      refine ⟨x :: xs, ?_, by simp [y2], fun j u y hu hy => ?_⟩
      · rw [List.mapM_cons, Sem.run_bind, x1, Result.andThen_ok, Sem.run_bind, y1]; rfl
      · cases j with
        | zero => simp at hu hy; subst hu; subst hy; exact x2
        | succ j => exact y3 j u y (by simpa using hu) (by simpa using hy)
    · cases hv

theorem results_eq (fn : Func) (tmps : Array Value) : results fn tmps = (fn.results.mapM (resSem tmps) >>= fun vs => pure (if h : vs.size = 1 then vs[0] else .tuple vs)) := by
  unfold results
  congr 1

theorem retV_sound (hT : TypesOk P T) {w0 ex N st a w I γ} (h : Sim w0 ex N st a w I γ) {fn : Func} {v : V} (hv : retV T st fn.results.toList = some v) :
    ∃ x, (results fn a.tmps).run P w = .ok x w ∧ Rd w I γ v x := by
  unfold retV at hv
  have key : ∀ vs, allRes T st fn.results.toList = some vs → ∃ xs : Array Value, xs.size = vs.length ∧ (results fn a.tmps).run P w = .ok (if h : xs.size = 1 then xs[0] else .tuple xs) w ∧ ∀ (j : Nat) (u : V) (x : Value), vs[j]? = some u → xs[j]? = some x → Rd w I γ u x := by
    intro vs hvs
    obtain ⟨xs, x1, x2, x3⟩ := allRes_sound (P := P) hT h hvs
    refine ⟨xs.toArray, by simpa using x2, ?_, fun j u x hu hx => x3 j u x hu (by simpa using hx)⟩
    rw [results_eq, Sem.run_bind, Array.mapM_eq_mapM_toList, Sem.run_map, x1]
    rfl
  split at hv
  · rename_i v' hvs
    cases hv
    obtain ⟨xs, y1, y2, y3⟩ := key _ hvs
    have h1 : xs.size = 1 := y1
    rw [dif_pos h1] at y2
    exact ⟨_, y2, y3 0 v xs[0] rfl (by simp)⟩
  · rename_i vs hne hvs
    cases hv
    obtain ⟨xs, y1, y2, y3⟩ := key _ hvs
    have h1 : ¬ xs.size = 1 := by
      intro h1
      rw [y1] at h1
      obtain ⟨x, hx⟩ := List.length_eq_one_iff.1 h1
      exact hne x hx
    rw [dif_neg h1] at y2
    exact ⟨_, y2, .tup _ _ _ y1.symm y3⟩
  · cases hv

/-- A function's specification, from the run of its body over data. -/
theorem spec_of (hT : TypesOk P T) (hC : SpecsOk P C) (hm : P.follows .mixedOrders = true) {f : FuncId} {fn : Func} {c : Code} (hf : P.funcs[f]? = some fn) (hname : (fn.name == "runtime.NumGoroutine") = false) (hb : fn.body = some c) (hd : dstOk fn.ntmps c = true)
    {sp : List V → List AObj → Option CRes} (h : ∀ args objs r, sp args objs = some r → args.length ≤ fn.ntmps ∧ axwp T C objs.length c (Ret T fn.results.toList r objs.length) (initSt args objs)) : Spec P f sp := by
  refine ⟨⟨fn, hf, hname, by rw [hb]; rfl⟩, fun args objs r hr w I γ wr vs hE => ?_⟩
  obtain ⟨hlen, hax⟩ := h args objs r hr
  refine calls_of_wp hf hb ?_
  have hsim : Sim w ⟨wr, I, γ⟩ fn.ntmps (initSt args objs) { tmps := vs ++ Array.replicate (fn.ntmps - vs.size) undef, defers := [] } w I γ := by
    refine ⟨by have := hE.len; simp; omega, fun n => ?_, hE.inv, rfl, hE.glob⟩
    simp only [initSt]
    by_cases hn : n < args.length
    · have hn' : n < vs.size := by rw [← hE.len]; exact hn
      have e1 : args.getD n .junk = args[n] := by simp [hn]
      have e2 : (vs ++ Array.replicate (fn.ntmps - vs.size) undef).getD n undef = vs[n] := by
        rw [Array.getD_eq_getD_getElem?, Array.getElem?_append_left hn', Array.getElem?_eq_getElem hn']; rfl
      rw [e1, e2]
      exact hE.rd n _ _ (List.getElem?_eq_getElem hn) (Array.getElem?_eq_getElem hn')
    · have e1 : args.getD n .junk = .junk := by simp [hn]
      rw [e1]; exact .junk _ _
  have hdom : ∀ n, objs.length ≤ n → γ n = none := by
    intro n hn
    cases hg : γ n with
    | none => rfl
    | some gi => exact absurd (List.getElem?_eq_none hn) (hE.inv.dom n gi hg)
  refine axwp_sound hT hC hm hdom c hd hsim hax fun e st' a' w' I' γ' hq hs => ?_
  obtain ⟨st1, hw, he, hk, ns, n1, n2, n3, n4, n5, n6⟩ := hq
  obtain ⟨I1, γ1, hs⟩ := hw _ _ _ _ _ _ _ hdom hs
  obtain ⟨x, x1, x2⟩ := retV_sound (P := P) hT hs n3
  have hinv := hs.inv.unren (f := ns) (g' := fun n => r.objs[n]?) (fun n o hn => n4 n o hn) (fun n m o o' h1 h2 he => n2 n m (List.getElem?_eq_some_iff.1 h1).1 (List.getElem?_eq_some_iff.1 h2).1 he)
    (fun n o hn => by
      have := n6 o (List.mem_of_getElem? hn)
      have e : (fun n => (r.objs[n]?).isSome) = fun j => decide (j < r.objs.length) := by
        funext j
        by_cases hj : j < r.objs.length <;> simp [hj]
      rw [e]; exact this)
    (fun n gi hn => by
      have hlt : n < objs.length := Nat.lt_of_not_le fun hle => by
        replace hn : γ n = some gi := hn
        rw [hdom n hle] at hn; cases hn
      have : n < r.objs.length := Nat.lt_of_lt_of_le hlt hk
      exact ⟨n1 n hlt, by simp [this]⟩)
  have hfin : a'.defers = [] ∧ ∃ v, (results fn a'.tmps).run P w' = .ok v w' ∧ ∃ v' I'' γ'', Ending.returned v = .returned v' ∧ Leave w I γ wr r w' I'' γ'' v' := by
    refine ⟨hs.defers, x, x1, x, I1, _, rfl, hinv, ?_, ?_⟩
    · refine x2.unren (D := fun j => decide (j < r.objs.length)) _ rfl n5 fun n hn => ?_
      simp only [decide_eq_true_eq] at hn
      simp [hn]
    · exact ⟨fun b hb => ⟨hs.inv.keep b hb, hs.inv.frame b (hE.inv.lt b hb) fun h => hE.wrI b h hb⟩, hinv.fix⟩
  cases e with
  | normal => exact hfin
  | ret => exact hfin
  | _ => exact he.elim
end Go.Lift

/-
  The run over data, as rules for simp.
-/
namespace Go.Lift

variable {P : Program} {T : TypeId → Option TI} {C : FuncId → List V → List AObj → Option CRes} {k : Nat}

/-- A value whose type names what stands behind it: simp works on the value alone. -/
abbrev VOf (_A _B : Prop) := V
def condV (A B : Prop) (v : VOf A B) : Prop := match v with
  | .bool true => A
  | .bool false => B
  | .anyB => A ∧ B
  | _ => False
@[simp] theorem condV_any (A B : Prop) : condV A B .anyB = (A ∧ B) := rfl
@[simp] theorem condV_true (A B : Prop) : condV A B (.bool true) = A := rfl
@[simp] theorem condV_false (A B : Prop) : condV A B (.bool false) = B := rfl
theorem condV_bool (b : Bool) (A B : Prop) : condV A B (.bool b) ↔ ((b = true → A) ∧ (b = false → B)) := by cases b <;> simp [condV]
theorem condV_split {p : Prop} [Decidable p] {A B : Prop} (h1 : p → A) (h2 : ¬ p → B) : condV A B (.bool (decide p)) := by by_cases h : p <;> simp [condV, h, h1, h2]
theorem condV_splitb {b : Bool} {A B : Prop} (h1 : b = true → A) (h2 : b = false → B) : condV A B (.bool b) := by cases b <;> simp [condV, h1, h2]
theorem condV_splitn {b : Bool} {A B : Prop} (h1 : b = false → A) (h2 : b = true → B) : condV A B (.bool (!b)) := by cases b <;> simp [condV, h1, h2]

theorem axwp_skip {Q : Exit → St → Prop} {st : St} : axwp T C k .skip Q st = Q .normal st := rfl
theorem axwp_seq {a b : Code} {Q : Exit → St → Prop} {st : St} : axwp T C k (.seq a b) Q st = axwp T C k a (fun e st' => match e with | .normal => axwp T C k b Q st' | e => Q e st') st := rfl
theorem axwp_cond {c : Operand} {x y : Code} {Q : Exit → St → Prop} {st : St} : axwp T C k (.cond c x y) Q st = condV (axwp T C k x Q st) (axwp T C k y Q st) (st.ev c) := by
  simp only [axwp, condV]
  cases st.ev c <;> first | rfl | (rename_i b; cases b <;> rfl)
theorem axwp_block {id : Nat} {c : Code} {Q : Exit → St → Prop} {st : St} : axwp T C k (.block id c) Q st = axwp T C k c (fun e st' => match e with | .exit i => if i = id then Q .normal st' else Q (.exit i) st' | e => Q e st') st := rfl
theorem axwp_exit {id : Nat} {Q : Exit → St → Prop} {st : St} : axwp T C k (.exit id) Q st = Q (.exit id) st := rfl
theorem axwp_ret {Q : Exit → St → Prop} {st : St} : axwp T C k .ret Q st = Q .ret st := rfl
theorem axwp_label {l : Nat} {Q : Exit → St → Prop} {st : St} : axwp T C k (.label l) Q st = Q .normal st := rfl

/-- What stands behind a region. -/
def afterR (ops : Array Oper) (draw : Bool) (Q : Exit → St → Prop) : Option (St × List (Nat × List Nat × List Nat)) → Prop
  | none => False
  | some (st', fp) => (draw = true → drawOk ops (tabOf ops) = true ∧ fpOk (tabOf ops) fp = true) ∧ Q .normal { st' with c := st'.c + 8 * ops.size }
theorem axwp_region {id : Nat} {ops : Array Oper} {draw : Bool} {Q : Exit → St → Prop} {st : St} : axwp T C k (.region id ops draw) Q st ↔ afterR ops draw Q (runO T C ops ops.toList 0 st) := by
  simp only [axwp, afterR]
  constructor
  · rintro ⟨st', fp, h1, h2, h3⟩; rw [h1]; exact ⟨h2, h3⟩
  · intro h
    split at h
    · exact h.elim
    · rename_i st' fp h1; exact ⟨st', fp, h1, h.1, h.2⟩

/-- A region, its operations run one by one. -/
def goR (T : TypeId → Option TI) (C : FuncId → List V → List AObj → Option CRes) (ops : Array Oper) (draw : Bool) (Q : Exit → St → Prop) : List Oper → Nat → St → List (Nat × List Nat × List Nat) → Prop
  | [], _, st, fp => (draw = true → drawOk ops (tabOf ops) = true ∧ fpOk (tabOf ops) fp.reverse = true) ∧ Q .normal { st with c := st.c + 8 * ops.size }
  | o :: r, i, st, fp => match stepO T C ops o (st.c + 8 * i) st with
    | some (st', rd, wr) => goR T C ops draw Q r (i + 1) st' ((i, rd, wr) :: fp)
    | none => False

theorem goR_iff {ops : Array Oper} {draw : Bool} {Q : Exit → St → Prop} : ∀ (l : List Oper) (i : Nat) (st : St) (fp0 : List (Nat × List Nat × List Nat)),
    goR T C ops draw Q l i st fp0 ↔ (match runO T C ops l i st with | none => False | some (st', fp) => (draw = true → drawOk ops (tabOf ops) = true ∧ fpOk (tabOf ops) (fp0.reverse ++ fp) = true) ∧ Q .normal { st' with c := st'.c + 8 * ops.size })
  | [], i, st, fp0 => by simp [goR, runO]
  | o :: r, i, st, fp0 => by
    simp only [goR, runO]
    cases stepO T C ops o (st.c + 8 * i) st with
    | none => rfl
    | some p =>
      obtain ⟨st', rd, wr⟩ := p
      simp only
      rw [goR_iff r (i + 1) st']
      cases runO T C ops r (i + 1) st' with
      | none => rfl
      | some p => obtain ⟨a, b⟩ := p; simp
theorem axwp_go {id : Nat} {ops : Array Oper} {draw : Bool} {Q : Exit → St → Prop} {st : St} : axwp T C k (.region id ops draw) Q st ↔ goR T C ops draw Q ops.toList 0 st [] := by
  rw [axwp_region, goR_iff]
  simp only [afterR]
  cases runO T C ops ops.toList 0 st with
  | none => rfl
  | some p => obtain ⟨a, b⟩ := p; simp

theorem axwp_go' {id : Nat} {l : List Oper} {draw : Bool} {Q : Exit → St → Prop} {st : St} : axwp T C k (.region id (Array.mk l) draw) Q st ↔ goR T C (Array.mk l) draw Q l 0 st [] := axwp_go

/-- What stands behind an operation. -/
abbrev EffOf (_st : St) (_d : Option Tmp) (_K : St → List Nat → List Nat → Prop) := Option Eff
def thenE (st : St) (d : Option Tmp) (K : St → List Nat → List Nat → Prop) (o : EffOf st d K) : Prop := match o with
  | none => False
  | some e => K { st with s := putS st.s d e.v, g := setAll st.g e.wr } e.rd (e.wr.map (·.1))
abbrev GdOf (_A _B : Prop) := Option Bool
def thenG (A B : Prop) (o : GdOf A B) : Prop := match o with
  | none => False
  | some true => A
  | some false => B

@[simp] theorem thenE_some (st : St) (d : Option Tmp) (K : St → List Nat → List Nat → Prop) (e : Eff) : thenE st d K (some e) = K { st with s := putS st.s d e.v, g := setAll st.g e.wr } e.rd (e.wr.map (·.1)) := rfl
@[simp] theorem thenG_true (A B : Prop) : thenG A B (some true) = A := rfl
@[simp] theorem thenG_false (A B : Prop) : thenG A B (some false) = B := rfl
theorem thenG_some (A B : Prop) (b : Bool) : thenG A B (some b) ↔ ((b = true → A) ∧ (b = false → B)) := by cases b <;> simp [thenG]
theorem thenG_split {b : Bool} {A B : Prop} (h1 : b = true → A) (h2 : b = false → B) : thenG A B (some b) := (thenG_some A B b).2 ⟨h1, h2⟩
theorem thenE_of {st : St} {d : Option Tmp} {K : St → List Nat → List Nat → Prop} {o : Option Eff} (e : Eff) (h : o = some e) (hK : K { st with s := putS st.s d e.v, g := setAll st.g e.wr } e.rd (e.wr.map (·.1))) : thenE st d K o := by rw [h]; exact hK

/-- A loop, of which simp changes nothing. -/
abbrev UnitOf (_c : Code) (_Q : Exit → St → Prop) (_st : St) := Unit
def wpL (T : TypeId → Option TI) (C : FuncId → List V → List AObj → Option CRes) (k : Nat) (c : Code) (Q : Exit → St → Prop) (st : St) (_u : UnitOf c Q st) : Prop := axwp T C k (.loop c) Q st
theorem axwp_wpL {c : Code} {Q : Exit → St → Prop} {st : St} : axwp T C k (.loop c) Q st = wpL T C k c Q st () := rfl

theorem goR_nil {ops : Array Oper} {draw : Bool} {Q : Exit → St → Prop} {i : Nat} {st : St} {fp} : goR T C ops draw Q [] i st fp = ((draw = true → drawOk ops (tabOf ops) = true ∧ fpOk (tabOf ops) fp.reverse = true) ∧ Q .normal { st with c := st.c + 8 * ops.size }) := rfl
theorem goR_cons {ops : Array Oper} {draw : Bool} {Q : Exit → St → Prop} {o : Oper} {r : List Oper} {i : Nat} {st : St} {fp} :
    goR T C ops draw Q (o :: r) i st fp ↔ thenG (thenE st o.dst (fun st' rd wr => goR T C ops draw Q r (i + 1) st' ((i, rd, wr) :: fp)) (aop T C st.ev st.g (st.c + 8 * i) o.op)) (goR T C ops draw Q r (i + 1) { st with s := putS st.s o.dst (.tup []) } ((i, [], []) :: fp)) (guardOf ops o st.s) := by
  simp only [goR, stepO]
  cases guardOf ops o st.s with
  | none => rfl
  | some b =>
    cases b with
    | false => rfl
    | true =>
      simp only [thenG]
      cases aop T C st.ev st.g (st.c + 8 * i) o.op with
      | none => rfl
      | some e => rfl
theorem goR_free {ops : Array Oper} {draw : Bool} {Q : Exit → St → Prop} {d : Option Tmp} {op : Op} {t : TypeId} {p : String} {af : Array Edge} {r : List Oper} {i : Nat} {st : St} {fp} :
    goR T C ops draw Q (⟨d, op, t, p, af, none⟩ :: r) i st fp ↔ thenE st d (fun st' rd wr => goR T C ops draw Q r (i + 1) st' ((i, rd, wr) :: fp)) (aop T C st.ev st.g (st.c + 8 * i) op) := by
  rw [goR_cons]; rfl
theorem goR_guard {ops : Array Oper} {draw : Bool} {Q : Exit → St → Prop} {d : Option Tmp} {op : Op} {t : TypeId} {p : String} {af : Array Edge} {gd : Nat × Bool} {r : List Oper} {i : Nat} {st : St} {fp} :
    goR T C ops draw Q (⟨d, op, t, p, af, some gd⟩ :: r) i st fp ↔ thenG (thenE st d (fun st' rd wr => goR T C ops draw Q r (i + 1) st' ((i, rd, wr) :: fp)) (aop T C st.ev st.g (st.c + 8 * i) op)) (goR T C ops draw Q r (i + 1) { st with s := putS st.s d (.tup []) } ((i, [], []) :: fp)) (guardOf ops ⟨d, op, t, p, af, some gd⟩ st.s) := goR_cons

attribute [simp ↓] axwp_skip axwp_seq axwp_cond axwp_block axwp_exit axwp_ret axwp_label axwp_go' axwp_wpL goR_nil goR_free goR_guard

theorem withinC_names (D : Nat → Bool) (c : V) (cs : List V) : V.withinC D (c :: cs) = ((c.isTree || c.within D) && V.withinC D cs) := rfl
theorem within_closed (D : Nat → Bool) (v : V) (h : v.closed = true) : v.within D = true := by
  have key : ∀ (n : Nat) (v : V), SizeOf.sizeOf v ≤ n → v.closed = true → v.within D = true := by
    intro n
    induction n with
    | zero => intro v hs; cases v <;> simp at hs
    | succ n ih =>
      intro v hs hc
      have all : ∀ cs : List V, SizeOf.sizeOf cs ≤ n → V.closed.closedAll cs = true → V.within.withinAll D cs = true := by
        intro cs
        induction cs with
        | nil => intros; rfl
        | cons c cs ihc =>
          intro hs hc
          simp only [V.closed.closedAll, Bool.and_eq_true] at hc
          simp at hs
          simp only [V.within.withinAll, Bool.and_eq_true]
          exact ⟨ih c (by omega) hc.1, ihc (by omega) hc.2⟩
      cases v <;> simp [V.closed] at hc <;> try rfl
      · simp at hs; simp only [V.within]; exact all _ (by omega) hc
      · simp at hs; simp only [V.within]; exact all _ (by omega) hc
  exact key _ v (Nat.le_refl _) h

def isEnd : Exit → Bool
  | .normal | .ret => true
  | _ => false

/-- The end of a function whose result holds no memory of its own. -/
theorem ret_closed {res : List ResultVar} {e : Exit} {st : St} {v : V} (he : isEnd e = true) (h : retV T st res = some v) (hv : v.closed = true) : Ret T res ⟨v, []⟩ 0 e st := by
  refine Ret0.ret ⟨by cases e <;> simp [isEnd] at he <;> trivial, Nat.le_refl _, id, fun j h => absurd h (by omega), fun i j hi => by simp at hi, by rw [h, ren_closed _ _ hv], fun j o ho => by simp at ho, within_closed _ _ hv, fun o ho => by simp at ho⟩

/-- The end of a function whose result is a slice in new memory. -/
theorem ret_own {res : List ResultVar} {e : Exit} {st : St} {nm n : Nat} {o : AObj} (he : isEnd e = true) (h : retV T st res = some (.own nm 0 n)) (hg : st.g nm = some o) (hfl : o.fl ≠ 0) : Ret T res ⟨.own 0 0 n, [o]⟩ 0 e st := by
  refine Ret0.ret ⟨by cases e <;> simp [isEnd] at he <;> trivial, by simp, fun _ => nm, fun j h => absurd h (by omega), fun i j hi hj _ => by simp at hi hj; omega, by rw [h]; rfl, fun j o' ho => ?_, rfl, fun o' ho => ?_⟩
  · cases j with
    | zero => simp at ho; subst ho; rw [hg, AObj.ren_eq hfl]
    | succ j => simp at ho
  · simp at ho; subst ho; simp [AObj.within, hfl]

/-- The head of a loop is reached again, in a smaller state of the family. -/
def Again (k : Nat) {ι : Type} (S : ι → St) (ok : ι → Prop) (μ : ι → Nat) (i : ι) (st : St) : Prop := ∃ j, ok j ∧ μ j < μ i ∧ Weak k st (S j)
theorem Again.mk {k : Nat} {ι : Type} {S : ι → St} {ok : ι → Prop} {μ : ι → Nat} {i : ι} {st : St} (j : ι) (h1 : ok j) (h2 : μ j < μ i) (h3 : Weak k st (S j)) : Again k S ok μ i st := ⟨j, h1, h2, h3⟩

/-- A loop: its states as a family. -/
theorem axwp_loop {c : Code} {Q : Exit → St → Prop} {st : St} {ι : Type} (S : ι → St) (ok : ι → Prop) (μ : ι → Nat) (i0 : ι) (h0 : Weak k st (S i0)) (hok : ok i0)
    (round : ∀ i, ok i → axwp T C k c (fun e st' => match e with | .normal => Again k S ok μ i st' | e => Q e st') (S i)) : wpL T C k c Q st () := by
  show axwp T C k (.loop c) Q st
  refine ⟨fun n st => ∃ i, ok i ∧ μ i = n ∧ st = S i, ⟨μ i0, S i0, h0, i0, hok, rfl, rfl⟩, ?_⟩
  rintro n st1 ⟨i, hi, rfl, rfl⟩
  have mono : ∀ (c : Code) {Q Q' : Exit → St → Prop} {st : St}, (∀ e st, Q e st → Q' e st) → axwp T C k c Q st → axwp T C k c Q' st := by
    intro c
    induction c with
    | region id ops draw => rintro Q Q' st hq ⟨st', fp, h1, h2, h3⟩; exact ⟨st', fp, h1, h2, hq _ _ h3⟩
    | seq a b iha ihb => intro Q Q' st hq h; exact iha (fun e st' h' => by cases e <;> first | exact ihb hq h' | exact hq _ _ h') h
    | cond c a b iha ihb =>
      intro Q Q' st hq h
      simp only [axwp] at h ⊢
      split at h
      · exact iha hq h
      · exact ihb hq h
      · exact ⟨iha hq h.1, ihb hq h.2⟩
      · exact h.elim
    | block id c ih =>
      intro Q Q' st hq h
      refine ih (fun e st' h' => ?_) h
      cases e with
      | exit i =>
        simp only at h' ⊢
        split
        · rename_i e; rw [if_pos e] at h'; exact hq _ _ h'
        · rename_i e; rw [if_neg e] at h'; exact hq _ _ h'
      | _ => exact hq _ _ h'
    | loop c ih =>
      rintro Q Q' st hq ⟨J, h1, h2⟩
      exact ⟨J, h1, fun n st1 hj => ih (fun e st' h' => by cases e <;> first | exact h' | exact hq _ _ h') (h2 n st1 hj)⟩
    | skip => intro Q Q' st hq h; exact hq _ _ h
    | label => intro Q Q' st hq h; exact hq _ _ h
    | exit => intro Q Q' st hq h; exact hq _ _ h
    | ret => intro Q Q' st hq h; exact hq _ _ h
    | _ => intro Q Q' st _ h; exact h.elim
  refine mono c (fun e st' h' => ?_) (round i hi)
  cases e with
  | normal =>
    obtain ⟨j, j1, j2, j3⟩ := h'
    exact ⟨μ j, S j, j2, j3, j, j1, rfl, rfl⟩
  | _ => exact h'

section
variable (T : TypeId → Option TI) (C : FuncId → List V → List AObj → Option CRes) (ρ : Operand → V) (g : Nat → Option AObj) (nm : Nat)
theorem aop_move (x : Operand) : aop T C ρ g nm (.move x) = some ⟨ρ x, [], []⟩ := rfl
theorem aop_assign (x : Operand) : aop T C ρ g nm (.assign x) = some ⟨ρ x, [], []⟩ := rfl
def pickV (c a b : V) : Option Eff := match c with
  | .bool true => some ⟨a, [], []⟩
  | .bool false => some ⟨b, [], []⟩
  | _ => none
theorem aop_pick (c x y : Operand) : aop T C ρ g nm (.pick c x y) = pickV (ρ c) (ρ x) (ρ y) := by
  simp only [aop, pickV]; cases ρ c <;> first | rfl | (rename_i b; cases b <;> rfl)
theorem pickV_true (a b : V) : pickV (.bool true) a b = some ⟨a, [], []⟩ := rfl
theorem pickV_false (a b : V) : pickV (.bool false) a b = some ⟨b, [], []⟩ := rfl
theorem pickV_ite (c : Bool) (a b : V) : pickV (.bool c) a b = some ⟨if c = true then a else b, [], []⟩ := by cases c <;> rfl
theorem pickV_bool (c x y : Bool) : pickV (.bool c) (.bool x) (.bool y) = some ⟨.bool (if c = true then x else y), [], []⟩ := by cases c <;> rfl
theorem aop_box (e : TypeId) (x : Operand) : aop T C ρ g nm (.box e x) = if cellularAll (ρ x).cells then fresh nm ⟨e, (ρ x).cells.length, [(ρ x).cells], true, flOf (ρ x).cells, .rw⟩ (.ptr nm 0 0) [] g else none := rfl
theorem aop_build (t : TypeId) (ps : Array (Nat × Operand)) : aop T C ρ g nm (.build t ps) = pureEff (aBuild T t (ps.toList.map fun p => (p.1, ρ p.2))) := rfl
theorem aop_buildSlice (t : TypeId) (l : Nat) (ps : Array (Nat × Operand)) : aop T C ρ g nm (.buildSlice t l ps) = aBuildSlice T g nm t l (ps.toList.map fun p => (p.1, ρ p.2)) := rfl
theorem aop_load (t : TypeId) (x : Operand) : aop T C ρ g nm (.load t x) = aLoadT T g nm t (ρ x) := rfl
theorem aop_store (t : TypeId) (x y : Operand) : aop T C ρ g nm (.store t x y) = aStore T g t (ρ x) (ρ y) := rfl
theorem aop_binOp (op : BinOp) (t : TypeId) (x y : Operand) (u : TypeId) : aop T C ρ g nm (.binOp op t x y u) = pureEff (aBin T op t (ρ x) (ρ y)) := rfl
theorem aop_unOp (op : UnOp) (t : TypeId) (x : Operand) : aop T C ρ g nm (.unOp op t x) = pureEff (aUn op (ρ x)) := rfl
theorem aop_convert (s d : TypeId) (x : Operand) : aop T C ρ g nm (.convert s d x) = aConv T g nm s d (ρ x) := rfl
theorem aop_makeSlice (t : TypeId) (l c : Operand) : aop T C ρ g nm (.makeSlice t l c) = aMake T g nm t (ρ l) (ρ c) := rfl
theorem aop_slice (t : TypeId) (x : Operand) (lo hi mx : Option Operand) : aop T C ρ g nm (.slice t x lo hi mx) = (aSlice T g t (ρ x) (lo.map ρ) (hi.map ρ) (mx.map ρ)).map fun v => ⟨v, [], ownRd (ρ x)⟩ := rfl
theorem aop_fieldAddr (t : TypeId) (x : Operand) (f : Nat) : aop T C ρ g nm (.fieldAddr t x f) = pureEff (aFieldAddr T t (ρ x) f) := rfl
theorem aop_field (t : TypeId) (x : Operand) (f : Nat) : aop T C ρ g nm (.field t x f) = pureEff (aField T t (ρ x) f) := rfl
theorem aop_indexAddr (t : TypeId) (x i : Operand) : aop T C ρ g nm (.indexAddr t x i) = (aIndexAddr T g t (ρ x) (ρ i)).map fun v => ⟨v, [], ownRd (ρ x)⟩ := rfl
theorem aop_index (t : TypeId) (x i : Operand) : aop T C ρ g nm (.index t x i) = pureEff (aIndex T t (ρ x) (ρ i)) := rfl
def extractV (x : V) (i : Nat) : Option Eff := match x with
  | .tup vs => pureEff (vs[i]?)
  | _ => none
theorem aop_extract (x : Operand) (i : Nat) : aop T C ρ g nm (.extract x i) = extractV (ρ x) i := by
  simp only [aop, extractV]; cases ρ x <;> rfl
theorem extractV_tup (vs : List V) (i : Nat) : extractV (.tup vs) i = pureEff (vs[i]?) := rfl
theorem aop_builtin (b : Builtin) (xs : Array Operand) (ts : Array TypeId) : aop T C ρ g nm (.call ⟨.builtin b, xs, ts⟩) = aBuiltin T g nm b ts.toList (xs.toList.map ρ) := rfl
noncomputable def callV (f : V) (xs : List V) : Option Eff := match f with
  | .fn f => aCall C g nm f xs
  | .clo f caps => aCall C g nm f (xs ++ caps)
  | _ => none
theorem aop_call (f : Operand) (xs : Array Operand) (ts : Array TypeId) : aop T C ρ g nm (.call ⟨.value f, xs, ts⟩) = callV C g nm (ρ f) (xs.toList.map ρ) := by
  simp only [aop, callV]; cases ρ f <;> rfl
theorem callV_fn (f : FuncId) (xs : List V) : callV C g nm (.fn f) xs = aCall C g nm f xs := rfl
theorem callV_clo (f : FuncId) (caps xs : List V) : callV C g nm (.clo f caps) xs = aCall C g nm f (xs ++ caps) := rfl
theorem aop_makeFunc (f : FuncId) (first caps : Array Operand) : aop T C ρ g nm (.makeFunc (.func f) first caps) = if first.toList.isEmpty ∧ V.closed.closedAll (caps.toList.map ρ) = true then some ⟨.clo f (caps.toList.map ρ), [], []⟩ else none := rfl
def nilV (x : V) : Option Eff := match x with
  | .ptr n i j => some ⟨.ptr n i j, [], []⟩
  | .pp cs => some ⟨.pp cs, [], []⟩
  | _ => none
theorem aop_nilCheck (x : Operand) : aop T C ρ g nm (.nilCheck x) = nilV (ρ x) := by simp only [aop, nilV]; cases ρ x <;> rfl
theorem aop_alloc (e : TypeId) : aop T C ρ g nm (.alloc e) = (match T e with | some ei => if cellularAll ei.zero then fresh nm ⟨e, ei.size, [ei.zero], true, flOf ei.zero, .rw⟩ (.ptr nm 0 0) [] g else none | none => none) := rfl
end
/-! Bitwise operations, by name. -/
def iAnd (k : IntKind) (a b : Int) : Int := k.wrap (BitVec.ofInt k.bits a &&& BitVec.ofInt k.bits b).toNat
def iOr (k : IntKind) (a b : Int) : Int := k.wrap (BitVec.ofInt k.bits a ||| BitVec.ofInt k.bits b).toNat
def iXor (k : IntKind) (a b : Int) : Int := k.wrap (BitVec.ofInt k.bits a ^^^ BitVec.ofInt k.bits b).toNat
section
variable (T : TypeId → Option TI) (g : Nat → Option AObj) (nm : Nat) (t : TypeId) (k : IntKind) (a b : Int)
theorem aBin_add : aBin T .add t (.int k a) (.int k b) = some (.int k (k.wrap (a + b))) := by simp [aBin, isShift, aInt]
theorem aBin_sub : aBin T .sub t (.int k a) (.int k b) = some (.int k (k.wrap (a - b))) := by simp [aBin, isShift, aInt]
theorem aBin_mul : aBin T .mul t (.int k a) (.int k b) = some (.int k (k.wrap (a * b))) := by simp [aBin, isShift, aInt]
theorem aBin_quo : aBin T .quo t (.int k a) (.int k b) = if b = 0 then none else some (.int k (k.wrap (a.tdiv b))) := by simp [aBin, isShift, aInt]
theorem aBin_rem : aBin T .rem t (.int k a) (.int k b) = if b = 0 then none else some (.int k (a.tmod b)) := by simp [aBin, isShift, aInt]
theorem aBin_and : aBin T .and t (.int k a) (.int k b) = some (.int k (iAnd k a b)) := by simp only [aBin, isShift, aInt]; simp [iAnd]
theorem aBin_or : aBin T .or t (.int k a) (.int k b) = some (.int k (iOr k a b)) := by simp only [aBin, isShift, aInt]; simp [iOr]
theorem aBin_xor : aBin T .xor t (.int k a) (.int k b) = some (.int k (iXor k a b)) := by simp only [aBin, isShift, aInt]; simp [iXor]
theorem beq_int : (a == b) = decide (a = b) := by by_cases h : a = b <;> simp [h]
theorem aBin_eql : aBin T .eql t (.int k a) (.int k b) = some (.bool (decide (a = b))) := by simp [aBin, isShift, aInt, beq_int]
theorem aBin_neq : aBin T .neq t (.int k a) (.int k b) = some (.bool (decide (¬ a = b))) := by simp [aBin, isShift, aInt, bne, beq_int]
theorem aBin_lss : aBin T .lss t (.int k a) (.int k b) = some (.bool (decide (a < b))) := by simp [aBin, isShift, aInt]
theorem aBin_leq : aBin T .leq t (.int k a) (.int k b) = some (.bool (decide (a ≤ b))) := by simp [aBin, isShift, aInt]
theorem aBin_gtr : aBin T .gtr t (.int k a) (.int k b) = some (.bool (decide (a > b))) := by simp [aBin, isShift, aInt]
theorem aBin_geq : aBin T .geq t (.int k a) (.int k b) = some (.bool (decide (a ≥ b))) := by simp [aBin, isShift, aInt]
theorem aBin_shl (k' : IntKind) : aBin T .shl t (.int k a) (.int k' b) = if b < 0 then none else some (.int k (k.wrap (a * 2 ^ min b.toNat k.bits))) := by simp [aBin, isShift, aShift]
theorem aBin_shr (k' : IntKind) : aBin T .shr t (.int k a) (.int k' b) = if b < 0 then none else some (.int k (a.fdiv (2 ^ min b.toNat k.bits))) := by simp [aBin, isShift, aShift]
theorem aBin_str (op : BinOp) (x y : ByteArray) : aBin T op t (.str x) (.str y) = aStr op x y := rfl
def eqbV (d : Option TypeDesc) (op : BinOp) (a b : Bool) : Option V := match d, op with
  | some .bool, .eql => some (.bool (a == b))
  | some .bool, .neq => some (.bool (!(a == b)))
  | _, _ => none
theorem aBin_eqb {T : TypeId → Option TI} {t : TypeId} (op : BinOp) (a b : Bool) : aBin T op t (.bool a) (.bool b) = eqbV (descOf T t) op a b := by
  simp only [aBin, eqbV]
  generalize descOf T t = d
  cases d with
  | none => rfl
  | some d => cases d <;> cases op <;> rfl
theorem eqbV_eql (a b : Bool) : eqbV (some .bool) .eql a b = some (.bool (a == b)) := rfl
theorem eqbV_neq (a b : Bool) : eqbV (some .bool) .neq a b = some (.bool (!(a == b))) := rfl
theorem aUn_not (x : Bool) : aUn .not (.bool x) = some (.bool !x) := rfl
theorem aUn_neg : aUn .neg (.int k a) = some (.int k (k.wrap (0 - a))) := rfl
theorem aUn_xor : aUn .xor (.int k a) = some (.int k (k.wrap (-a - 1))) := rfl
theorem pureEff_ok (v : V) : pureEff (some v) = some ⟨v, [], []⟩ := rfl
theorem pureEff_none : pureEff none = none := rfl
end
theorem ev_tmp (s : Nat → V) (g : Nat → Option AObj) (c : Nat) (t : Tmp) : St.ev ⟨s, g, c⟩ (.tmp t) = s t := rfl
theorem ev_const (st : St) (v : Value) : st.ev (.const v) = ofConst v := rfl
theorem ev_func (st : St) (f : FuncId) : st.ev (.func f) = .fn f := rfl
theorem ofConst_int (k : IntKind) (n : Int) : ofConst (.int k n) = .int k n := rfl
theorem ofConst_bool (b : Bool) : ofConst (.bool b) = .bool b := rfl
theorem ofConst_string (b : ByteArray) : ofConst (.string b) = .str b := rfl
theorem ofConst_nil : ofConst (.slice none 0 0) = .sl 0 1 [] := rfl
theorem ofConst_agg (cs : Array Value) : ofConst (.agg cs) = .agg (cs.toList.map ofCell) := rfl
theorem guardOf_none (ops : Array Oper) (d : Option Tmp) (op : Op) (t : TypeId) (p : String) (af : Array Edge) (s : Nat → V) : guardOf ops ⟨d, op, t, p, af, none⟩ s = some true := rfl
def guardV (want : Bool) : V → Option Bool
  | .bool b => some (b == want)
  | .tup [] => some false
  | _ => none
theorem guardV_skip (w : Bool) : guardV w (.tup []) = some false := rfl
theorem guardV_bool (w b : Bool) : guardV w (.bool b) = some (b == w) := rfl
theorem guardOf_some (ops : Array Oper) (d : Option Tmp) (op : Op) (t : TypeId) (p : String) (af : Array Edge) (j : Nat) (w : Bool) (s : Nat → V) : guardOf ops ⟨d, op, t, p, af, some (j, w)⟩ s = (match (ops[j]?).bind (·.dst) with | some d => guardV w (s d) | none => none) := by
  simp only [guardOf, guardV]
  rfl
theorem putS_some (s : Nat → V) (d : Tmp) (v : V) : putS s (some d) v = upd s d v := rfl
theorem putS_none (s : Nat → V) (v : V) : putS s none v = s := rfl
theorem upd_at {α : Type} (f : Nat → α) (k n : Nat) (v : α) : upd f k v n = if n = k then v else f n := rfl
theorem descOf_of {T : TypeId → Option TI} {t : TypeId} {ti : TI} (h : T t = some ti) : descOf T t = some ti.desc := by simp [descOf, h]
theorem sizeT_of {T : TypeId → Option TI} {t : TypeId} {ti : TI} (h : T t = some ti) : sizeT T t = some ti.size := by simp [sizeT, h]

attribute [simp] aop_move aop_assign aop_pick pickV_true pickV_false pickV_bool aop_box aop_build aop_buildSlice aop_load aop_store aop_binOp aop_unOp aop_convert aop_makeSlice aop_slice aop_fieldAddr aop_field aop_indexAddr aop_index aop_extract extractV_tup aop_builtin aop_call callV_fn callV_clo aop_makeFunc aop_nilCheck nilV aop_alloc
  aBin_add aBin_sub aBin_mul aBin_quo aBin_rem aBin_and aBin_or aBin_xor aBin_eql aBin_neq aBin_lss aBin_leq aBin_gtr aBin_geq aBin_shl aBin_shr aBin_str aBin_eqb eqbV_eql eqbV_neq aUn_not aUn_neg aUn_xor pureEff_ok pureEff_none ev_tmp ev_const ev_func ofConst_int ofConst_bool ofConst_string ofConst_nil ofConst_agg
  guardOf_none guardOf_some guardV_bool guardV_skip putS_some putS_none upd_at aStr
theorem vcells_agg (cs : List V) : V.cells (.agg cs) = cs := rfl
theorem vcells_int (k : IntKind) (n : Int) : V.cells (.int k n) = [.int k n] := rfl
theorem vcells_bool (b : Bool) : V.cells (.bool b) = [.bool b] := rfl
theorem vcells_str (b : ByteArray) : V.cells (.str b) = [.str b] := rfl
theorem vcells_sl (a b : Nat) (r : List (List V)) : V.cells (.sl a b r) = [.sl a b r] := rfl
theorem vcells_own (a b c : Nat) : V.cells (.own a b c) = [.own a b c] := rfl
theorem vcells_ptr (a b c : Nat) : V.cells (.ptr a b c) = [.ptr a b c] := rfl
theorem vcells_pp (r : List V) : V.cells (.pp r) = [.pp r] := rfl
theorem vcells_pnil : V.cells .pnil = [.pnil] := rfl
theorem vcells_tup (r : List V) : V.cells (.tup r) = [.tup r] := rfl
theorem vcells_fn (f : FuncId) : V.cells (.fn f) = [.fn f] := rfl
theorem vcells_clo (f : FuncId) (r : List V) : V.cells (.clo f r) = [.clo f r] := rfl
theorem vcells_anyB : V.cells .anyB = [.anyB] := rfl
theorem varg_agg (g : Nat → Option AObj) (refs : List Nat) (cs : List V) : argV g refs (.agg cs) = (argCells g refs cs).map fun (vs, bs) => (V.agg vs, bs) := rfl
theorem varg_int (g : Nat → Option AObj) (refs : List Nat) (k : IntKind) (n : Int) : argV g refs (.int k n) = argOne g refs (.int k n) := rfl
theorem varg_bool (g : Nat → Option AObj) (refs : List Nat) (b : Bool) : argV g refs (.bool b) = argOne g refs (.bool b) := rfl
theorem varg_str (g : Nat → Option AObj) (refs : List Nat) (b : ByteArray) : argV g refs (.str b) = argOne g refs (.str b) := rfl
theorem varg_sl (g : Nat → Option AObj) (refs : List Nat) (a b : Nat) (r : List (List V)) : argV g refs (.sl a b r) = argOne g refs (.sl a b r) := rfl
theorem varg_own (g : Nat → Option AObj) (refs : List Nat) (a b c : Nat) : argV g refs (.own a b c) = argOne g refs (.own a b c) := rfl
theorem varg_ptr (g : Nat → Option AObj) (refs : List Nat) (a b c : Nat) : argV g refs (.ptr a b c) = argOne g refs (.ptr a b c) := rfl
theorem varg_pp (g : Nat → Option AObj) (refs : List Nat) (r : List V) : argV g refs (.pp r) = argOne g refs (.pp r) := rfl
theorem varg_pnil (g : Nat → Option AObj) (refs : List Nat)  : argV g refs (.pnil) = argOne g refs (.pnil) := rfl
theorem varg_fn (g : Nat → Option AObj) (refs : List Nat) (f : FuncId) : argV g refs (.fn f) = argOne g refs (.fn f) := rfl
theorem varg_clo (g : Nat → Option AObj) (refs : List Nat) (f : FuncId) (r : List V) : argV g refs (.clo f r) = argOne g refs (.clo f r) := rfl
theorem varg_anyB (g : Nat → Option AObj) (refs : List Nat)  : argV g refs (.anyB) = argOne g refs (.anyB) := rfl
theorem vnames_agg (cs : List V) : namesOf (.agg cs) = cs.flatMap nameOf := rfl
theorem vnames_int (k : IntKind) (n : Int) : namesOf (.int k n) = nameOf (.int k n) := rfl
theorem vnames_bool (b : Bool) : namesOf (.bool b) = nameOf (.bool b) := rfl
theorem vnames_str (b : ByteArray) : namesOf (.str b) = nameOf (.str b) := rfl
theorem vnames_sl (a b : Nat) (r : List (List V)) : namesOf (.sl a b r) = nameOf (.sl a b r) := rfl
theorem vnames_own (a b c : Nat) : namesOf (.own a b c) = nameOf (.own a b c) := rfl
theorem vnames_ptr (a b c : Nat) : namesOf (.ptr a b c) = nameOf (.ptr a b c) := rfl
theorem vnames_pp (r : List V) : namesOf (.pp r) = nameOf (.pp r) := rfl
theorem vnames_pnil  : namesOf (.pnil) = nameOf (.pnil) := rfl
theorem vnames_fn (f : FuncId) : namesOf (.fn f) = nameOf (.fn f) := rfl
theorem vnames_clo (f : FuncId) (r : List V) : namesOf (.clo f r) = nameOf (.clo f r) := rfl
theorem vnames_anyB  : namesOf (.anyB) = nameOf (.anyB) := rfl
theorem vargNm_agg (g : Nat → Option AObj) (cs : List V) : argNm g (.agg cs) = cs.flatMap (deepNm g 3) := rfl
theorem vargNm_int (g : Nat → Option AObj) (k : IntKind) (n : Int) : argNm g (.int k n) = deepNm g 3 (.int k n) := rfl
theorem vargNm_bool (g : Nat → Option AObj) (b : Bool) : argNm g (.bool b) = deepNm g 3 (.bool b) := rfl
theorem vargNm_str (g : Nat → Option AObj) (b : ByteArray) : argNm g (.str b) = deepNm g 3 (.str b) := rfl
theorem vargNm_sl (g : Nat → Option AObj) (a b : Nat) (r : List (List V)) : argNm g (.sl a b r) = deepNm g 3 (.sl a b r) := rfl
theorem vargNm_own (g : Nat → Option AObj) (a b c : Nat) : argNm g (.own a b c) = deepNm g 3 (.own a b c) := rfl
theorem vargNm_ptr (g : Nat → Option AObj) (a b c : Nat) : argNm g (.ptr a b c) = deepNm g 3 (.ptr a b c) := rfl
theorem vargNm_pp (g : Nat → Option AObj) (r : List V) : argNm g (.pp r) = deepNm g 3 (.pp r) := rfl
theorem vargNm_pnil (g : Nat → Option AObj)  : argNm g (.pnil) = deepNm g 3 (.pnil) := rfl
theorem vargNm_fn (g : Nat → Option AObj) (f : FuncId) : argNm g (.fn f) = deepNm g 3 (.fn f) := rfl
theorem vargNm_clo (g : Nat → Option AObj) (f : FuncId) (r : List V) : argNm g (.clo f r) = deepNm g 3 (.clo f r) := rfl
theorem vargNm_anyB (g : Nat → Option AObj)  : argNm g (.anyB) = deepNm g 3 (.anyB) := rfl
theorem vjunk_agg (cs : List V) : V.isJunk (.agg cs) = false := rfl
theorem vjunk_int (k : IntKind) (n : Int) : V.isJunk (.int k n) = false := rfl
theorem vjunk_bool (b : Bool) : V.isJunk (.bool b) = false := rfl
theorem vjunk_str (b : ByteArray) : V.isJunk (.str b) = false := rfl
theorem vjunk_sl (a b : Nat) (r : List (List V)) : V.isJunk (.sl a b r) = false := rfl
theorem vjunk_own (a b c : Nat) : V.isJunk (.own a b c) = false := rfl
theorem vjunk_ptr (a b c : Nat) : V.isJunk (.ptr a b c) = false := rfl
theorem vjunk_pp (r : List V) : V.isJunk (.pp r) = false := rfl
theorem vjunk_pnil  : V.isJunk (.pnil) = false := rfl
theorem vjunk_fn (f : FuncId) : V.isJunk (.fn f) = false := rfl
theorem vjunk_clo (f : FuncId) (r : List V) : V.isJunk (.clo f r) = false := rfl
theorem vjunk_anyB  : V.isJunk (.anyB) = false := rfl
theorem vjunk_nil : V.isJunk (.tup []) = true := rfl
theorem vjunk_junk : V.isJunk .junk = true := rfl
theorem vjunk_cons (c : V) (cs : List V) : V.isJunk (.tup (c :: cs)) = false := rfl
attribute [simp] varg_agg varg_int varg_bool varg_str varg_sl varg_own varg_ptr varg_pp varg_pnil varg_fn varg_clo varg_anyB vnames_agg vnames_int vnames_bool vnames_str vnames_sl vnames_own vnames_ptr vnames_pp vnames_pnil vnames_fn vnames_clo vnames_anyB vargNm_agg vargNm_int vargNm_bool vargNm_str vargNm_sl vargNm_own vargNm_ptr vargNm_pp vargNm_pnil vargNm_fn vargNm_clo vargNm_anyB vjunk_agg vjunk_int vjunk_bool vjunk_str vjunk_sl vjunk_own vjunk_ptr vjunk_pp vjunk_pnil vjunk_fn vjunk_clo vjunk_anyB vjunk_nil vjunk_junk vjunk_cons
attribute [simp] vcells_agg vcells_int vcells_bool vcells_str vcells_sl vcells_own vcells_ptr vcells_pp vcells_pnil vcells_tup vcells_fn vcells_clo vcells_anyB
theorem linkedO_def (refs : List Nat) (et es : Nat) (rows : List (List V)) (t : Bool) (fl : Nat) (md : Md) : linkedO refs ⟨et, es, rows, t, fl, md⟩ = if fl ≠ 0 then true else rows.all fun r => r.all (linkedV refs) := rfl
def cellNamesO : Option AObj → List Nat
  | some o => if o.fl ≠ 0 then [] else o.elems.flatMap fun r => r.flatMap nameOf
  | none => []
theorem cellNames_def (g : Nat → Option AObj) (n : Nat) : cellNames g n = cellNamesO (g n) := by unfold cellNames cellNamesO; cases g n <;> rfl
attribute [simp] setAll ofCell aConv aSlice lowOf highOf aIndexAddr aIndex aFieldAddr aField fieldOf fromCells aLoad aLoadT aLoadO isOne handle AObj.toTree aStore aBuild placeOf fillV splice
  aBuildSlice rowsOf aMake fresh cellularAll V.plainC flOf V.closed V.closed.closedAll V.scalar.scalarAll aBuiltin aCopy aAppend aZeros elemsOf szOf flOfSrc kill aMin isByte aCall aCallR wrap1 aCallK refObjsK linkedV linkedO_def posRen cellNames_def cellNamesO linkNames renObjs nameOf addNew allNames ptrNames argVs argOne argCells refObjs freshAll noneOpen allScalar numbered freeze disjoint callNames posOf
  V.ren V.ren.renAll AObj.ren ownRd retV allRes oneRes isEnd

/-! Comparing with nil, deep reading. -/
def nilEq (d : Option TypeDesc) (op : BinOp) (t : Nat) (e : Bool) : Option V := match d, op with
  | some (.slice _), .eql => if t = 0 then some (.bool true) else if t = 1 ∨ t = 4 ∨ e = false then some (.bool false) else some .anyB
  | some (.slice _), .neq => if t = 0 then some (.bool false) else if t = 1 ∨ t = 4 ∨ e = false then some (.bool true) else some .anyB
  | _, _ => none
theorem aBin_nil {T : TypeId → Option TI} {xt : TypeId} (op : BinOp) (t a b : Nat) (rows : List (List V)) : aBin T op xt (.sl t a rows) (.sl 0 b []) = nilEq (descOf T xt) op t rows.isEmpty := by
  simp only [aBin, nilEq]
  generalize descOf T xt = d
  cases d with
  | none => rfl
  | some d => cases d <;> cases op <;> rfl
/-- Not nil, as far as a tag and the elements tell. -/
def nnB (t : Nat) (b : Bool) : Bool := decide (t = 1 ∨ t = 4 ∨ b = false)
theorem nilEq_eql (e : TypeId) (t : Nat) (b : Bool) : nilEq (some (.slice e)) .eql t b = if t = 0 then some (.bool true) else if nnB t b = true then some (.bool false) else some .anyB := by simp only [nilEq, nnB, decide_eq_true_eq]
theorem nilEq_neq (e : TypeId) (t : Nat) (b : Bool) : nilEq (some (.slice e)) .neq t b = if t = 0 then some (.bool false) else if nnB t b = true then some (.bool true) else some .anyB := by simp only [nilEq, nnB, decide_eq_true_eq]
theorem nnB_false (t : Nat) : nnB t false = true := by simp [nnB]
def nilEqO (d : Option TypeDesc) (op : BinOp) (n : Nat) : Option V := match d, op with
  | some (.slice _), .eql => if n ≠ 0 then some (.bool false) else some .anyB
  | some (.slice _), .neq => if n ≠ 0 then some (.bool true) else some .anyB
  | _, _ => none
theorem aBin_nilO {T : TypeId → Option TI} {xt : TypeId} (op : BinOp) (nm off n b : Nat) : aBin T op xt (.own nm off n) (.sl 0 b []) = nilEqO (descOf T xt) op n := by
  simp only [aBin, nilEqO]
  generalize descOf T xt = d
  cases d with
  | none => rfl
  | some d => cases d <;> cases op <;> rfl
theorem nilEqO_eql (e : TypeId) (n : Nat) : nilEqO (some (.slice e)) .eql n = if n ≠ 0 then some (.bool false) else some .anyB := rfl
theorem nilEqO_neq (e : TypeId) (n : Nat) : nilEqO (some (.slice e)) .neq n = if n ≠ 0 then some (.bool true) else some .anyB := rfl
theorem aUn_anyB : aUn .not .anyB = some .anyB := rfl
section
variable (g : Nat → Option AObj) (refs : List Nat)
def deepO (k : Nat) (nm off n : Nat) : Option AObj → Option (V × List Nat)
  | some o => if o.md ≠ .dead ∧ off + n ≤ o.elems.length then match (if o.fl ≠ 0 then some ((o.elems.drop off).take n, []) else deepRows (deepV g refs k) ((o.elems.drop off).take n)) with
      | some (rows, bs) => some (.sl 2 o.es rows, nm :: bs)
      | none => none
      else none
  | none => none
theorem deepV_own3 (nm off n : Nat) : deepV g refs 3 (.own nm off n) = if refs.contains nm then none else deepO g refs 2 nm off n (g nm) := by
  simp only [deepV, deepO]
  split
  · rfl
  · cases g nm <;> rfl
theorem deepV_own2 (nm off n : Nat) : deepV g refs 2 (.own nm off n) = if refs.contains nm then none else deepO g refs 1 nm off n (g nm) := by
  simp only [deepV, deepO]
  split
  · rfl
  · cases g nm <;> rfl
theorem deepV_own1 (nm off n : Nat) : deepV g refs 1 (.own nm off n) = if refs.contains nm then none else deepO g refs 0 nm off n (g nm) := by
  simp only [deepV, deepO]
  split
  · rfl
  · cases g nm <;> rfl
theorem deepO_some (k nm off n : Nat) (o : AObj) : deepO g refs k nm off n (some o) = if o.md ≠ .dead ∧ off + n ≤ o.elems.length then match (if o.fl ≠ 0 then some ((o.elems.drop off).take n, []) else deepRows (deepV g refs k) ((o.elems.drop off).take n)) with
      | some (rows, bs) => some (.sl 2 o.es rows, nm :: bs)
      | none => none
      else none := rfl
theorem deepV_sl (k a b : Nat) (r : List (List V)) : deepV g refs k (.sl a b r) = some (.sl a b r, []) := by cases k <;> rfl
theorem deepV_int (k : Nat) (a : IntKind) (b : Int) : deepV g refs k (.int a b) = some (.int a b, []) := by cases k <;> rfl
theorem deepV_bool (k : Nat) (b : Bool) : deepV g refs k (.bool b) = some (.bool b, []) := by cases k <;> rfl
theorem deepV_str (k : Nat) (b : ByteArray) : deepV g refs k (.str b) = some (.str b, []) := by cases k <;> rfl
theorem deepV_pnil (k : Nat) : deepV g refs k .pnil = some (.pnil, []) := by cases k <;> rfl
theorem deepV_pp (k : Nat) (r : List V) : deepV g refs k (.pp r) = some (.pp r, []) := by cases k <;> rfl
def deepNmO (k : Nat) : Option AObj → List Nat
  | some o => if o.fl ≠ 0 then [] else o.elems.flatMap fun r => r.flatMap (deepNm g k)
  | none => []
theorem deepNm_own3 (nm off n : Nat) : deepNm g 3 (.own nm off n) = nm :: deepNmO g 2 (g nm) := by simp only [deepNm, deepNmO]; cases g nm <;> rfl
theorem deepNm_own2 (nm off n : Nat) : deepNm g 2 (.own nm off n) = nm :: deepNmO g 1 (g nm) := by simp only [deepNm, deepNmO]; cases g nm <;> rfl
theorem deepNm_own1 (nm off n : Nat) : deepNm g 1 (.own nm off n) = nm :: deepNmO g 0 (g nm) := by simp only [deepNm, deepNmO]; cases g nm <;> rfl
theorem deepNmO_some (k : Nat) (o : AObj) : deepNmO g k (some o) = if o.fl ≠ 0 then [] else o.elems.flatMap fun r => r.flatMap (deepNm g k) := rfl
theorem deepNm_sl (k a b : Nat) (r : List (List V)) : deepNm g k (.sl a b r) = [] := by cases k <;> rfl
theorem deepNm_int (k : Nat) (a : IntKind) (b : Int) : deepNm g k (.int a b) = [] := by cases k <;> rfl
theorem deepNm_bool (k : Nat) (b : Bool) : deepNm g k (.bool b) = [] := by cases k <;> rfl
theorem deepNm_str (k : Nat) (b : ByteArray) : deepNm g k (.str b) = [] := by cases k <;> rfl
theorem deepNm_pnil (k : Nat) : deepNm g k .pnil = [] := by cases k <;> rfl
theorem deepNm_pp (k : Nat) (r : List V) : deepNm g k (.pp r) = [] := by cases k <;> rfl
theorem deepNm_ptr (k a b c : Nat) : deepNm g k (.ptr a b c) = [] := by cases k <;> rfl
theorem deepNm_anyB (k : Nat) : deepNm g k .anyB = [] := by cases k <;> rfl
end
theorem cutTag_0 (b : Bool) : cutTag 0 b = 0 := rfl
theorem cutTag_2 (b : Bool) : cutTag 2 b = 2 := by simp [cutTag]
theorem cutTag_ne {t : Nat} {b : Bool} : cutTag t b = 0 ↔ t = 0 := by unfold cutTag; split <;> simp_all; split <;> simp_all
attribute [simp] cutTag_0 cutTag_2 cutTag_ne nnB_false aBin_nil nilEq_eql nilEq_neq aBin_nilO nilEqO_eql nilEqO_neq aUn_anyB deepV_own3 deepV_own2 deepV_own1 deepO_some deepV_sl deepV_int deepV_bool deepV_str deepV_pnil deepV_pp
  deepNm_own3 deepNm_own2 deepNm_own1 deepNmO_some deepNm_sl deepNm_int deepNm_bool deepNm_str deepNm_pnil deepNm_pp deepNm_ptr deepNm_anyB cutO deepRows deepCells argNms

theorem scalar_sl (a b : Nat) (r : List (List V)) : V.scalar (.sl a b r) = r.isEmpty := by cases r <;> rfl
theorem scalar_junk : V.scalar .junk = true := rfl
theorem scalar_int (k : IntKind) (n : Int) : V.scalar (.int k n) = true := rfl
theorem scalar_bool (b : Bool) : V.scalar (.bool b) = true := rfl
theorem scalar_str (b : ByteArray) : V.scalar (.str b) = true := rfl
theorem scalar_own (a b c : Nat) : V.scalar (.own a b c) = true := rfl
theorem scalar_ptr (a b c : Nat) : V.scalar (.ptr a b c) = true := rfl
theorem scalar_pnil : V.scalar .pnil = true := rfl
theorem scalar_fn (f : FuncId) : V.scalar (.fn f) = true := rfl
theorem scalar_clo (f : FuncId) (r : List V) : V.scalar (.clo f r) = false := rfl
theorem scalar_anyB : V.scalar .anyB = true := rfl
theorem scalar_pp (r : List V) : V.scalar (.pp r) = false := rfl
theorem scalar_agg (r : List V) : V.scalar (.agg r) = V.scalar.scalarAll r := rfl
theorem scalar_tup (r : List V) : V.scalar (.tup r) = V.scalar.scalarAll r := rfl
attribute [simp] scalar_sl scalar_junk scalar_int scalar_bool scalar_str scalar_own scalar_ptr scalar_pnil scalar_fn scalar_clo scalar_anyB scalar_pp scalar_agg scalar_tup

theorem vcells_tree (sl : Bool) (et es : Nat) (r : List (List V)) (t : Bool) (fl : Nat) : V.cells (.tree sl et es r t fl) = [.tree sl et es r t fl] := rfl
theorem scalar_tree (sl : Bool) (et es : Nat) (r : List (List V)) (t : Bool) (fl : Nat) : V.scalar (.tree sl et es r t fl) = true := rfl
theorem ntOk_0 (rows : List (List V)) : ntOk 0 rows = treelessRows rows := rfl
theorem ntOk_1 (rows : List (List V)) : ntOk 1 rows = true := rfl
theorem ntOk_2 (rows : List (List V)) : ntOk 2 rows = true := rfl
theorem ntOk_ite (b : Bool) (rows : List (List V)) : ntOk (if b = true then 2 else 1) rows = true := by cases b <;> rfl
theorem nameless_def (et es : Nat) (rows : List (List V)) (t : Bool) (fl : Nat) (md : Md) : nameless ⟨et, es, rows, t, fl, md⟩ = if fl ≠ 0 then true else rows.all fun r => r.all fun c => c.isTree || c.closed := rfl
theorem scalarO_def (et es : Nat) (rows : List (List V)) (t : Bool) (fl : Nat) (md : Md) : scalarO ⟨et, es, rows, t, fl, md⟩ = if fl = 2 then true else if fl = 0 then rows.all (fun r => r.all (scalarT 3)) else false := rfl
theorem scalarT_tree (k : Nat) (sl : Bool) (et es : Nat) (r : List (List V)) (t : Bool) (fl : Nat) : scalarT (k + 1) (.tree sl et es r t fl) = (decide (fl = 2) || r.all fun r => r.all (scalarT k)) := rfl
theorem scalarT_3 (sl : Bool) (et es : Nat) (r : List (List V)) (t : Bool) (fl : Nat) : scalarT 3 (.tree sl et es r t fl) = (decide (fl = 2) || r.all fun r => r.all (scalarT 2)) := rfl
theorem scalarT_2 (sl : Bool) (et es : Nat) (r : List (List V)) (t : Bool) (fl : Nat) : scalarT 2 (.tree sl et es r t fl) = (decide (fl = 2) || r.all fun r => r.all (scalarT 1)) := rfl
theorem scalarT_1 (sl : Bool) (et es : Nat) (r : List (List V)) (t : Bool) (fl : Nat) : scalarT 1 (.tree sl et es r t fl) = (decide (fl = 2) || r.all fun r => r.all (scalarT 0)) := rfl
theorem scalarT_int (k : Nat) (a : IntKind) (n : Int) : scalarT k (.int a n) = true := by cases k <;> rfl
theorem scalarT_bool (k : Nat) (b : Bool) : scalarT k (.bool b) = true := by cases k <;> rfl
theorem scalarT_str (k : Nat) (b : ByteArray) : scalarT k (.str b) = true := by cases k <;> rfl
theorem scalarT_sl (k a b : Nat) (r : List (List V)) : scalarT k (.sl a b r) = false := by cases k <;> rfl
theorem scalarT_pnil (k : Nat) : scalarT k .pnil = true := by cases k <;> rfl
theorem scalarT_pp (k : Nat) (r : List V) : scalarT k (.pp r) = false := by cases k <;> rfl
theorem scalarT_own (k a b c : Nat) : scalarT k (.own a b c) = true := by cases k <;> rfl
theorem scalarT_ptr (k a b c : Nat) : scalarT k (.ptr a b c) = true := by cases k <;> rfl
theorem closeCells_nil (K : Nat → Clo → Clo) (n j : Nat) (p : Clo) : closeCells K n [] j p = p := rfl
theorem closeCells_cons (K : Nat → Clo → Clo) (n : Nat) (c : V) (cs : List V) (j : Nat) (p : Clo) : closeCells K n (c :: cs) j p = closeCells K n cs (j + 1) (match c with | .ptr m _ _ | .own m _ _ => (K m p).step n j | _ => p) := rfl
theorem clo_step (n j : Nat) (g : Nat → Option AObj) (l : List (Nat × AObj)) : Clo.step n j ⟨g, l⟩ = ⟨setAll g (fold1 g n j), l ++ fold1 g n j⟩ := rfl
def closeN (k n : Nat) (p : Clo) : Option AObj → Clo
  | some o => if nameless o = true then p else match o.elems with
      | [row] => closeCells (closeO k) n row 0 p
      | _ => p
  | none => p
theorem closeO_eq (k n : Nat) (p : Clo) : closeO (k + 1) n p = closeN k n p (p.g n) := by
  conv => lhs; unfold closeO
  cases p.g n <;> rfl
theorem closeO_4 (n : Nat) (p : Clo) : closeO 4 n p = closeN 3 n p (p.g n) := closeO_eq 3 n p
theorem closeO_3 (n : Nat) (p : Clo) : closeO 3 n p = closeN 2 n p (p.g n) := closeO_eq 2 n p
theorem closeO_2 (n : Nat) (p : Clo) : closeO 2 n p = closeN 1 n p (p.g n) := closeO_eq 1 n p
theorem closeO_1 (n : Nat) (p : Clo) : closeO 1 n p = closeN 0 n p (p.g n) := closeO_eq 0 n p
theorem closeO_0 (n : Nat) (p : Clo) : closeO 0 n p = p := rfl
theorem closeN_some (k n : Nat) (p : Clo) (o : AObj) : closeN k n p (some o) = if nameless o = true then p else match o.elems with
      | [row] => closeCells (closeO k) n row 0 p
      | _ => p := rfl
def visitN (g : Nat → Option AObj) (k n : Nat) : Option AObj → List Nat
  | some o => if nameless o = true then [n] else match o.elems with
      | [row] => n :: (row.flatMap nameOf).flatMap (visit g k)
      | _ => [n]
  | none => [n]
theorem visit_eq (g : Nat → Option AObj) (k n : Nat) : visit g (k + 1) n = visitN g k n (g n) := by
  conv => lhs; unfold visit
  cases hg : g n with
  | none => rfl
  | some o =>
    simp only [visitN]
    obtain ⟨et, es, rows, t, fl, md⟩ := o
    simp only
    split
    · rfl
    · cases rows with
      | nil => rfl
      | cons r rs => cases rs <;> rfl
theorem visit_4 (g : Nat → Option AObj) (n : Nat) : visit g 4 n = visitN g 3 n (g n) := visit_eq g 3 n
theorem visit_3 (g : Nat → Option AObj) (n : Nat) : visit g 3 n = visitN g 2 n (g n) := visit_eq g 2 n
theorem visit_2 (g : Nat → Option AObj) (n : Nat) : visit g 2 n = visitN g 1 n (g n) := visit_eq g 1 n
theorem visit_1 (g : Nat → Option AObj) (n : Nat) : visit g 1 n = visitN g 0 n (g n) := visit_eq g 0 n
theorem visit_0 (g : Nat → Option AObj) (n : Nat) : visit g 0 n = [n] := rfl
theorem visitN_some (g : Nat → Option AObj) (k n : Nat) (o : AObj) : visitN g k n (some o) = if nameless o = true then [n] else match o.elems with
      | [row] => n :: (row.flatMap nameOf).flatMap (visit g k)
      | _ => [n] := rfl
def shutO : Option AObj → Bool
  | some o => nameless o
  | none => true
theorem allShut_cons (g : Nat → Option AObj) (n : Nat) (ns : List Nat) : allShut g (n :: ns) = (shutO (g n) && allShut g ns) := by simp only [allShut, shutO]; split <;> simp_all
theorem allShut_nil (g : Nat → Option AObj) : allShut g [] = true := rfl
theorem shutO_some (o : AObj) : shutO (some o) = nameless o := rfl
theorem take_sum {α : Type} (a b : List α) : (a ++ b).take (a.length + b.length) = a ++ b := by rw [← List.length_append, List.take_length]
theorem take_same {α : Type} (n : Nat) (a : List α) : (a.take n).take n = a.take n := by rw [List.take_take, Nat.min_self]
theorem take_minlen {α : Type} (n : Nat) (a : List α) : (a.take n).take (min n a.length) = a.take n := by rw [← List.length_take, List.take_length]
attribute [simp] kept RO LK cutF vcells_tree scalar_tree ntOk_0 ntOk_1 ntOk_2 ntOk_ite treelessRows V.isTree nameless_def scalarO_def scalarT_3 scalarT_2 scalarT_1 scalarT_int scalarT_bool scalarT_str scalarT_sl scalarT_pnil scalarT_pp scalarT_own scalarT_ptr
  closeCells_nil closeCells_cons clo_step closeO_4 closeO_3 closeO_2 closeO_1 closeO_0 closeN_some visit_4 visit_3 visit_2 visit_1 visit_0 visitN_some allShut_cons allShut_nil shutO_some closeAll closeL closeRd closeNm restrictG fold1 Eff.behind

theorem aBin_ptr {T : TypeId → Option TI} {xt : TypeId} (op : BinOp) (a b c : Nat) : aBin T op xt (.ptr a b c) .pnil = ptrEq (descOf T xt) op false := rfl
theorem aBin_pp {T : TypeId → Option TI} {xt : TypeId} (op : BinOp) (r : List V) : aBin T op xt (.pp r) .pnil = ptrEq (descOf T xt) op false := rfl
theorem aBin_pnil {T : TypeId → Option TI} {xt : TypeId} (op : BinOp) : aBin T op xt .pnil .pnil = ptrEq (descOf T xt) op true := rfl
theorem ptrEq_eql (e : TypeId) (b : Bool) : ptrEq (some (.pointer e)) .eql b = some (.bool b) := rfl
theorem ptrEq_neq (e : TypeId) (b : Bool) : ptrEq (some (.pointer e)) .neq b = some (.bool !b) := rfl
theorem ofConst_pnil : ofConst (.pointer none) = .pnil := rfl
attribute [simp] ofConst_pnil aBin_ptr aBin_pp aBin_pnil ptrEq_eql ptrEq_neq

theorem initSt_eq (args : List V) (objs : List AObj) : initSt args objs = { s := fun n => args.getD n .junk, g := fun n => objs[n]?, c := objs.length } := rfl
attribute [simp] initSt_eq
end Go.Lift

/-
  From a law's run over data to a call; what comes in; rows of bytes and of integers.
-/
namespace Go.Lift

variable {P : Program} {T : TypeId → Option TI} {C : FuncId → List V → List AObj → Option CRes}

theorem entry_plain (W : World) (args : List V) (vs : Array Value) (hlen : args.length = vs.size) (hrd : ∀ (j : Nat) (u : V) (x : Value), args[j]? = some u → vs[j]? = some x → Rd W (fun b => b < W.heap.size) noG u x) (hgl : GlobAt W (fun b => b < W.heap.size)) :
    Entry W (fun b => b < W.heap.size) noG (fun _ => False) args [] vs := by
  refine ⟨hlen, hrd, ⟨(fun n o h => by simp at h), (fun n m o o' gi gi' h => by simp at h), (fun n o gi h => by simp at h), (fun n gi h => by cases h), fun b h => h, fun b h => h, fun n gi h => h, fun b h => .inl h, fun b _ _ => rfl, rfl, rfl, rfl, Nat.le_refl _, ⟨fun _ _ _ _ => False, ⟨fun n i j u h => by obtain ⟨o, h, _⟩ := h; simp at h, fun n i j u b _ h => h.elim, fun n i j u b _ h => h.elim, fun n i j u n' i' j' u' b _ _ h => h.elim⟩⟩⟩, fun o h => by simp at h, fun b h => h.elim, hgl⟩

def intRow (l : List Int) : List (List V) := l.map fun n => [.int .i64 n]

theorem rd_row {k : IntKind} {w : World} {a : Option Addr} {len cap : Nat} {zs : List Int}
    (h : (a = none ∧ len = 0 ∧ cap = 0 ∧ zs = []) ∨ ∃ x, a = some x ∧ len ≤ cap ∧ cap ≤ maxLen ∧ zs.length = cap ∧ (∀ i, i < zs.length → w.cell? (x.add i) = some (.int k (zs.getD i 0))) ∧ ∀ n ∈ zs, (Lit.int k n).wf = true) :
    (zs.take len).length = len ∧ Rd w (fun b => b < w.heap.size) noG (.sl 2 1 ((zs.take len).map fun n => [.int k n])) (.slice a len cap) := by
  rcases h with ⟨rfl, rfl, rfl, rfl⟩ | ⟨x, rfl, h1, h2, h3, h4, _⟩
  · exact ⟨rfl, .nil _ 2 1 (by decide)⟩
  · have hl : (zs.take len).length = len := by rw [List.length_take]; omega
    refine ⟨hl, ?_⟩
    have hc : ∀ i j u, cellAt ((zs.take len).map fun n => [V.int k n]) i j = some u → i < len ∧ j = 0 ∧ u = .int k (zs.getD i 0) := by
      intro i j u hu
      obtain ⟨r, r1, r2⟩ := cellAt_some hu
      rw [List.getElem?_map] at r1
      cases hz : (zs.take len)[i]? with
      | none => rw [hz] at r1; cases r1
      | some z =>
        rw [hz] at r1; cases r1
        have hi := (List.getElem?_eq_some_iff.1 hz).1
        rw [hl] at hi
        rw [List.getElem?_take, if_pos hi] at hz
        cases j with
        | zero => simp at r2; refine ⟨hi, rfl, ?_⟩; rw [← r2]; simp [hz]
        | succ j => simp at r2
    refine .sl _ 2 1 _ x len cap (fun i _ => .int k (zs.getD i 0)) (by decide) (fun h => by rcases h with h | h <;> cases h) (by simpa using hl) h1 h2 (fun r hr => ?_) (fun i j u hu => ?_) (fun i j u hu => ?_) (fun i j u hu => ?_)
    · obtain ⟨n, _, rfl⟩ := List.mem_map.1 hr; rfl
    · obtain ⟨_, _, rfl⟩ := hc i j u hu; rfl
    · obtain ⟨q1, rfl, rfl⟩ := hc i j u hu
      have hcell := h4 i (by omega)
      rw [Nat.mul_one, Nat.add_zero]
      refine ⟨?_, hcell⟩
      have := World.block_lt_of_cell? w _ hcell
      rw [add_block] at this; exact this
    · obtain ⟨_, _, rfl⟩ := hc i j u hu; exact .int _ _ _

theorem u8_nat (m : Nat) : (UInt8.ofNat m).toNat = m % 256 := by simp
/-- The bytes that numbers are. -/
def bytesIn (zs : List Int) : List UInt8 := zs.map fun n => UInt8.ofNat n.toNat
theorem rd_bytes {w : World} {a : Option Addr} {len cap : Nat} {zs : List Int}
    (h : (a = none ∧ len = 0 ∧ cap = 0 ∧ zs = []) ∨ ∃ x, a = some x ∧ len ≤ cap ∧ cap ≤ maxLen ∧ zs.length = cap ∧ (∀ i, i < zs.length → w.cell? (x.add i) = some (.int .u8 (zs.getD i 0))) ∧ ∀ n ∈ zs, (Lit.int .u8 n).wf = true) :
    (bytesIn (zs.take len)).length = len ∧ Rd w (fun b => b < w.heap.size) noG (.sl 2 1 (byteRow (bytesIn (zs.take len)))) (.slice a len cap) := by
  obtain ⟨h1, h2⟩ := rd_row h
  refine ⟨by simpa [bytesIn] using h1, ?_⟩
  have hwf : ∀ n ∈ zs, 0 ≤ n ∧ n < 256 := by
    rcases h with ⟨_, _, _, rfl⟩ | ⟨x, _, _, _, _, _, hw⟩
    · intro n hn; cases hn
    · intro n hn
      have := hw n hn
      simp [Lit.wf, IntKind.min, IntKind.max, IntKind.bits, IntKind.signed] at this
      omega
  have : byteRow (bytesIn (zs.take len)) = (zs.take len).map fun n => [V.int .u8 n] := by
    unfold byteRow bytesIn
    rw [List.map_map]
    refine List.map_congr_left fun n hn => ?_
    obtain ⟨q1, q2⟩ := hwf n (List.mem_of_mem_take hn)
    have : ((UInt8.ofNat n.toNat).toNat : Int) = n := by rw [u8_nat]; omega
    simp only [Function.comp, this]
  rw [this]; exact h2

theorem wf_i64 {n : Int} (h : (Lit.int .i64 n).wf = true) : -9223372036854775808 ≤ n ∧ n ≤ 9223372036854775807 := by
  simp [Lit.wf, IntKind.min, IntKind.max, IntKind.bits, IntKind.signed] at h
  omega
theorem wf_u64 {n : Int} (h : (Lit.int .u64 n).wf = true) : 0 ≤ n ∧ n ≤ 18446744073709551615 := by
  simp [Lit.wf, IntKind.min, IntKind.max, IntKind.bits, IntKind.signed] at h
  omega

theorem specsOk_of (C : FuncId → List V → List AObj → Option CRes) (h : ∀ f, (∃ args objs r, C f args objs = some r) → Spec P f (C f)) : SpecsOk P C := h

/-! ### Rows of bytes -/
def asBytes : List (List V) → Option (List UInt8)
  | [] => some []
  | e :: r => match e, asBytes r with
    | [.int .u8 n], some l => if ((UInt8.ofNat n.toNat).toNat : Int) = n then some (UInt8.ofNat n.toNat :: l) else none
    | _, _ => none
theorem asBytes_eq : ∀ {r : List (List V)} {l : List UInt8}, asBytes r = some l → r = byteRow l
  | [], l, h => by cases h; rfl
  | e :: r, l, h => by
    simp only [asBytes] at h
    split at h
    · rename_i n l' hl
      split at h
      · rename_i hn
        cases h
        rw [asBytes_eq hl]
        simp only [byteRow, List.map_cons, hn]
      · cases h
    · cases h
@[simp] theorem asBytes_byteRow : ∀ l : List UInt8, asBytes (byteRow l) = some l
  | [] => rfl
  | b :: l => by
    have := asBytes_byteRow l
    simp only [byteRow, List.map_cons] at this ⊢
    simp [asBytes, this]
def asInts : List (List V) → Option (List Int)
  | [] => some []
  | e :: r => match e, asInts r with
    | [.int .i64 n], some l => some (n :: l)
    | _, _ => none
theorem asInts_eq : ∀ {r : List (List V)} {l : List Int}, asInts r = some l → r = intRow l
  | [], l, h => by cases h; rfl
  | e :: r, l, h => by
    simp only [asInts] at h
    split at h
    · rename_i n l' hl
      cases h
      rw [asInts_eq hl]; rfl
    · cases h
@[simp] theorem asInts_intRow : ∀ l : List Int, asInts (intRow l) = some l
  | [] => rfl
  | b :: l => by
    have := asInts_intRow l
    simp only [intRow, List.map_cons] at this ⊢
    simp [asInts, this]
@[simp] theorem bytesOf_byteRow : ∀ l : List UInt8, bytesOf (byteRow l) = some l
  | [] => rfl
  | b :: l => by
    have := bytesOf_byteRow l
    simp only [byteRow, List.map_cons] at this ⊢
    simp [bytesOf, this]
@[simp] theorem byteRow_length (l : List UInt8) : (byteRow l).length = l.length := by simp [byteRow]
@[simp] theorem intRow_length (l : List Int) : (intRow l).length = l.length := by simp [intRow]
theorem byteRow_append (a b : List UInt8) : byteRow (a ++ b) = byteRow a ++ byteRow b := by simp [byteRow]
theorem intRow_append (a b : List Int) : intRow (a ++ b) = intRow a ++ intRow b := by simp [intRow]
@[simp] theorem byteRow_append' (a b : List UInt8) : byteRow a ++ byteRow b = byteRow (a ++ b) := (byteRow_append a b).symm
@[simp] theorem intRow_append' (a b : List Int) : intRow a ++ intRow b = intRow (a ++ b) := (intRow_append a b).symm
@[simp] theorem byteRow_take (l : List UInt8) (n : Nat) : (byteRow l).take n = byteRow (l.take n) := by simp [byteRow, List.map_take]
@[simp] theorem byteRow_drop (l : List UInt8) (n : Nat) : (byteRow l).drop n = byteRow (l.drop n) := by simp [byteRow, List.map_drop]
@[simp] theorem intRow_take (l : List Int) (n : Nat) : (intRow l).take n = intRow (l.take n) := by simp [intRow, List.map_take]
@[simp] theorem intRow_drop (l : List Int) (n : Nat) : (intRow l).drop n = intRow (l.drop n) := by simp [intRow, List.map_drop]
@[simp] theorem byteRow_get' (l : List UInt8) (n : Nat) : (byteRow l)[n]? = (l[n]?).map fun b => [V.int .u8 b.toNat] := by simp [byteRow]
@[simp] theorem intRow_get (l : List Int) (n : Nat) : (intRow l)[n]? = (l[n]?).map fun b => [V.int .i64 b] := by simp [intRow]
@[simp] theorem byteRow_getElem (l : List UInt8) (n : Nat) (h : n < (byteRow l).length) : (byteRow l)[n] = [V.int .u8 (l[n]'(by simpa using h)).toNat] := by simp [byteRow]
@[simp] theorem intRow_getElem (l : List Int) (n : Nat) (h : n < (intRow l).length) : (intRow l)[n] = [V.int .i64 (l[n]'(by simpa using h))] := by simp [intRow]
@[simp] theorem byteRow_isEmpty (l : List UInt8) : (byteRow l).isEmpty = l.isEmpty := by cases l <;> rfl
@[simp] theorem intRow_isEmpty (l : List Int) : (intRow l).isEmpty = l.isEmpty := by cases l <;> rfl
@[simp] theorem scalarRows_byteRow : ∀ l : List UInt8, scalarRows (byteRow l) = true
  | [] => rfl
  | b :: l => by
    have := scalarRows_byteRow l
    simp only [byteRow, List.map_cons] at this ⊢
    simp [scalarRows, this]
@[simp] theorem scalarRows_intRow : ∀ l : List Int, scalarRows (intRow l) = true
  | [] => rfl
  | b :: l => by
    have := scalarRows_intRow l
    simp only [intRow, List.map_cons] at this ⊢
    simp [scalarRows, this]
theorem byteRow_one (b : UInt8) : [[V.int .u8 b.toNat]] = byteRow [b] := rfl
theorem byteRow_int (n : Int) (h0 : 0 ≤ n) (h1 : n < 256) : [[V.int .u8 n]] = byteRow [UInt8.ofNat n.toNat] := by
  have : ((UInt8.ofNat n.toNat).toNat : Int) = n := by rw [u8_nat]; omega
  simp only [byteRow, List.map_cons, List.map_nil, this]

/-! ### Wraps -/
theorem wrap_u64 (x : Int) : IntKind.u64.wrap x = x % 18446744073709551616 := by simp [IntKind.wrap, IntKind.bits, IntKind.signed]
theorem wrap_u64_in {x : Int} (h0 : 0 ≤ x) (h1 : x ≤ 18446744073709551615) : IntKind.u64.wrap x = x := by rw [wrap_u64]; omega
theorem wrap_u8 (x : Int) : IntKind.u8.wrap x = x % 256 := by simp [IntKind.wrap, IntKind.bits, IntKind.signed]
theorem wrap_u8_in {x : Int} (h0 : 0 ≤ x) (h1 : x ≤ 255) : IntKind.u8.wrap x = x := by rw [wrap_u8]; omega
theorem wrap_i64_in {x : Int} (h0 : -9223372036854775808 ≤ x) (h1 : x ≤ 9223372036854775807) : IntKind.i64.wrap x = x := by
  simp [IntKind.wrap, IntKind.bits, IntKind.signed]; omega
theorem wrap_i64 (x : Int) : IntKind.i64.wrap x = if x % 18446744073709551616 ≥ 9223372036854775808 then x % 18446744073709551616 - 18446744073709551616 else x % 18446744073709551616 := by
  simp [IntKind.wrap, IntKind.bits, IntKind.signed]
@[simp] theorem bits_u64 : IntKind.u64.bits = 64 := rfl
@[simp] theorem bits_i64 : IntKind.i64.bits = 64 := rfl
@[simp] theorem bits_u8 : IntKind.u8.bits = 8 := rfl
@[simp] theorem signed_u64 : IntKind.u64.signed = false := rfl
@[simp] theorem signed_i64 : IntKind.i64.signed = true := rfl
@[simp] theorem signed_u8 : IntKind.u8.signed = false := rfl
end Go.Lift

/-
  States at the head of a loop, written out.
-/
namespace Go.Lift

def getS : List (Nat × V) → Nat → V
  | [], _ => .junk
  | (m, v) :: r, n => if n = m then v else getS r n
def getG : List (Nat × AObj) → Nat → Option AObj
  | [], _ => none
  | (m, o) :: r, n => if n = m then some o else getG r n
def mkSt (sl : List (Nat × V)) (ob : List (Nat × AObj)) (c : Nat) : St := { s := getS sl, g := getG ob, c := c }

theorem getS_mem : ∀ {sl : List (Nat × V)} {n : Nat}, getS sl n = .junk ∨ (n, getS sl n) ∈ sl
  | [], n => .inl rfl
  | (m, v) :: r, n => by
    simp only [getS]
    split
    · rename_i e; subst e; exact .inr (List.mem_cons_self ..)
    · exact getS_mem.imp id (List.mem_cons_of_mem _)
theorem getG_mem : ∀ {ob : List (Nat × AObj)} {n : Nat} {o : AObj}, getG ob n = some o → (n, o) ∈ ob
  | [], n, o, h => by cases h
  | (m, v) :: r, n, o, h => by
    simp only [getG] at h
    split at h
    · rename_i e; subst e; cases h; exact List.mem_cons_self ..
    · exact List.mem_cons_of_mem _ (getG_mem h)

theorem weak_mk {k : Nat} {st : St} {sl : List (Nat × V)} {ob : List (Nat × AObj)} {c : Nat} (f : Nat → Nat) (hs : ∀ p ∈ sl, st.s p.1 = p.2.ren f ∧ p.2.within (fun n => (getG ob n).isSome) = true)
    (hg : ∀ p ∈ ob, st.g (f p.1) = some (p.2.ren f) ∧ p.2.within (fun n => (getG ob n).isSome) = true) (hinj : ∀ p ∈ ob, ∀ q ∈ ob, f p.1 = f q.1 → p.1 = q.1) (hfix : ∀ n, n < k → f n = n ∧ (getG ob n).isSome = true) : Weak k st (mkSt sl ob c) := by
  refine weak_ren f (fun n => ?_) (fun n o h => (hg _ (getG_mem h)).1) (fun n m o o' h1 h2 he => hinj _ (getG_mem h1) _ (getG_mem h2) he) (fun n o h => (hg _ (getG_mem h)).2) hfix
  rcases getS_mem (sl := sl) (n := n) with h | h
  · exact .inl h
  · exact .inr (hs _ h)

attribute [simp] mkSt getS getG V.within V.within.withinAll AObj.within

/-- The nil slice in a slot becomes an object's slice; then the state is written out. -/
theorem weak_nil_mk {st : St} (i n : Nat) {sz : Nat} (o : AObj) {sl : List (Nat × V)} {ob : List (Nat × AObj)} {c : Nat} (f : Nat → Nat) (hi : st.s i = .sl 0 sz []) (hn : st.g n = none) (he : o.elems = [])
    (hs : ∀ p ∈ sl, upd st.s i (.own n 0 0) p.1 = p.2.ren f ∧ p.2.within (fun n => (getG ob n).isSome) = true)
    (hg : ∀ p ∈ ob, upd st.g n (some o) (f p.1) = some (p.2.ren f) ∧ p.2.within (fun n => (getG ob n).isSome) = true) (hinj : ∀ p ∈ ob, ∀ q ∈ ob, f p.1 = f q.1 → p.1 = q.1) : Weak 0 st (mkSt sl ob c) :=
  (weak_nil i n o hi hn he).trans (weak_mk f hs hg hinj (fun n h => absurd h (by omega)))

def nth (l : List Nat) (i : Nat) : Nat := l.getD i i
def objsAt (f : Nat → Nat) (st : St) : Nat → List AObj → Prop
  | _, [] => True
  | i, o :: os => st.g (f i) = some (o.ren f) ∧ objsAt f st (i + 1) os
theorem objsAt_get {f : Nat → Nat} {st : St} : ∀ {os : List AObj} {i : Nat}, objsAt f st i os → ∀ (j : Nat) (o : AObj), os[j]? = some o → st.g (f (i + j)) = some (o.ren f)
  | [], i, _, j, o, h => by simp at h
  | a :: os, i, hh, 0, o, h => by simp at h; subst h; exact hh.1
  | a :: os, i, hh, j + 1, o, h => by
    have := objsAt_get hh.2 j o (by simpa using h)
    rw [show i + 1 + j = i + (j + 1) by omega] at this
    exact this
theorem ret_mk {T : TypeId → Option TI} {res : List ResultVar} {k : Nat} {e : Exit} {st : St} {v : V} {os : List AObj} (f : Nat → Nat) (he : isEnd e = true) (hv : retV T st res = some (v.ren f)) (ho : objsAt f st 0 os) (hk : k ≤ os.length) (hfix : ∀ j, j < k → f j = j)
    (hinj : ∀ i, i < os.length → ∀ j, j < os.length → f i = f j → i = j) (hw : v.within (fun j => decide (j < os.length)) = true) (hws : ∀ o ∈ os, o.within (fun j => decide (j < os.length)) = true) : Ret T res ⟨v, os⟩ k e st :=
  Ret0.ret ⟨by cases e <;> simp [isEnd] at he <;> trivial, hk, f, hfix, fun i j hi hj => hinj i hi j hj, hv, fun j o h => by simpa using objsAt_get ho j o h, hw, hws⟩
attribute [simp] nth objsAt
end Go.Lift

/-
  Specifications as families of arguments; a table of them; what a run comes to, step by step.
-/
namespace Go.Lift

variable {P : Program} {T : TypeId → Option TI} {C : FuncId → List V → List AObj → Option CRes}

open Classical in
/-- What a function answers, for a family of arguments and objects. -/
noncomputable def fam {ι : Type} (A : ι → List V) (O : ι → List AObj) (ok : ι → Prop) (res : ι → CRes) : List V → List AObj → Option CRes :=
  fun args objs => if h : ∃ i, ok i ∧ A i = args ∧ O i = objs then some (res h.choose) else none

theorem fam_some {ι : Type} {A : ι → List V} {O : ι → List AObj} {ok : ι → Prop} {res : ι → CRes} {args : List V} {objs : List AObj} {r : CRes} (h : fam A O ok res args objs = some r) : ∃ i, ok i ∧ A i = args ∧ O i = objs ∧ res i = r := by
  unfold fam at h
  split at h
  · rename_i hc
    cases h
    exact ⟨hc.choose, hc.choose_spec.1, hc.choose_spec.2.1, hc.choose_spec.2.2, rfl⟩
  · cases h

theorem fam_eq {ι : Type} {A : ι → List V} {O : ι → List AObj} {ok : ι → Prop} {res : ι → CRes} (hinj : ∀ i j, A i = A j → O i = O j → res i = res j) (i : ι) (h : ok i) : fam A O ok res (A i) (O i) = some (res i) := by
  unfold fam
  have hc : ∃ j, ok j ∧ A j = A i ∧ O j = O i := ⟨i, h, rfl, rfl⟩
  rw [dif_pos hc]
  exact congrArg some (hinj _ _ hc.choose_spec.2.1 hc.choose_spec.2.2)

theorem fam_none {ι : Type} {A : ι → List V} {O : ι → List AObj} {ok : ι → Prop} {res : ι → CRes} {args : List V} {objs : List AObj} (h : ∀ i, A i = args → O i = objs → False) : fam A O ok res args objs = none := by
  unfold fam
  rw [dif_neg]
  rintro ⟨i, _, h1, h2⟩
  exact h i h1 h2

theorem spec_fam (hT : TypesOk P T) (hC : SpecsOk P C) (hm : P.follows .mixedOrders = true) {f : FuncId} {fn : Func} {c : Code} (hf : P.funcs[f]? = some fn) (hname : (fn.name == "runtime.NumGoroutine") = false) (hb : fn.body = some c) (hd : dstOk fn.ntmps c = true)
    {ι : Type} {A : ι → List V} {O : ι → List AObj} {ok : ι → Prop} {res : ι → CRes} {n : Nat} (hn : fn.ntmps = n) (h : ∀ i, ok i → (A i).length ≤ n ∧ ∀ r, r = res i → axwp T C (O i).length c (Ret T fn.results.toList r (O i).length) (initSt (A i) (O i))) : Spec P f (fam A O ok res) := by
  refine spec_of hT hC hm hf hname hb hd fun args objs r hr => ?_
  obtain ⟨i, h1, rfl, rfl, rfl⟩ := fam_some hr
  rw [hn]
  exact ⟨(h i h1).1, (h i h1).2 _ rfl⟩

/-- A table of specifications. -/
def mkC : List (FuncId × (List V → List AObj → Option CRes)) → FuncId → List V → List AObj → Option CRes
  | [], _ => fun _ _ => none
  | (f, sp) :: r, g => if g = f then sp else mkC r g
@[simp] theorem mkC_cons (f : FuncId) (sp : List V → List AObj → Option CRes) (r : List (FuncId × (List V → List AObj → Option CRes))) (g : FuncId) : mkC ((f, sp) :: r) g = if g = f then sp else mkC r g := rfl

theorem mkC_ok : ∀ {l : List (FuncId × (List V → List AObj → Option CRes))}, (∀ p ∈ l, Spec P p.1 p.2) → SpecsOk P (mkC l)
  | [], _ => fun f ⟨a, o, r, h⟩ => by cases h
  | (f, sp) :: r, hl => fun g hg => by
    show Spec P g (if g = f then sp else mkC r g)
    by_cases e : g = f
    · subst e; rw [if_pos rfl]; exact hl _ (List.mem_cons_self ..)
    · rw [if_neg e]
      refine mkC_ok (fun p hp => hl p (List.mem_cons_of_mem _ hp)) g ?_
      obtain ⟨a, o, x, h⟩ := hg
      have h' : (if g = f then sp else mkC r g) a o = some x := h
      rw [if_neg e] at h'
      exact ⟨a, o, x, h'⟩
theorem all_nil {α : Type} {p : α → Prop} : ∀ x ∈ ([] : List α), p x := fun _ h => by cases h
theorem all_cons {α : Type} {p : α → Prop} {a : α} {l : List α} (h : p a) (hl : ∀ x ∈ l, p x) : ∀ x ∈ a :: l, p x := fun x hx => by
  rcases List.mem_cons.1 hx with rfl | hx
  · exact h
  · exact hl x hx

theorem byteRow_inj {a b : List UInt8} (h : byteRow a = byteRow b) : a = b := by
  have := congrArg asBytes h
  simpa using this
theorem intRow_inj {a b : List Int} (h : intRow a = intRow b) : a = b := by
  have := congrArg asInts h
  simpa using this
@[simp] theorem byteRow_eq {a b : List UInt8} : byteRow a = byteRow b ↔ a = b := ⟨byteRow_inj, fun h => by rw [h]⟩
@[simp] theorem intRow_eq {a b : List Int} : intRow a = intRow b ↔ a = b := ⟨intRow_inj, fun h => by rw [h]⟩
@[simp] theorem byteRow_nil : byteRow [] = [] := rfl
@[simp] theorem intRow_nil : intRow [] = [] := rfl

/-- The name in a value. -/
def nmOf : V → Nat
  | .own nm _ _ => nm
  | .ptr nm _ _ => nm
  | _ => 0
@[simp] theorem nmOf_own (a b c : Nat) : nmOf (.own a b c) = a := rfl
@[simp] theorem nmOf_ptr (a b c : Nat) : nmOf (.ptr a b c) = a := rfl
/-- Names that are read off a state: 'sum n' stands for the name in slot n, other numbers for themselves. -/
def namesIn (st : St) (l : List (Nat ⊕ Nat)) (i : Nat) : Nat := match l[i]? with
  | some (.inl n) => n
  | some (.inr s) => nmOf (st.s s)
  | none => i
theorem weak_at {k : Nat} {st : St} {sl : List (Nat × V)} {ob : List (Nat × AObj)} {c : Nat} (l : List (Nat ⊕ Nat)) (hs : ∀ p ∈ sl, st.s p.1 = p.2.ren (namesIn st l) ∧ p.2.within (fun n => (getG ob n).isSome) = true)
    (hg : ∀ p ∈ ob, st.g (namesIn st l p.1) = some (p.2.ren (namesIn st l)) ∧ p.2.within (fun n => (getG ob n).isSome) = true) (hinj : ∀ p ∈ ob, ∀ q ∈ ob, namesIn st l p.1 = namesIn st l q.1 → p.1 = q.1) (hfix : ∀ n, n < k → namesIn st l n = n ∧ (getG ob n).isSome = true) : Weak k st (mkSt sl ob c) :=
  weak_mk (namesIn st l) hs hg hinj hfix
def neFrom (f : Nat → Nat) (a : Nat) : Nat → List AObj → Prop
  | _, [] => True
  | i, _ :: os => a ≠ f i ∧ neFrom f a (i + 1) os
def injL (f : Nat → Nat) : Nat → List AObj → Prop
  | _, [] => True
  | i, _ :: os => neFrom f (f i) (i + 1) os ∧ injL f (i + 1) os
theorem neFrom_spec {f : Nat → Nat} {a : Nat} : ∀ {os : List AObj} {i : Nat}, neFrom f a i os → ∀ j, j < os.length → a ≠ f (i + j)
  | [], i, _, j, h => by simp at h
  | o :: os, i, hh, 0, h => hh.1
  | o :: os, i, hh, j + 1, h => by
    have := neFrom_spec hh.2 j (by simpa using h)
    rw [show i + 1 + j = i + (j + 1) by omega] at this
    exact this
theorem injL_spec {f : Nat → Nat} : ∀ {os : List AObj} {k : Nat}, injL f k os → ∀ i, i < os.length → ∀ j, j < os.length → f (k + i) = f (k + j) → i = j
  | [], k, _, i, h => by simp at h
  | o :: os, k, hh, 0, _ => fun j hj he => by
    cases j with
    | zero => rfl
    | succ j =>
      refine absurd he ?_
      have := neFrom_spec hh.1 j (by simpa using hj)
      rw [show k + 1 + j = k + (j + 1) by omega] at this
      exact this
  | o :: os, k, hh, i + 1, hi => fun j hj he => by
    cases j with
    | zero =>
      refine absurd he.symm ?_
      have := neFrom_spec hh.1 i (by simpa using hi)
      rw [show k + 1 + i = k + (i + 1) by omega] at this
      exact this
    | succ j =>
      rw [show k + (i + 1) = k + 1 + i by omega, show k + (j + 1) = k + 1 + j by omega] at he
      exact congrArg (· + 1) (injL_spec hh.2 i (by simpa using hi) j (by simpa using hj) he)
theorem ret_at {T : TypeId → Option TI} {res : List ResultVar} {k : Nat} {e : Exit} {st : St} {v : V} {os : List AObj} (l : List (Nat ⊕ Nat)) (he : isEnd e = true) (hv : retV T st res = some (v.ren (namesIn st l))) (ho : objsAt (namesIn st l) st 0 os) (hk : k ≤ os.length) (hfix : ∀ j, j < k → namesIn st l j = j)
    (hinj : injL (namesIn st l) 0 os) (hw : v.within (fun j => decide (j < os.length)) = true) (hws : ∀ o ∈ os, o.within (fun j => decide (j < os.length)) = true) : Ret T res ⟨v, os⟩ k e st :=
  ret_mk (namesIn st l) he hv ho hk hfix (fun i hi j hj he => injL_spec hinj i hi j hj (by simpa using he)) hw hws
attribute [simp] neFrom injL
attribute [simp] namesIn

/-- A term that nothing reduces: for constants that would be evaluated in vain. -/
noncomputable def hush {α : Type} (a : α) : α := Classical.choose (⟨a, rfl⟩ : ∃ b, b = a)
theorem hush_eq {α : Type} (a : α) : hush a = a := Classical.choose_spec (⟨a, rfl⟩ : ∃ b, b = a)
end Go.Lift

/-
  What comes in: readers of arguments, type by type.
-/
namespace Go.Lift
open Go.RowKit

variable {P : Program}

/-- Cells that read as data. -/
def ReadsAs (w : World) (us : List V) (cs : List Value) : Prop := us.length = cs.length ∧ ∀ (j : Nat) (u : V) (x : Value), us[j]? = some u → cs[j]? = some x → Rd w (fun b => b < w.heap.size) noG u x

theorem ReadsAs.one {w : World} {u : V} {x : Value} (h : Rd w (fun b => b < w.heap.size) noG u x) : ReadsAs w [u] [x] := by
  refine ⟨rfl, fun j u' x' h1 h2 => ?_⟩
  cases j with
  | zero => simp at h1 h2; subst h1; subst h2; exact h
  | succ j => simp at h1
theorem ReadsAs.append {w : World} {a b : List V} {x y : List Value} (h : ReadsAs w a x) (k : ReadsAs w b y) : ReadsAs w (a ++ b) (x ++ y) := by
  refine ⟨by simp [h.1, k.1], fun j u v h1 h2 => ?_⟩
  by_cases hj : j < a.length
  · rw [List.getElem?_append_left hj] at h1
    rw [List.getElem?_append_left (by rw [← h.1]; exact hj)] at h2
    exact h.2 j u v h1 h2
  · rw [List.getElem?_append_right (by omega)] at h1
    rw [List.getElem?_append_right (by rw [← h.1]; omega)] at h2
    rw [← h.1] at h2
    exact k.2 _ u v h1 h2

/-- A measure of what was read. -/
structure Meas {H : Type} (m : DataW H → Nat) : Prop where
  one : ∀ d, 1 ≤ m d
  str : ∀ b, b.length + 1 ≤ m (.lit (.string b))
  sl : ∀ es sp, (es.map m).sum + 1 ≤ m (.slice es sp)
  agg : ∀ ps, (ps.map m).sum + 1 ≤ m (.agg ps)

/-- How arguments of a type read. -/
structure Reader (P : Program) (t : TypeId) (α : Type) where
  enc : α → List V
  ok : α → Prop
  siz : α → Nat
  len : ∀ a, (enc a).length = P.cellsOf t
  cel : ∀ a u, u ∈ enc a → u.cellular = true
  pos : ∀ a, 1 ≤ siz a
  read : ∀ {H : Type} {eh : TypeId × Value → H} {w : World} {fuel : Nat} {cs : List Value} {d : DataW H} {ps : List MemPlace},
    DataW.trod eh P w 0 (fun _ => true) true fuel t cs = some (d, ps) → ∃ a, ReadsAs w (enc a) cs ∧ ok a ∧ ∀ m : DataW H → Nat, Meas m → siz a ≤ m d

def rdInt {t : TypeId} (k : IntKind) (h : P.underlying t = some (.int k)) (hc : P.cellsOf t = 1) : Reader P t Int where
  enc n := [.int k n]
  ok n := (Lit.int k n).wf = true
  siz _ := 1
  len _ := hc.symm
  cel _ u hu := by simp at hu; subst hu; rfl
  pos _ := Nat.le_refl _
  read hd := by
    obtain ⟨n, rfl, hx, hw⟩ := DataW.trod_int h hd
    cases hx
    exact ⟨n, .one (.int _ _ _), hw, fun m hm => hm.one _⟩

def rdByte {t : TypeId} (h : P.underlying t = some (.int .u8)) (hc : P.cellsOf t = 1) : Reader P t UInt8 where
  enc n := [.int .u8 n.toNat]
  ok _ := True
  siz _ := 1
  len _ := hc.symm
  cel _ u hu := by simp at hu; subst hu; rfl
  pos _ := Nat.le_refl _
  read hd := by
    obtain ⟨n, rfl, hx, hw⟩ := DataW.trod_int h hd
    cases hx
    simp [Lit.wf, IntKind.min, IntKind.max, IntKind.bits, IntKind.signed] at hw
    have e : ((UInt8.ofNat n.toNat).toNat : Int) = n := by rw [u8_nat]; omega
    refine ⟨UInt8.ofNat n.toNat, .one ?_, trivial, fun m hm => hm.one _⟩
    rw [e]; exact .int _ _ _

def rdBool {t : TypeId} (h : P.underlying t = some .bool) (hc : P.cellsOf t = 1) : Reader P t Bool where
  enc b := [.bool b]
  ok _ := True
  siz _ := 1
  len _ := hc.symm
  cel _ u hu := by simp at hu; subst hu; rfl
  pos _ := Nat.le_refl _
  read hd := by
    obtain ⟨n, rfl, hx⟩ := DataW.trod_bool h hd
    cases hx
    exact ⟨n, .one (.bool _ _), trivial, fun m hm => hm.one _⟩

def rdStr {t : TypeId} (h : P.underlying t = some .string) (hc : P.cellsOf t = 1) : Reader P t ByteArray where
  enc b := [.str b]
  ok b := b.size ≤ maxLen
  siz b := b.size + 1
  len _ := hc.symm
  cel _ u hu := by simp at hu; subst hu; rfl
  pos _ := by omega
  read hd := by
    obtain ⟨s, rfl, hx, hs⟩ := DataW.trod_string h hd
    cases hx
    exact ⟨s, .one (.str _ _), hs, fun m hm => by have := hm.str s.data.toList; simpa using this⟩

theorem each_of {α β : Type} {Good : Nat → α → β → Prop} : ∀ (ys : List β) (k : Nat), (∀ (i : Nat) (y : β), ys[i]? = some y → ∃ a, Good (k + i) a y) → ∃ l : List α, l.length = ys.length ∧ ∀ (i : Nat) (a : α) (y : β), l[i]? = some a → ys[i]? = some y → Good (k + i) a y
  | [], k, _ => ⟨[], rfl, fun i a y h => by simp at h⟩
  | y :: ys, k, h => by
    obtain ⟨a, ha⟩ := h 0 y rfl
    obtain ⟨l, h1, h2⟩ := each_of ys (k + 1) (fun i y hy => by
      obtain ⟨a, ha⟩ := h (i + 1) y (by simpa using hy)
      exact ⟨a, by rw [show k + 1 + i = k + (i + 1) by omega]; exact ha⟩)
    refine ⟨a :: l, by simp [h1], fun i b z hb hz => ?_⟩
    cases i with
    | zero => simp at hb hz; subst hb; subst hz; exact ha
    | succ i =>
      have := h2 i b z (by simpa using hb) (by simpa using hz)
      rw [show k + 1 + i = k + (i + 1) by omega] at this
      exact this

theorem sum_le {α β : Type} (f : α → Nat) (g : β → Nat) : ∀ (l : List α) (ys : List β), l.length = ys.length → (∀ (i : Nat) (a : α) (y : β), l[i]? = some a → ys[i]? = some y → f a ≤ g y) → (l.map f).sum ≤ (ys.map g).sum
  | [], [], _, _ => Nat.le_refl _
  | a :: l, y :: ys, hl, h => by
    have h1 := h 0 a y rfl rfl
    have h2 := sum_le f g l ys (by simpa using hl) (fun i a y ha hy => h (i + 1) a y (by simpa using ha) (by simpa using hy))
    simp only [List.map_cons, List.sum_cons]
    omega
  | [], y :: ys, hl, _ => by simp at hl
  | a :: l, [], hl, _ => by simp at hl

theorem length_le_sum {α : Type} (f : α → Nat) (h : ∀ a, 1 ≤ f a) : ∀ l : List α, l.length ≤ (l.map f).sum
  | [] => Nat.le_refl _
  | a :: l => by
    have := length_le_sum f h l
    have := h a
    simp only [List.map_cons, List.sum_cons, List.length_cons]
    omega

def rdSlice {t e : TypeId} {α : Type} (h : P.underlying t = some (.slice e)) (hc : P.cellsOf t = 1) (R : Reader P e α) : Reader P t (List α) where
  enc l := [.sl 2 (P.cellsOf e) (l.map R.enc)]
  ok l := ∀ a ∈ l, R.ok a
  siz l := (l.map R.siz).sum + 1
  len _ := hc.symm
  cel _ u hu := by simp at hu; subst hu; rfl
  pos _ := by omega
  read {H eh w fuel cs d ps} hd := by
    rcases DataW.trod_slice h hd with ⟨rfl, hx⟩ | ⟨a, len, cap, elems, rest, n, _, rfl, hx, _, hl, hm, hlen, hel, _, _⟩
    · cases hx
      exact ⟨[], .one (.nil _ 2 _ (by decide)), (fun a h => by cases h), fun m hm => hm.one _⟩
    · cases hx
      have key : ∀ (i : Nat) (y : DataW H × List MemPlace), elems[i]? = some y → ∃ b, (∃ cs, w.cells? 0 (a.add ((0 + i) * P.cellsOf e)) (P.cellsOf e) = some cs ∧ ReadsAs w (R.enc b) cs) ∧ R.ok b ∧ ∀ m : DataW H → Nat, Meas m → R.siz b ≤ m y.1 := by
        intro i y hy
        have hi : i < len := by rw [← hlen]; exact (List.getElem?_eq_some_iff.1 hy).1
        have he := hel i hi
        rw [hy] at he
        cases hcs : w.cells? 0 (a.add (i * P.cellsOf e)) (P.cellsOf e) with
        | none => rw [hcs] at he; cases he
        | some cs =>
          rw [hcs] at he
          obtain ⟨y1, y2⟩ := y
          obtain ⟨b, b1, b2, b3⟩ := R.read he
          exact ⟨b, ⟨cs, by rw [Nat.zero_add]; exact hcs, b1⟩, b2, b3⟩
      obtain ⟨l, l1, l2⟩ := each_of elems 0 (Good := fun i b y => (∃ cs, w.cells? 0 (a.add (i * P.cellsOf e)) (P.cellsOf e) = some cs ∧ ReadsAs w (R.enc b) cs) ∧ R.ok b ∧ ∀ m : DataW H → Nat, Meas m → R.siz b ≤ m y.1) key
      have at_ : ∀ (i : Nat) (b : α), l[i]? = some b → ∃ y, elems[i]? = some y ∧ (∃ cs, w.cells? 0 (a.add (i * P.cellsOf e)) (P.cellsOf e) = some cs ∧ ReadsAs w (R.enc b) cs) ∧ R.ok b := by
        intro i b hb
        have hi : i < elems.length := by rw [← l1]; exact (List.getElem?_eq_some_iff.1 hb).1
        have hy := List.getElem?_eq_getElem hi
        have := l2 i b _ hb hy
        rw [Nat.zero_add] at this
        exact ⟨_, hy, this.1, this.2.1⟩
      refine ⟨l, .one ?_, fun b hb => ?_, fun m hm => ?_⟩
      · have hcell : ∀ (i j : Nat) (u : V), cellAt (l.map R.enc) i j = some u → ∃ x, w.cell? (a.add (i * P.cellsOf e + j)) = some x ∧ Rd w (fun b => b < w.heap.size) noG u x := by
          intro i j u hu
          obtain ⟨r, r1, r2⟩ := cellAt_some hu
          rw [List.getElem?_map] at r1
          cases hb : l[i]? with
          | none => rw [hb] at r1; cases r1
          | some b =>
            rw [hb] at r1; cases r1
            obtain ⟨y, _, ⟨cs, c1, c2⟩, _⟩ := at_ i b hb
            obtain ⟨_, e1, e2⟩ := World.cells?_some c1
            have hj : j < P.cellsOf e := by rw [← R.len b]; exact (List.getElem?_eq_some_iff.1 r2).1
            have hjc : j < cs.length := by rw [← c2.1, R.len]; exact hj
            have e3 := e2 j hj
            rw [List.getElem?_eq_getElem hjc, Addr.add_add] at e3
            exact ⟨_, e3, c2.2 j u _ r2 (List.getElem?_eq_getElem hjc)⟩
        refine .sl _ 2 _ _ a len cap (fun i j => (w.cell? (a.add (i * P.cellsOf e + j))).getD undef) (by decide) (fun h => by rcases h with h | h <;> cases h) (by simp [l1, hlen]) hl hm (fun r hr => ?_) (fun i j u hu => ?_) (fun i j u hu => ?_) (fun i j u hu => ?_)
        · obtain ⟨b, _, rfl⟩ := List.mem_map.1 hr; exact R.len b
        · obtain ⟨r, r1, r2⟩ := cellAt_some hu
          have := List.mem_of_getElem? r1
          obtain ⟨b, _, rfl⟩ := List.mem_map.1 this
          exact R.cel b u (List.mem_of_getElem? r2)
        · obtain ⟨x, x1, x2⟩ := hcell i j u hu
          have hb := World.block_lt_of_cell? w _ x1
          rw [add_block] at hb
          exact ⟨hb, by rw [x1]; rfl⟩
        · obtain ⟨x, x1, x2⟩ := hcell i j u hu
          simp only [x1]; exact x2
      · obtain ⟨i, hi⟩ := List.getElem?_of_mem hb
        obtain ⟨_, _, _, h2⟩ := at_ i b hi
        exact h2
      · have h1 := hm.sl (elems.map (·.1)) (rest.map (·.1))
        have h2 := sum_le R.siz (fun y : DataW H × List MemPlace => m y.1) l elems l1 (fun i b y hb hy => (l2 i b y hb hy).2.2 m hm)
        rw [List.map_map] at h1
        exact Nat.le_trans (Nat.add_le_add_right h2 1) h1

/-- How the fields of a struct read, from a place on. -/
structure FReader (P : Program) (fs : List Field) (off : Nat) (β : Type) where
  enc : β → List V
  ok : β → Prop
  siz : β → Nat
  cells : Nat
  len : ∀ b, (enc b).length = cells
  cel : ∀ b u, u ∈ enc b → u.cellular = true
  read : ∀ {H : Type} {eh : TypeId × Value → H} {w : World} {fuel : Nat} {cs : List Value} {xs : List (DataW H × List MemPlace)}, xs.length = fs.length →
    (∀ (i : Nat) (f : Field), fs[i]? = some f → DataW.trod eh P w 0 (fun _ => true) true fuel f.type ((cs.drop f.offset).take (P.cellsOf f.type)) = xs[i]?) → cs.length = off + cells →
    ∃ b, ReadsAs w (enc b) (cs.drop off) ∧ ok b ∧ ∀ m : DataW H → Nat, Meas m → siz b ≤ (xs.map fun x => m x.1).sum

def frNil {off : Nat} : FReader P [] off Unit where
  enc _ := []
  ok _ := True
  siz _ := 0
  cells := 0
  len _ := rfl
  cel _ u hu := by cases hu
  read {H eh w fuel cs xs} hl hf hc := by
    refine ⟨(), ⟨by simp; omega, fun j u x h1 h2 => by simp at h1⟩, trivial, fun m hm => Nat.zero_le _⟩

def frCons {f : Field} {fs : List Field} {off off' : Nat} {α β : Type} (R : Reader P f.type α) (Q : FReader P fs off' β) (ho : f.offset = off) (ho' : off' = off + P.cellsOf f.type) : FReader P (f :: fs) off (α × β) where
  enc b := R.enc b.1 ++ Q.enc b.2
  ok b := R.ok b.1 ∧ Q.ok b.2
  siz b := R.siz b.1 + Q.siz b.2
  cells := P.cellsOf f.type + Q.cells
  len b := by simp [R.len, Q.len]
  cel b u hu := by rcases List.mem_append.1 hu with h | h; exact R.cel _ u h; exact Q.cel _ u h
  read {H eh w fuel cs xs} hl hf hc := by
    cases xs with
    | nil => simp at hl
    | cons x xs =>
      have h0 := hf 0 f rfl
      simp only [List.getElem?_cons_zero] at h0
      rw [ho] at h0
      obtain ⟨d, ps⟩ := x
      obtain ⟨a, a1, a2, a3⟩ := R.read h0
      obtain ⟨b, b1, b2, b3⟩ := Q.read (xs := xs) (cs := cs) (eh := eh) (w := w) (fuel := fuel) (by simpa using hl) (fun i g hg => by have := hf (i + 1) g (by simpa using hg); simpa using this) (by omega)
      refine ⟨(a, b), ?_, ⟨a2, b2⟩, fun m hm => ?_⟩
      · have := a1.append b1
        have e : (cs.drop off).take (P.cellsOf f.type) ++ cs.drop off' = cs.drop off := by
          rw [ho', ← List.drop_drop]; exact List.take_append_drop _ _
        rw [e] at this; exact this
      · have := a3 m hm
        have := b3 m hm
        simp only [List.map_cons, List.sum_cons]
        omega

/-- A struct, as a structure of one's own. -/
def rdStruct {t : TypeId} {fs : Array Field} {β α : Type} (h : P.underlying t = some (.struct fs)) (Q : FReader P fs.toList 0 β) (hc : P.cellsOf t = Q.cells) (mk : β → α) (e : α → List V) (he : ∀ b, e (mk b) = Q.enc b) (hsur : ∀ a, ∃ b, mk b = a) (okA : α → Prop) (hok : ∀ b, Q.ok b → okA (mk b)) (sz : α → Nat) (hsz : ∀ b, sz (mk b) ≤ Q.siz b) : Reader P t α where
  enc := e
  ok := okA
  siz a := sz a + 1
  len a := by obtain ⟨b, rfl⟩ := hsur a; rw [he, Q.len, hc]
  cel a u hu := by obtain ⟨b, rfl⟩ := hsur a; rw [he] at hu; exact Q.cel b u hu
  pos _ := by omega
  read {H eh w fuel cs d ps} hd := by
    obtain ⟨xs, n, _, hx, hl, hlen, hf⟩ := DataW.trod_struct h hd
    cases hx
    obtain ⟨b, b1, b2, b3⟩ := Q.read (xs := xs) (cs := cs) (eh := eh) (w := w) (fuel := n) (by simpa using hlen) (fun i f hf' => hf i f (by simpa using hf')) (by omega)
    refine ⟨mk b, by rw [he]; simpa using b1, hok b b2, fun m hm => ?_⟩
    have h1 := b3 m hm
    have h2 := hm.agg (xs.map (·.1))
    rw [List.map_map] at h2
    have h3 := hsz b
    have : (xs.map fun x => m x.1).sum + 1 ≤ m (.agg (xs.map (·.1))) := h2
    omega

/-! ### An argument -/
/-- What an argument of one cell, or of a struct, reads as. -/
theorem Reader.cell {t : TypeId} {α : Type} (R : Reader P t α) {e : α → V} (he : ∀ a, R.enc a = [e a]) (hv : ∀ {w r b0 v}, Value.okWide P w r b0 t v → v.cells = #[v]) {H : Type} {eh : TypeId × Value → H} {w W0 : World} {r : Reach} {b0 : Nat} {v : Value} {d : DataW H} {ps : List MemPlace}
    (hval : Value.okWide P W0 r b0 t v) (hd : DataW.Trod eh P w 0 (fun _ => true) true t v d ps) : ∃ a, Rd w (fun b => b < w.heap.size) noG (e a) v ∧ R.ok a ∧ ∀ m : DataW H → Nat, Meas m → R.siz a ≤ m d := by
  obtain ⟨fuel, hf⟩ := hd
  rw [hv hval] at hf
  obtain ⟨a, ⟨_, a1⟩, a2, a3⟩ := R.read hf
  refine ⟨a, ?_, a2, a3⟩
  rw [he] at a1
  exact a1 0 _ _ rfl rfl

theorem Reader.agg {t : TypeId} {α : Type} {fs : Array Field} (R : Reader P t α) (h : P.underlying t = some (.struct fs)) {H : Type} {eh : TypeId × Value → H} {w W0 : World} {r : Reach} {b0 : Nat} {v : Value} {d : DataW H} {ps : List MemPlace}
    (hval : Value.okWide P W0 r b0 t v) (hd : DataW.Trod eh P w 0 (fun _ => true) true t v d ps) : ∃ a, Rd w (fun b => b < w.heap.size) noG (.agg (R.enc a)) v ∧ R.ok a ∧ ∀ m : DataW H → Nat, Meas m → R.siz a ≤ m d := by
  obtain ⟨cs, rfl, _⟩ := WideShapes.okWide_struct h hval
  obtain ⟨fuel, hf⟩ := hd
  obtain ⟨a, ⟨a0, a1⟩, a2, a3⟩ := R.read hf
  refine ⟨a, .agg _ _ _ (by simpa [Value.cells] using a0) (fun j u x hu hx => a1 j u x hu (by simpa [Value.cells] using hx)), a2, a3⟩

theorem cells_int {t : TypeId} {k : IntKind} (h : P.underlying t = some (.int k)) {w r b0 v} (hv : Value.okWide P w r b0 t v) : v.cells = #[v] := by
  obtain ⟨n, rfl⟩ := WideShapes.okWide_int h hv; rfl
theorem cells_bool {t : TypeId} (h : P.underlying t = some .bool) {w r b0 v} (hv : Value.okWide P w r b0 t v) : v.cells = #[v] := by
  obtain ⟨n, rfl⟩ := WideShapes.okWide_bool h hv; rfl
theorem cells_str {t : TypeId} (h : P.underlying t = some .string) {w r b0 v} (hv : Value.okWide P w r b0 t v) : v.cells = #[v] := by
  obtain ⟨n, rfl⟩ := WideShapes.okWide_string h hv; rfl
theorem cells_slice {t e : TypeId} (h : P.underlying t = some (.slice e)) {w r b0 v} (hv : Value.okWide P w r b0 t v) : v.cells = #[v] := by
  obtain ⟨a, l, c, rfl⟩ := WideShapes.okWide_slice h hv; rfl

/-! ### What a law's row asks behind the call -/
theorem trodAll_below {H : Type} {eh : TypeId × Value → H} (hl : laidOutB P = true) {W W' : World} (hb : Below W.heap.size W W') : ∀ {ts : List TypeId} {vs : List Value} {ds : List (DataW H)} {ps : List MemPlace}, (∀ t ∈ ts, P.readableRec t = true ∧ t < P.types.size) →
    DataW.TrodAll eh P W 0 (fun _ => true) true ts vs ds ps → (∀ x ∈ ps, x.block < W.heap.size) → DataW.TrodAll eh P W' 0 (fun b => decide (b < W.heap.size)) true ts vs ds ps
  | [], [], [], ps, _, h, _ => h
  | t :: ts, v :: vs, d :: ds, ps, ht, h, hlt => by
    obtain ⟨p, q, h1, h2, rfl⟩ := h
    exact ⟨p, q, Below.trod hl (ht t (List.mem_cons_self ..)).1 (ht t (List.mem_cons_self ..)).2 h1 hb (fun x hx => hlt x (List.mem_append_left _ hx)),
      trodAll_below hl hb (fun t h => ht t (List.mem_cons_of_mem _ h)) h2 (fun x hx => hlt x (List.mem_append_right _ hx)), rfl⟩
  | [], _ :: _, _, _, _, h, _ => h.elim
  | [], [], _ :: _, _, _, h, _ => h.elim
  | _ :: _, [], _, _, _, h, _ => h.elim
  | _ :: _, _ :: _, [], _, _, h, _ => h.elim

theorem law_post {H : Type} {eh : TypeId × Value → H} {f : Func} {s : ChangeSpec} {W W' : World} {args : Array Value} {ds gs : List (DataW H)} {before : List MemPlace} {t : TypeId} (hl : laidOutB P = true)
    (hW : DataW.Whole eh P f.params.toList s.vars false W args.toList ds gs before) (hvars : s.vars = []) (hfn : (s.fn H (ds ++ gs)).results = [.lit (.bool true)] ∧ (s.fn H (ds ++ gs)).args = ds ∧ (s.fn H (ds ++ gs)).vars = [])
    (hrt : f.resultTypes = #[t]) (ht : P.underlying t = some .bool) (hall : ∀ t ∈ f.params.toList, P.readableRec t = true ∧ t < P.types.size) (hb : Below W.heap.size W W') : s.post eh P f false true false false W args (.bool true) W' := by
  have hlt := hW.lt
  have hW0 := hW
  obtain ⟨p, q, h1, h2, rfl, h3, h4⟩ := hW
  rw [hvars] at h2
  obtain ⟨rfl, rfl⟩ := ChangeShapes.trodVars_none h2
  obtain ⟨f1, f2, f3⟩ := hfn
  refine ⟨ds, [], _, [], p, [], hW0, ?_, ?_, ?_, ?_, fun h => by cases h⟩
  · rw [f1, hrt]
    exact ⟨[], [], ⟨1, by simp [DataW.trod, ht, Value.cells]⟩, rfl, rfl⟩
  · rw [f2]
    exact trodAll_below hl hb hall h1 (fun x hx => hlt x (List.mem_append_left _ hx))
  · rw [f3, hvars]; rfl
  · exact hb.frame _

theorem fam_calls {f : FuncId} {ι : Type} {A : ι → List V} {ok : ι → Prop} (hS : Spec P f (fam A (fun _ => []) ok (fun _ => ⟨.bool true, []⟩))) (i : ι) (hi : ok i) {W : World} {vs : List Value} (hlen : (A i).length = vs.length)
    (hrd : ∀ (j : Nat) (u : V) (x : Value), (A i)[j]? = some u → vs[j]? = some x → Rd W (fun b => b < W.heap.size) noG u x) (hgl : GlobAt W (fun b => b < W.heap.size)) : Calls P f vs.toArray W fun e w' => e = .returned (.bool true) ∧ Below W.heap.size W w' := by
  refine (hS.calls (A i) [] ⟨.bool true, []⟩ (fam_eq (fun _ _ _ _ => rfl) i hi) W _ noG _ vs.toArray (entry_plain W (A i) vs.toArray (by simpa using hlen) (fun j u x h1 h2 => hrd j u x h1 (by simpa using h2)) hgl)).mono ?_
  rintro e w' ⟨v, I', γ', rfl, hL⟩
  have hv := hL.rd
  refine ⟨by cases hv; rfl, hL.inv.os, hL.inv.tape, hL.inv.output, hL.inv.size, fun b hb => hL.inv.frame b hb fun h => h⟩

theorem rd_nil {W : World} : ∀ (j : Nat) (u : V) (x : Value), ([] : List V)[j]? = some u → ([] : List Value)[j]? = some x → Rd W (fun b => b < W.heap.size) noG u x := fun j u x h => by simp at h
theorem rd_cons {W : World} {u : V} {x : Value} {us : List V} {xs : List Value} (h : Rd W (fun b => b < W.heap.size) noG u x) (hs : ∀ (j : Nat) (u : V) (x : Value), us[j]? = some u → xs[j]? = some x → Rd W (fun b => b < W.heap.size) noG u x) :
    ∀ (j : Nat) (u' : V) (x' : Value), (u :: us)[j]? = some u' → (x :: xs)[j]? = some x' → Rd W (fun b => b < W.heap.size) noG u' x' := fun j u' x' h1 h2 => by
  cases j with
  | zero => simp at h1 h2; subst h1; subst h2; exact h
  | succ j => exact hs j u' x' (by simpa using h1) (by simpa using h2)

theorem Rd.sl_len {w : World} {I : Nat → Prop} {γ : Nat → Option GI} {t es : Nat} {rows : List (List V)} {v : Value} (h : Rd w I γ (.sl t es rows) v) : rows.length ≤ 9223372036854775807 := by
  cases h with
  | nil => exact Nat.zero_le _
  | sl _ _ _ _ _ n c _ _ _ hlen hnc hcm =>
    have : maxLen = 9223372036854775807 := by decide
    omega
end Go.Lift

/-
  Slices of one's own that nobody writes any more become data.
-/
namespace Go.Lift

variable {w0 w : World} {ex : Ex} {I : Nat → Prop} {γ : Nat → Option GI} {g : Nat → Option AObj}

theorem freeze_one (hi : Inv w0 ex I γ g w) {n : Nat} {o : AObj} (hg : g n = some o) (hm : o.md ≠ .dead) : Inv w0 ex (Ic I γ [n]) γ (upd g n (some { o with md := .ro })) w := by
  have hI : ∀ b, I b → Ic I γ [n] b := fun b h => .inl h
  have hup : ∀ x y, upd g n (some { o with md := .ro }) x = some y → ∃ y0, g x = some y0 ∧ (y0.md = .dead → y.md = .dead) := by
    intro x y h
    by_cases e : x = n
    · subst e; exact ⟨o, hg, fun h => absurd h hm⟩
    · rw [upd_ne _ _ e] at h; exact ⟨y, h, id⟩
  have hblk : ∀ b, Ic I γ [n] b → ¬ I b → ∃ gi, γ n = some gi ∧ gi.nil = false ∧ gi.blk = b := by
    rintro b (h | ⟨m, gi, h1, h2, h3, h4⟩) hn
    · exact absurd h hn
    · simp at h1; subst h1; exact ⟨gi, h2, h3, h4⟩
  refine ⟨fun x y hx hd => ?_, ?_, ?_, ?_, fun b hb => ?_, fun b hb => hI _ (hi.keep b hb), hi.fix, fun b hb => ?_, hi.frame, hi.os, hi.tape, hi.output, hi.size, ?_⟩
  rotate_right
  · obtain ⟨F, hF⟩ := hi.trees
    refine ⟨F, hF.less hI (fun a i j u b hu hf hb => ?_) (fun x y hx hd => .inl ?_) (fun x y gi hx hd hγ _ => ⟨hγ, ?_⟩)⟩
    · rcases hb with hb | ⟨m, gi, h1, h2, h3, h4⟩
      · exact hb
      · simp at h1; subst h1
        exact absurd h4 (hF.nm _ _ _ _ _ hu hf m o gi hg hm h2 h3)
    · obtain ⟨y0, a1, a2⟩ := hup x y hx
      refine ⟨y0, a1, fun h => hd (a2 h), fun i j u hu _ => ?_⟩
      by_cases e : x = n
      · subst e
        rw [upd_same] at hx; cases hx
        rw [hg] at a1; cases a1; exact hu
      · rw [upd_ne _ _ e, a1] at hx; cases hx; exact hu
    · obtain ⟨y0, a1, a2⟩ := hup x y hx
      exact ⟨y0, a1, fun h => hd (a2 h)⟩
  · by_cases e : x = n
    · subst e
      rw [upd_same] at hx; cases hx
      have ho := hi.obj x o hg hm
      refine ⟨ho.rows, ho.cel, ho.closed, ho.scalar, ?_⟩
      rcases ho.at_ with h | ⟨gi, cur, fr, hγ, ha⟩
      · exact .inl h
      · refine .inr ⟨gi, cur, fr, hγ, ha.nn, ha.es, ha.heap, ha.frz, ha.size, ha.le, ha.tight, ha.max, fun i j u hu => ?_, fun _ => .inr ⟨x, gi, by simp, hγ, ha.nn, rfl⟩, (fun h => by cases h)⟩
        obtain ⟨y, y1, y2⟩ := ha.cells _ _ _ hu
        exact ⟨y, y1, y2.wider hI⟩
    · rw [upd_ne _ _ e] at hx
      have ho := hi.obj x y hx hd
      refine ⟨ho.rows, ho.cel, ho.closed, ho.scalar, ?_⟩
      rcases ho.at_ with h | ⟨gi, cur, fr, hγ, ha⟩
      · exact .inl h
      · refine .inr ⟨gi, cur, fr, hγ, ha.nn, ha.es, ha.heap, ha.frz, ha.size, ha.le, ha.tight, ha.max, fun i j u hu => ?_, fun h => hI _ (ha.ro h), fun h hb => ?_⟩
        · obtain ⟨y, y1, y2⟩ := ha.cells _ _ _ hu
          exact ⟨y, y1, y2.wider hI⟩
        · obtain ⟨gi', q1, q2, q3⟩ := hblk _ hb (ha.rw h)
          exact e (hi.inj x n y o gi gi' hx hg hd hm hγ q1 ha.nn q2 q3.symm)
  · intro a b o1 o2 gi gi' h1 h2 d1 d2
    obtain ⟨p1, a1, a2⟩ := hup a o1 h1
    obtain ⟨p2, b1, b2⟩ := hup b o2 h2
    exact hi.inj a b p1 p2 gi gi' a1 b1 (fun h => d1 (a2 h)) (fun h => d2 (b2 h))
  · intro a o1 gi h1 d1
    obtain ⟨p1, a1, a2⟩ := hup a o1 h1
    exact hi.own a p1 gi a1 (fun h => d1 (a2 h))
  · intro a gi h1 h2
    by_cases e : a = n
    · subst e; rw [upd_same] at h2; cases h2
    · rw [upd_ne _ _ e] at h2; exact hi.dom a gi h1 h2
  · by_cases h : I b
    · exact hi.lt b h
    · obtain ⟨gi, q1, q2, rfl⟩ := hblk b hb h
      obtain ⟨cur, fr, ha⟩ := hi.at_own hg hm q1 q2
      exact (Array.getElem?_eq_some_iff.1 ha.heap).1
  · by_cases h : I b
    · exact hi.back b h
    · obtain ⟨gi, q1, q2, rfl⟩ := hblk b hb h
      exact .inr (hi.own n o gi hg hm q1 q2)

theorem freeze_list : ∀ {L : List (Nat × AObj)} {I : Nat → Prop} {g : Nat → Option AObj}, Inv w0 ex I γ g w → (∀ p ∈ L, ∃ o, g p.1 = some o ∧ o.md ≠ .dead ∧ p.2 = { o with md := .ro }) →
    ∃ I', (∀ b, I b → I' b) ∧ Inv w0 ex I' γ (setAll g L) w
  | [], I, g, hi, _ => ⟨I, fun _ h => h, hi⟩
  | (n, o') :: L, I, g, hi, h => by
    obtain ⟨o, h1, h2, h3⟩ := h (n, o') (List.mem_cons_self ..)
    replace h3 : o' = { o with md := .ro } := h3
    subst h3
    obtain ⟨I', q1, q2⟩ := freeze_list (L := L) (freeze_one hi h1 h2) (fun p hp => by
      obtain ⟨o1, k1, k2, k3⟩ := h p (List.mem_cons_of_mem _ hp)
      by_cases e : p.1 = n
      · rw [e] at k1 ⊢
        replace h1 : g n = some o := h1
        rw [h1] at k1; cases k1
        exact ⟨_, upd_same .., (by simp), k3⟩
      · exact ⟨o1, by rw [upd_ne _ _ e]; exact k1, k2, k3⟩)
    exact ⟨I', fun b hb => q1 b (.inl hb), q2⟩

def closedRows : List (List V) → Bool
  | [] => true
  | r :: rs => V.closed.closedAll r && closedRows rs
theorem closedRows_get : ∀ {l : List (List V)}, closedRows l = true → ∀ r ∈ l, V.closed.closedAll r = true
  | [], _, r, h => by cases h
  | x :: l, h, r, hr => by
    simp only [closedRows, Bool.and_eq_true] at h
    rcases List.mem_cons.1 hr with rfl | hr
    · exact h.1
    · exact closedRows_get h.2 r hr
theorem closedRows_append : ∀ (a b : List (List V)), closedRows (a ++ b) = (closedRows a && closedRows b)
  | [], b => rfl
  | x :: a, b => by simp [closedRows, closedRows_append a b, Bool.and_assoc]

/-- A value in which slices of the named objects have become data. -/
def fzV (g : Nat → Option AObj) (F : List Nat) : V → V
  | .own nm off n => match g nm with
    | some o => if F.contains nm = true ∧ off + n ≤ o.elems.length then .sl 2 o.es ((o.elems.drop off).take n) else .own nm off n
    | none => .own nm off n
  | .agg cs => .agg (all cs)
  | v => v
where all : List V → List V
  | [] => []
  | c :: cs => fzV g F c :: all cs

theorem fzV_tree {g : Nat → Option AObj} {F : List Nat} {v : V} (h : (fzV g F v).isTree = true) : fzV g F v = v := by
  cases v <;> try rfl
  · simp only [fzV] at h ⊢
    split at h
    · split at h <;> cases h
    · cases h
  · simp only [fzV] at h; cases h

theorem fzV.all_eq (g : Nat → Option AObj) (F : List Nat) : ∀ cs : List V, fzV.all g F cs = cs.map (fzV g F)
  | [] => rfl
  | c :: cs => by simp [fzV.all, fzV.all_eq g F cs]
theorem fzV_cellular (g : Nat → Option AObj) (F : List Nat) (v : V) (h : v.cellular = true) : (fzV g F v).cellular = true := by
  cases v <;> simp [V.cellular] at h <;> simp only [fzV] <;> try rfl
  split
  · split <;> rfl
  · rfl
def fzO (g : Nat → Option AObj) (F : List Nat) (o : AObj) : AObj :=
  if o.fl ≠ 0 then o else { o with elems := o.elems.map (·.map (fzV g F)), fl := if closedRows (o.elems.map (·.map (fzV g F))) then 1 else 0 }
def fzSt (F : List Nat) (st : St) : St := { s := fun n => fzV st.g F (st.s n), g := fun n => (setAll st.g (freeze st.g F) n).map (fzO st.g F), c := st.c }

theorem fzV_rd {g1 : Nat → Option AObj} (hi : Inv w0 ex I γ g1 w) {F : List Nat} (hF : ∀ n o, n ∈ F → g n = some o → o.fl ≠ 0 ∧ g1 n = some { o with md := .ro }) : ∀ {v : V} {x : Value}, Rd w I γ v x → Rd w I γ (fzV g F v) x := by
  have own : ∀ {nm off n : Nat} {x : Value}, Rd w I γ (.own nm off n) x → Rd w I γ (fzV g F (.own nm off n)) x := by
    intro nm off n x hx
    simp only [fzV]
    split
    · rename_i o hg
      split
      · rename_i hc
        obtain ⟨h1, h2⟩ := hF nm o (by simpa using hc.1) hg
        have h3 := argOne_rd hi (refs := []) (γc := γ) (fun k n h => by simp at h) hx (v' := .sl 2 o.es ((o.elems.drop off).take n)) (bs := [nm]) (BS := [nm]) (by simp [argOne, posOf, h1, h2, hc.2]) (fun n h => h)
        refine h3.wider fun b hb => ?_
        rcases hb with hb | ⟨m, gi, q1, q2, q3, q4⟩
        · exact hb
        · simp at q1; subst q1
          obtain ⟨cur, fr, ha⟩ := hi.at_own h2 (by simp) q2 q3
          rw [← q4]; exact ha.ro rfl
      · exact hx
    · exact hx
  have key : ∀ (k : Nat) (v : V) (x : Value), SizeOf.sizeOf v ≤ k → Rd w I γ v x → Rd w I γ (fzV g F v) x := by
    intro k
    induction k with
    | zero => intro v x hs; cases v <;> simp at hs
    | succ k ih =>
      intro v x hs hx
      cases v with
      | own nm off n => exact own hx
      | agg cs =>
        simp only [fzV]
        rw [fzV.all_eq]
        cases hx with
        | agg _ _ xs hl hr =>
          refine .agg _ _ _ (by simpa using hl) fun j u x hu hx => ?_
          rw [List.getElem?_map] at hu
          cases hc : cs[j]? with
          | none => rw [hc] at hu; cases hu
          | some c =>
            rw [hc] at hu; cases hu
            refine ih c x ?_ (hr j c x hc hx)
            have := List.sizeOf_lt_of_mem (List.mem_of_getElem? hc)
            simp at hs
            omega
      | _ => exact hx
  exact fun {v x} hx => key _ v x (Nat.le_refl _) hx

theorem weak_fz {k : Nat} {st : St} (F : List Nat) (hF : ∀ n ∈ F, ∃ o, st.g n = some o ∧ o.md ≠ .dead ∧ o.fl ≠ 0) : Weak k st (fzSt F st) := by
  intro w0 ex N a w I γ _ hs
  obtain ⟨I', hI, hi⟩ := freeze_list (L := freeze st.g F) hs.inv (fun p hp => by
    obtain ⟨n, o'⟩ := p
    obtain ⟨h1, o0, h2, h3⟩ := freeze_mem hp
    obtain ⟨o, k1, k2, k3⟩ := hF n h1
    rw [h2] at k1; cases k1
    exact ⟨o0, h2, k2, h3⟩)
  have hg1 : ∀ n o, n ∈ F → st.g n = some o → o.fl ≠ 0 ∧ setAll st.g (freeze st.g F) n = some { o with md := .ro } := by
    intro n o hn hg
    obtain ⟨o', k1, _, k3⟩ := hF n hn
    rw [hg] at k1; cases k1
    refine ⟨k3, ?_⟩
    rcases setAll_spec (freeze st.g F) st.g n with ⟨o', h1, h2⟩ | ⟨h1, h2⟩
    · obtain ⟨_, o0, q2, q3⟩ := freeze_mem h1
      rw [hg] at q2; cases q2
      rw [h2, q3]
    · exact absurd (mem_freeze hn hg) (h1 _)
  have hrd : ∀ {v : V} {x : Value}, Rd w I' γ v x → Rd w I' γ (fzV st.g F v) x := fun hx => fzV_rd hi hg1 hx
  have hmd : ∀ o : AObj, (fzO st.g F o).md = o.md := by intro o; unfold fzO; split <;> rfl
  have hup : ∀ x y, (setAll st.g (freeze st.g F) x).map (fzO st.g F) = some y → ∃ y0, setAll st.g (freeze st.g F) x = some y0 ∧ y = fzO st.g F y0 := by
    intro x y h
    cases hx : setAll st.g (freeze st.g F) x with
    | none => rw [hx] at h; cases h
    | some y0 => rw [hx] at h; cases h; exact ⟨y0, rfl, rfl⟩
  have hcell : ∀ {rows : List (List V)} {i j : Nat} {u : V}, cellAt (rows.map (·.map (fzV st.g F))) i j = some u → ∃ u0, cellAt rows i j = some u0 ∧ u = fzV st.g F u0 := by
    intro rows i j u h
    obtain ⟨r, h1, h2⟩ := cellAt_some h
    rw [List.getElem?_map] at h1
    cases hr : rows[i]? with
    | none => rw [hr] at h1; cases h1
    | some r0 =>
      rw [hr] at h1; cases h1
      rw [List.getElem?_map] at h2
      cases hu : r0[j]? with
      | none => rw [hu] at h2; cases h2
      | some u0 => rw [hu] at h2; cases h2; exact ⟨u0, cellAt_mk hr hu, rfl⟩
  refine ⟨I', γ, hs.size, fun n => hrd ((hs.slots n).wider hI), ⟨fun x y hx hd => ?_, ?_, ?_, ?_, hi.lt, hi.keep, hi.fix, hi.back, hi.frame, hi.os, hi.tape, hi.output, hi.size, ?_⟩, hs.defers, hs.glob.wider hI⟩
  rotate_right
  · obtain ⟨F', hF'⟩ := hi.trees
    refine ⟨F', hF'.less (fun _ h => h) (fun _ _ _ _ _ _ _ h => h) (fun x y hx hd => .inl ?_) (fun x y gi hx hd hγ _ => ⟨hγ, ?_⟩)⟩
    · obtain ⟨y0, a1, rfl⟩ := hup x y hx
      rw [hmd] at hd
      refine ⟨y0, a1, hd, fun i j u hu hut => ?_⟩
      unfold fzO at hu
      split at hu
      · exact hu
      · obtain ⟨u0, k1, rfl⟩ := hcell hu
        rw [fzV_tree hut]; exact k1
    · obtain ⟨y0, a1, rfl⟩ := hup x y hx
      rw [hmd] at hd
      exact ⟨y0, a1, hd⟩
  · obtain ⟨y0, h1, rfl⟩ := hup x y hx
    rw [hmd] at hd
    have ho := hi.obj x y0 h1 hd
    unfold fzO
    split
    · exact ho
    · rename_i hfl
      have hfl : y0.fl = 0 := by simpa using hfl
      refine ⟨fun e he => ?_, fun i j u hu => ?_, fun hf i j u hu => ?_, fun hf i j u hu => ?_, ?_⟩
      · obtain ⟨e0, k1, rfl⟩ := List.mem_map.1 he
        simpa using ho.rows e0 k1
      · obtain ⟨u0, k1, rfl⟩ := hcell hu
        exact fzV_cellular _ _ _ (ho.cel _ _ _ k1)
      · simp only at hf hu
        split at hf
        · rename_i hc
          obtain ⟨r, r1, r2⟩ := cellAt_some hu
          exact V.closedAll_get (closedRows_get hc r (List.mem_of_getElem? r1)) j u r2
        · exact absurd rfl hf
      · simp only at hf
        split at hf <;> omega
      · rcases ho.at_ with ⟨he, gi, q1, q2⟩ | ⟨gi, cur, fr, hγ, ha⟩
        · exact .inl ⟨by simp [he], gi, q1, q2⟩
        · refine .inr ⟨gi, cur, fr, hγ, ha.nn, ha.es, ha.heap, ha.frz, ha.size, by simpa using ha.le, by simpa using ha.tight, ha.max, fun i j u hu => ?_, ha.ro, ha.rw⟩
          obtain ⟨u0, k1, rfl⟩ := hcell hu
          obtain ⟨z, z1, z2⟩ := ha.cells _ _ _ k1
          exact ⟨z, z1, hrd z2⟩
  · intro p q o1 o2 gi gi' h1 h2 d1 d2
    obtain ⟨p1, a1, rfl⟩ := hup p o1 h1
    obtain ⟨p2, b1, rfl⟩ := hup q o2 h2
    rw [hmd] at d1 d2
    exact hi.inj p q p1 p2 gi gi' a1 b1 d1 d2
  · intro p o1 gi h1 d1
    obtain ⟨p1, a1, rfl⟩ := hup p o1 h1
    rw [hmd] at d1
    exact hi.own p p1 gi a1 d1
  · intro p gi h1 h2
    refine hi.dom p gi h1 ?_
    replace h2 : (setAll st.g (freeze st.g F) p).map (fzO st.g F) = none := h2
    cases hx : setAll st.g (freeze st.g F) p with
    | none => rfl
    | some y => rw [hx] at h2; cases h2

theorem weak_cut {k : Nat} {st : St} (n m : Nat) (o : AObj) (hg : st.g m = some o) : Weak k st { st with g := upd st.g m (some (cutO n o)) } := by
  intro w0 ex N a w I γ _ hs
  exact ⟨I, γ, hs.size, hs.slots, hs.inv.cut hg n, hs.defers, hs.glob⟩

/-- The slices in the named slots become data. -/
theorem weak_fzS {k : Nat} {st : St} (l : List Nat) (hF : ∀ n ∈ l.map (fun s => nmOf (st.s s)), ∃ o, st.g n = some o ∧ o.md ≠ .dead ∧ o.fl ≠ 0) : Weak k st (fzSt (l.map fun s => nmOf (st.s s)) st) := weak_fz _ hF
attribute [simp] fzSt fzV fzV.all fzO closedRows closedRows_append

@[simp] theorem scalarRows_nil : scalarRows [] = true := rfl
@[simp] theorem wrap_zero (k : IntKind) : k.wrap 0 = 0 := by cases k <;> decide
@[simp] theorem wrap_one (k : IntKind) : k.wrap 1 = 1 := by cases k <;> decide
/-- What the tag of a nil slice says. -/
def NilOk {α : Type} (t : Nat) (l : List α) : Prop := t = 0 → l = []
theorem nilOk_ne {α : Type} {t : Nat} {l : List α} (h : t ≠ 0) : NilOk t l := fun e => absurd e h
@[simp] theorem nilOk_1 {α : Type} (l : List α) : NilOk 1 l := nilOk_ne (by decide)
@[simp] theorem nilOk_2 {α : Type} (l : List α) : NilOk 2 l := nilOk_ne (by decide)
@[simp] theorem nilOk_3 {α : Type} (l : List α) : NilOk 3 l := nilOk_ne (by decide)
@[simp] theorem nilOk_4 {α : Type} (l : List α) : NilOk 4 l := nilOk_ne (by decide)
theorem nilOk_cut {α : Type} {t : Nat} {b : Bool} {l : List α} (h : t ≠ 0) : NilOk (cutTag t b) l := nilOk_ne (fun e => h (cutTag_ne.1 e))
@[simp] theorem nilOk_nil {α : Type} (t : Nat) : NilOk t ([] : List α) := fun _ => rfl
@[simp] theorem wrap_i64_lit (n : Nat) (h : n ≤ 9223372036854775807) : IntKind.i64.wrap (no_index (OfNat.ofNat n : Int)) = OfNat.ofNat n := wrap_i64_in (show (-9223372036854775808 : Int) ≤ ((n : Nat) : Int) by omega) (show ((n : Nat) : Int) ≤ 9223372036854775807 by omega)
@[simp] theorem wrap_u64_lit (n : Nat) (h : n ≤ 18446744073709551615) : IntKind.u64.wrap (no_index (OfNat.ofNat n : Int)) = OfNat.ofNat n := wrap_u64_in (show (0 : Int) ≤ ((n : Nat) : Int) by omega) (show ((n : Nat) : Int) ≤ 18446744073709551615 by omega)
@[simp] theorem wrap_u8_lit (n : Nat) (h : n ≤ 255) : IntKind.u8.wrap (no_index (OfNat.ofNat n : Int)) = OfNat.ofNat n := wrap_u8_in (show (0 : Int) ≤ ((n : Nat) : Int) by omega) (show ((n : Nat) : Int) ≤ 255 by omega)
@[simp] theorem wrap_i64_neglit (n : Nat) (h : n ≤ 9223372036854775808) : IntKind.i64.wrap (-(no_index (OfNat.ofNat n : Int))) = -(OfNat.ofNat n) := wrap_i64_in (show (-9223372036854775808 : Int) ≤ -((n : Nat) : Int) by omega) (show -((n : Nat) : Int) ≤ 9223372036854775807 by omega)
/-! Rows of byte slices. -/
def listRow (ls : List (List UInt8)) : List (List V) := ls.map fun l => [.sl 2 1 (byteRow l)]
@[simp] theorem listRow_length (l : List (List UInt8)) : (listRow l).length = l.length := by simp [listRow]
@[simp] theorem listRow_nil : listRow [] = [] := rfl
theorem listRow_append (a b : List (List UInt8)) : listRow (a ++ b) = listRow a ++ listRow b := by simp [listRow]
@[simp] theorem listRow_append' (a b : List (List UInt8)) : listRow a ++ listRow b = listRow (a ++ b) := (listRow_append a b).symm
theorem listRow_one (l : List UInt8) : [[V.sl 2 1 (byteRow l)]] = listRow [l] := rfl
@[simp] theorem listRow_get (l : List (List UInt8)) (n : Nat) : (listRow l)[n]? = (l[n]?).map fun b => [V.sl 2 1 (byteRow b)] := by simp [listRow]
@[simp] theorem listRow_getElem (l : List (List UInt8)) (n : Nat) (h : n < (listRow l).length) : (listRow l)[n] = [V.sl 2 1 (byteRow (l[n]'(by simpa using h)))] := by simp [listRow]
@[simp] theorem listRow_isEmpty (l : List (List UInt8)) : (listRow l).isEmpty = l.isEmpty := by cases l <;> rfl
@[simp] theorem listRow_take (l : List (List UInt8)) (n : Nat) : (listRow l).take n = listRow (l.take n) := by simp [listRow, List.map_take]
@[simp] theorem listRow_drop (l : List (List UInt8)) (n : Nat) : (listRow l).drop n = listRow (l.drop n) := by simp [listRow, List.map_drop]
@[simp] theorem listRow_closed : ∀ l : List (List UInt8), closedRows (listRow l) = true
  | [] => rfl
  | b :: l => by
    have := listRow_closed l
    simp only [listRow, List.map_cons] at this ⊢
    simp [closedRows, this]
@[simp] theorem listRow_fz (g : Nat → Option AObj) (F : List Nat) (l : List (List UInt8)) : (listRow l).map (·.map (fzV g F)) = listRow l := by
  simp [listRow]
theorem listRow_inj {a b : List (List UInt8)} (h : listRow a = listRow b) : a = b := by
  induction a generalizing b with
  | nil => cases b with
    | nil => rfl
    | cons => cases h
  | cons x a ih => cases b with
    | nil => cases h
    | cons y b =>
      simp only [listRow, List.map_cons, List.cons.injEq] at h
      obtain ⟨h1, h2⟩ := h
      simp at h1
      rw [h1, ih h2]
@[simp] theorem listRow_eq {a b : List (List UInt8)} : listRow a = listRow b ↔ a = b := ⟨listRow_inj, fun h => by rw [h]⟩
theorem mem_le_sum : ∀ {l : List Nat} {x : Nat}, x ∈ l → x ≤ l.sum
  | [], _, h => by cases h
  | a :: l, x, h => by
    rw [List.sum_cons]
    rcases List.mem_cons.1 h with rfl | h
    · omega
    · have := mem_le_sum h; omega
theorem rd_list {w : World} {I : Nat → Prop} {γ : Nat → Option GI} {t es : Nat} {ls : List (List UInt8)} {v : Value} (h : Rd w I γ (.sl t es (listRow ls)) v) : ∀ x ∈ ls, x.length ≤ 9223372036854775807 := by
  intro x hx
  obtain ⟨i, hi⟩ := List.getElem?_of_mem hx
  generalize hr : listRow ls = rows at h
  cases h with
  | nil => have := listRow_inj (b := []) hr; rw [this] at hi; simp at hi
  | sl _ _ _ _ _ n c _ _ _ hlen hnc hcm hes hcel hc hrr =>
    have := hrr i 0 (.sl 2 1 (byteRow x)) (by rw [← hr]; simp [cellAt, hi])
    simpa using Rd.sl_len this
end Go.Lift

/-
  What is handed back becomes data that nobody writes any more; aggregates that stay folded.
-/
namespace Go.Lift

def tagC : V → V
  | .sl _ es rows => .sl 2 es rows
  | v => v
/-- A value of which less is known: whether its slices are nil. -/
def tagV : V → V
  | .agg cs => .agg (cs.map tagC)
  | .tup cs => .tup (cs.map tagC)
  | v => tagC v
theorem tagC_rd {w : World} {I : Nat → Prop} {γ : Nat → Option GI} {v : V} {x : Value} (h : Rd w I γ v x) : Rd w I γ (tagC v) x := by
  cases h with
  | nil _ tag es h => exact .nil _ 2 es (by decide)
  | sl _ tag es elems a n c xs h0 h1 hlen hnc hcm hes hcel hc hr => exact .sl _ 2 es elems a n c xs (by decide) (fun h => by rcases h with h | h <;> cases h) hlen hnc hcm hes hcel hc hr
  | junk => exact .junk _ _
  | int => exact .int _ _ _
  | bool => exact .bool _ _
  | str => exact .str _ _
  | own _ nm off n c o gi hγ hnn hcap hn hcm ho => exact .own _ nm off n c o gi hγ hnn hcap hn hcm ho
  | ownnil _ nm A gi hγ hnn => exact .ownnil _ nm A gi hγ hnn
  | ptr _ nm i j gi hγ hnn => exact .ptr _ nm i j gi hγ hnn
  | pp _ cells a xs hc hr => exact .pp _ cells a xs hc hr
  | pnil => exact .pnil _
  | agg _ cells xs hl hr => exact .agg _ cells xs hl hr
  | tup _ cells xs hl hr => exact .tup _ cells xs hl hr
  | fn => exact .fn _ _
  | clo _ f caps xs hl hr => exact .clo _ f caps xs hl hr
  | anyB => exact .anyB _ _
  | treep _ et es rows tight fl p h => exact .treep _ _ _ _ _ _ p h
  | trees _ et es rows tight fl A n c h => exact .trees _ _ _ _ _ _ A n c h
theorem tagV_rd {w : World} {I : Nat → Prop} {γ : Nat → Option GI} {v : V} {x : Value} (h : Rd w I γ v x) : Rd w I γ (tagV v) x := by
  have cells : ∀ {cs : List V} {xs : Array Value}, (∀ (j : Nat) (u : V) (x : Value), cs[j]? = some u → xs[j]? = some x → Rd w I γ u x) → ∀ (j : Nat) (u : V) (x : Value), (cs.map tagC)[j]? = some u → xs[j]? = some x → Rd w I γ u x := by
    intro cs xs hr j u x hu hx
    rw [List.getElem?_map] at hu
    cases hc : cs[j]? with
    | none => rw [hc] at hu; cases hu
    | some c => rw [hc] at hu; cases hu; exact tagC_rd (hr j c x hc hx)
  cases v with
  | agg cs => cases h with | agg _ _ xs hl hr => exact .agg _ _ xs (by simpa using hl) (cells hr)
  | tup cs => cases h with | tup _ _ xs hl hr => exact .tup _ _ xs (by simpa using hl) (cells hr)
  | _ => exact tagC_rd h
def tagSt (st : St) : St := { s := fun n => tagV (st.s n), g := st.g, c := st.c }
theorem weak_tag {k : Nat} {st : St} : Weak k st (tagSt st) := fun _ _ _ _ _ I γ _ hs => ⟨I, γ, hs.size, fun n => tagV_rd (hs.slots n), hs.inv, hs.defers, hs.glob⟩

/-- The slices in the named slots, and in the fields of what stands there, become data at the end of a function. -/
theorem retFz {T : TypeId → Option TI} {res : List ResultVar} {r : CRes} {k : Nat} {e : Exit} {st : St} (l : List Nat) (hF : ∀ n ∈ l.flatMap (fun s => namesOf (st.s s)), ∃ o, st.g n = some o ∧ o.md ≠ .dead ∧ o.fl ≠ 0)
    (h : Ret T res r k e (tagSt (fzSt (l.flatMap fun s => namesOf (st.s s)) st))) : Ret T res r k e st :=
  h.weak ((weak_fz _ hF).trans weak_tag)
/-- A closed result. -/
theorem retData {T : TypeId → Option TI} {res : List ResultVar} {v : V} {e : Exit} {st : St} (l : List Nat) (hF : ∀ n ∈ l.flatMap (fun s => namesOf (st.s s)), ∃ o, st.g n = some o ∧ o.md ≠ .dead ∧ o.fl ≠ 0)
    (he : isEnd e = true) (hv : v.closed = true) (h : retV T (tagSt (fzSt (l.flatMap fun s => namesOf (st.s s)) st)) res = some v) : Ret T res ⟨v, []⟩ 0 e st :=
  retFz l hF (ret_closed he h hv)
theorem vtag_agg (cs : List V) : tagV (.agg cs) = .agg (cs.map tagC) := rfl
theorem vtag_tup (cs : List V) : tagV (.tup cs) = .tup (cs.map tagC) := rfl
theorem vtag_int (k : IntKind) (n : Int) : tagV (.int k n) = .int k n := rfl
theorem vtag_bool (b : Bool) : tagV (.bool b) = .bool b := rfl
theorem vtag_str (b : ByteArray) : tagV (.str b) = .str b := rfl
theorem vtag_sl (a b : Nat) (r : List (List V)) : tagV (.sl a b r) = .sl 2 b r := rfl
theorem vtag_own (a b c : Nat) : tagV (.own a b c) = .own a b c := rfl
theorem vtag_ptr (a b c : Nat) : tagV (.ptr a b c) = .ptr a b c := rfl
theorem vtag_pp (r : List V) : tagV (.pp r) = .pp r := rfl
theorem vtag_tree (sl : Bool) (et es : Nat) (r : List (List V)) (t : Bool) (fl : Nat) : tagV (.tree sl et es r t fl) = .tree sl et es r t fl := rfl
theorem vtag_pnil  : tagV (.pnil) = .pnil := rfl
theorem vtag_fn (f : FuncId) : tagV (.fn f) = .fn f := rfl
theorem vtag_clo (f : FuncId) (r : List V) : tagV (.clo f r) = .clo f r := rfl
theorem vtag_anyB  : tagV (.anyB) = .anyB := rfl
theorem vtag_junk  : tagV (.junk) = .junk := rfl
attribute [simp] tagC tagSt vtag_tree vtag_agg vtag_tup vtag_int vtag_bool vtag_str vtag_sl vtag_own vtag_ptr vtag_pp vtag_pnil vtag_fn vtag_clo vtag_anyB vtag_junk

/-! ### Aggregates that stay folded -/
section
variable {v : V} {g : Nat → Option AObj}
def Folded (v : V) : Prop := ∃ cs, v = .agg cs ∧ V.closed.closedAll cs = true
theorem Folded.closed (h : Folded v) : v.closed = true := by obtain ⟨cs, rfl, h⟩ := h; exact h
theorem Folded.ren (h : Folded v) (f : Nat → Nat) : v.ren f = v := ren_closed f v h.closed
theorem Folded.within (h : Folded v) (D : Nat → Bool) : v.within D = true := within_closed D v h.closed
theorem closedAll_names : ∀ {cs : List V}, V.closed.closedAll cs = true → cs.flatMap nameOf = []
  | [], _ => rfl
  | c :: cs, h => by
    simp only [V.closed.closedAll, Bool.and_eq_true] at h
    rw [List.flatMap_cons, closedAll_names h.2]
    cases c <;> simp [V.closed] at h <;> rfl
theorem closedAll_deep : ∀ {cs : List V}, V.closed.closedAll cs = true → cs.flatMap (deepNm g 3) = []
  | [], _ => rfl
  | c :: cs, h => by
    simp only [V.closed.closedAll, Bool.and_eq_true] at h
    rw [List.flatMap_cons, closedAll_deep h.2]
    cases c <;> simp [V.closed] at h <;> rfl
theorem closedAll_arg {refs : List Nat} : ∀ {cs : List V}, V.closed.closedAll cs = true → argCells g refs cs = some (cs, [])
  | [], _ => rfl
  | c :: cs, h => by
    simp only [V.closed.closedAll, Bool.and_eq_true] at h
    have h1 : argOne g refs c = some (c, []) := by
      cases c <;> simp [V.closed] at h <;> simp [argOne, V.closed, h]
    simp only [argCells, h1, closedAll_arg h.2]; rfl
theorem Folded.argV (h : Folded v) (refs : List Nat) : argV g refs v = some (v, []) := by
  obtain ⟨cs, rfl, h⟩ := h
  simp only [Lift.argV, closedAll_arg h]; rfl
theorem Folded.names (h : Folded v) : namesOf v = [] := by obtain ⟨cs, rfl, h⟩ := h; exact closedAll_names h
theorem Folded.deep (h : Folded v) : argNm g v = [] := by obtain ⟨cs, rfl, h⟩ := h; exact closedAll_deep h
theorem Folded.ptr (h : Folded v) (r : List V) : ptrNames (v :: r) = ptrNames r := by obtain ⟨cs, rfl, h⟩ := h; rfl
theorem Folded.junk (h : Folded v) : v.isJunk = false := by obtain ⟨cs, rfl, h⟩ := h; rfl
theorem Folded.fz (h : Folded v) (F : List Nat) : fzV g F v = v := by
  obtain ⟨cs, rfl, h⟩ := h
  simp only [fzV]
  congr 1
  induction cs with
  | nil => rfl
  | cons c cs ih =>
    simp only [V.closed.closedAll, Bool.and_eq_true] at h
    simp only [fzV.all, ih h.2]
    congr 1
    have : ∀ cs : List V, V.closed.closedAll cs = true → fzV.all g F cs = cs := by
      have key : ∀ (n : Nat) (v : V), SizeOf.sizeOf v ≤ n → v.closed = true → fzV g F v = v := by
        intro n
        induction n with
        | zero => intro v hs; cases v <;> simp at hs
        | succ n ih =>
          intro v hs hc
          cases v <;> simp [V.closed] at hc <;> try rfl
          rename_i cs
          simp only [fzV]
          congr 1
          simp at hs
          have all : ∀ cs : List V, SizeOf.sizeOf cs ≤ n → V.closed.closedAll cs = true → fzV.all g F cs = cs := by
            intro cs
            induction cs with
            | nil => intros; rfl
            | cons c cs ihc =>
              intro hs hc
              simp only [V.closed.closedAll, Bool.and_eq_true] at hc
              simp at hs
              simp only [fzV.all]
              rw [ih c (by omega) hc.1, ihc (by omega) hc.2]
          exact all cs (by omega) hc
      intro cs hc
      have := key (SizeOf.sizeOf (V.agg cs)) (.agg cs) (Nat.le_refl _) hc
      simp only [fzV, V.agg.injEq] at this
      exact this
    have := this [c] (by simp [V.closed.closedAll, h.1])
    simpa [fzV.all] using this
end

theorem Inv.redo {w0 w : World} {ex I γ} {g : Nat → Option AObj} (hi : Inv w0 ex I γ g w) {m : Nat} {o o' : AObj} (hg : g m = some o) (hmd : o'.md = o.md) (hok : o.md ≠ .dead → ObjOk w I γ m o → ObjOk w I γ m o') (htr : ∀ i j u, cellAt o'.elems i j = some u → u.isTree = true → cellAt o.elems i j = some u) : Inv w0 ex I γ (upd g m (some o')) w := by
  have hup : ∀ x y, upd g m (some o') x = some y → ∃ y0, g x = some y0 ∧ y.md = y0.md := by
    intro x y h
    by_cases e : x = m
    · subst e; rw [upd_same] at h; cases h; exact ⟨o, hg, hmd⟩
    · rw [upd_ne _ _ e] at h; exact ⟨y, h, rfl⟩
  refine ⟨fun x y hx hm => ?_, ?_, ?_, ?_, hi.lt, hi.keep, hi.fix, hi.back, hi.frame, hi.os, hi.tape, hi.output, hi.size, ?_⟩
  rotate_right
  · obtain ⟨F, hF⟩ := hi.trees
    refine ⟨F, hF.less (fun _ h => h) (fun _ _ _ _ _ _ _ h => h) (fun x y hx hm => .inl ?_) (fun x y gi hx hm hγ _ => ⟨hγ, ?_⟩)⟩
    · obtain ⟨y0, a1, a2⟩ := hup x y hx
      refine ⟨y0, a1, by rw [← a2]; exact hm, fun i j u hu hut => ?_⟩
      by_cases e : x = m
      · subst e
        rw [upd_same] at hx; cases hx
        rw [hg] at a1; cases a1
        exact htr i j u hu hut
      · rw [upd_ne _ _ e, a1] at hx; cases hx; exact hu
    · obtain ⟨y0, a1, a2⟩ := hup x y hx
      exact ⟨y0, a1, by rw [← a2]; exact hm⟩
  · by_cases e : x = m
    · subst e; rw [upd_same] at hx; cases hx
      rw [hmd] at hm
      exact hok hm (hi.obj _ _ hg hm)
    · rw [upd_ne _ _ e] at hx; exact hi.obj _ _ hx hm
  · intro a b o1 o2 gi gi' h1 h2 d1 d2
    obtain ⟨p1, a1, a2⟩ := hup a o1 h1
    obtain ⟨p2, b1, b2⟩ := hup b o2 h2
    exact hi.inj a b p1 p2 gi gi' a1 b1 (by rw [← a2]; exact d1) (by rw [← b2]; exact d2)
  · intro a o1 gi h1 d1
    obtain ⟨p1, a1, a2⟩ := hup a o1 h1
    exact hi.own a p1 gi a1 (by rw [← a2]; exact d1)
  · intro a gi h1 h2
    by_cases e : a = m
    · subst e; rw [upd_same] at h2; cases h2
    · rw [upd_ne _ _ e] at h2; exact hi.dom a gi h1 h2

/-- Less is known of what an object's cells hold. -/
theorem weak_fl {k : Nat} {st : St} (m f : Nat) (o : AObj) (hg : st.g m = some o) (hf : f ≤ o.fl) : Weak k st { st with g := upd st.g m (some { o with fl := f }) } := by
  intro w0 ex N a w I γ _ hs
  refine ⟨I, γ, hs.size, hs.slots, hs.inv.redo hg rfl (fun _ h => ⟨h.rows, h.cel, fun h0 => h.closed (fun e => h0 (by simp only; omega)), fun h0 => h.scalar (by simp only at h0; omega), ?_⟩) (fun _ _ _ h _ => h), hs.defers, hs.glob⟩
  rcases h.at_ with h | ⟨gi, cur, fr, hγ, ha⟩
  · exact .inl h
  · exact .inr ⟨gi, cur, fr, hγ, ha.nn, ha.es, ha.heap, ha.frz, ha.size, ha.le, ha.tight, ha.max, ha.cells, ha.ro, ha.rw⟩

theorem wpL_weak {T : TypeId → Option TI} {C : FuncId → List V → List AObj → Option CRes} {k : Nat} {c : Code} {Q : Exit → St → Prop} {st st0 : St} (hw : Weak k st st0) (h : wpL T C k c Q st0 ()) : wpL T C k c Q st () := by
  obtain ⟨J, ⟨n, s, w, j⟩, r⟩ := (show axwp T C k (.loop c) Q st0 from h)
  exact (show axwp T C k (.loop c) Q st from ⟨J, ⟨n, s, hw.trans w, j⟩, r⟩)
/-- What several branches come to. -/
theorem viaK {G K : Prop} (f : K → G) (k : K) : G := f k
/-- Nothing is known of an object's capacity. -/
theorem weak_tight {k : Nat} {st : St} (m : Nat) (o : AObj) (hg : st.g m = some o) : Weak k st { st with g := upd st.g m (some { o with tight := false }) } := by
  intro w0 ex N a w I γ _ hs
  refine ⟨I, γ, hs.size, hs.slots, hs.inv.redo hg rfl (fun _ h => ⟨h.rows, h.cel, h.closed, h.scalar, ?_⟩) (fun _ _ _ h _ => h), hs.defers, hs.glob⟩
  rcases h.at_ with h | ⟨gi, cur, fr, hγ, ha⟩
  · exact .inl h
  · exact .inr ⟨gi, cur, fr, hγ, ha.nn, ha.es, ha.heap, ha.frz, ha.size, ha.le, (fun h => by cases h), ha.max, ha.cells, ha.ro, ha.rw⟩

/-- The nil slices of a row as slices of objects of the frame. -/
def nilCells : Nat → List V → List V
  | _, [] => []
  | b, c :: r => match c with
    | .sl 0 _ [] => .own b 0 0 :: nilCells (b + 1) r
    | c => c :: nilCells b r
def pairs : Nat → List AObj → List (Nat × AObj)
  | _, [] => []
  | b, o :: os => (b, o) :: pairs (b + 1) os
def nilCount : List V → Nat
  | [] => 0
  | c :: r => match c with
    | .sl 0 _ [] => nilCount r + 1
    | _ => nilCount r
theorem nilCells_len : ∀ (b : Nat) (r : List V), (nilCells b r).length = r.length
  | _, [] => rfl
  | b, c :: r => by
    simp only [nilCells]
    split <;> simp [nilCells_len]
theorem nilCells_get : ∀ (b : Nat) (r : List V) (j : Nat) (u : V), (nilCells b r)[j]? = some u → r[j]? = some u ∨ ∃ sz i, r[j]? = some (.sl 0 sz []) ∧ u = .own (b + i) 0 0 ∧ i < nilCount r
  | _, [], j, u, h => by simp [nilCells] at h
  | b, c :: r, j, u, h => by
    simp only [nilCells] at h
    split at h
    · rename_i sz
      cases j with
      | zero => simp at h; exact .inr ⟨sz, 0, rfl, by simp [h], by simp [nilCount]⟩
      | succ j =>
        simp at h
        rcases nilCells_get (b + 1) r j u h with h | ⟨sz, i, h1, h2, h3⟩
        · exact .inl (by simpa using h)
        · exact .inr ⟨sz, i + 1, by simpa using h1, by rw [h2]; congr 1; omega, by simp [nilCount]; omega⟩
    · rename_i hne
      cases j with
      | zero => simp at h; exact .inl (by simp [h])
      | succ j =>
        simp at h
        rcases nilCells_get b r j u h with h | ⟨sz, i, h1, h2, h3⟩
        · exact .inl (by simpa using h)
        · refine .inr ⟨sz, i, by simpa using h1, h2, ?_⟩
          simp only [nilCount]
          first | exact h3 | (split <;> omega)
theorem Inv.phantoms {w0 w : World} {ex I} : ∀ {os : List AObj} {b : Nat} {γ} {g : Nat → Option AObj}, Inv w0 ex I γ g w → (∀ o ∈ os, o.elems = []) → (∀ i, i < os.length → g (b + i) = none) →
    ∃ γ', Inv w0 ex I γ' (setAll g (pairs b os)) w ∧ Ext I γ w I γ' w ∧ ∀ i, i < os.length → ∃ gi, γ' (b + i) = some gi ∧ gi.nil = true
  | [], b, γ, g, hi, _, _ => ⟨γ, hi, Ext.refl _ _ _, fun i h => by simp at h⟩
  | o :: os, b, γ, g, hi, h, hf => by
    obtain ⟨h1, h2⟩ := hi.phantom (hf 0 (by simp)) (h o (List.mem_cons_self ..))
    obtain ⟨γ', k1, k2, k3⟩ := Inv.phantoms (os := os) (b := b + 1) h1 (fun x hx => h x (List.mem_cons_of_mem _ hx)) (fun i hi => by
      rw [upd_ne _ _ (by omega), Nat.add_assoc, Nat.add_comm 1 i]; exact hf (i + 1) (by simpa using hi))
    refine ⟨γ', k1, h2.trans k2, fun i hi => ?_⟩
    cases i with
    | zero =>
      refine ⟨_, k2.nam _ ⟨0, 0, 0, true⟩ ?_, rfl⟩
      simp [gUp]
    | succ i =>
      obtain ⟨gi, q1, q2⟩ := k3 i (by simpa using hi)
      exact ⟨gi, by rw [← q1]; congr 1; omega, q2⟩
theorem setAll_pairs : ∀ (os : List AObj) (b : Nat) (g : Nat → Option AObj) (m : Nat), m < b ∨ b + os.length ≤ m → setAll g (pairs b os) m = g m
  | [], _, _, _, _ => rfl
  | o :: os, b, g, m, h => by
    simp only [pairs, setAll]
    rw [setAll_pairs os (b + 1) _ m (by simp at h; omega), upd_ne _ _ (by simp at h; omega)]
theorem weak_nilRow {k : Nat} {st : St} (m b : Nat) (om : AObj) (r : List V) (os : List AObj) (hm : st.g m = some om) (hr : om.elems = [r]) (hmb : m < b) (hos : ∀ o ∈ os, o.elems = []) (hf : ∀ i, i < os.length → st.g (b + i) = none) (hc : nilCount r = os.length) :
    Weak k st { st with g := upd (setAll st.g (pairs b os)) m (some { om with elems := [nilCells b r], fl := 0 }) } := by
  intro w0 ex N a w I γ _ hs
  obtain ⟨γ', h1, h2, h3⟩ := hs.inv.phantoms (b := b) hos hf
  refine ⟨I, γ', hs.size, fun n => h2.rd (hs.slots n), h1.redo (o := om) (by rw [setAll_pairs _ _ _ _ (.inl hmb)]; exact hm) rfl (fun _ h => ?_) (fun i j u hu hut => ?_), hs.defers, hs.glob⟩
  rotate_left
  · obtain ⟨e, e1, e2⟩ := cellAt_some hu
    cases i with
    | succ i => simp at e1
    | zero =>
      simp at e1; subst e1
      rcases nilCells_get b r j u e2 with h | ⟨sz, q, q1, q2, q3⟩
      · rw [hr]; exact cellAt_mk rfl h
      · subst q2; cases hut
  have hget : ∀ i j u, cellAt [nilCells b r] i j = some u → i = 0 ∧ (cellAt om.elems 0 j = some u ∨ ∃ sz q, cellAt om.elems 0 j = some (.sl 0 sz []) ∧ u = .own (b + q) 0 0 ∧ q < os.length) := by
    intro i j u hu
    obtain ⟨e, h1, h2⟩ := cellAt_some hu
    cases i with
    | zero =>
      simp at h1; subst h1
      refine ⟨rfl, ?_⟩
      rw [hr]
      rcases nilCells_get b r j u h2 with h | ⟨sz, q, h1, h2, h3⟩
      · exact .inl (cellAt_mk rfl h)
      · exact .inr ⟨sz, q, cellAt_mk rfl h1, h2, by omega⟩
    | succ i => simp at h1
  refine ⟨fun e he => ?_, fun i j u hu => ?_, fun h0 => absurd rfl h0, fun h0 => by simp at h0, ?_⟩
  · simp at he; subst he
    rw [nilCells_len]
    exact h.rows r (by rw [hr]; simp)
  · obtain ⟨rfl, h4 | ⟨sz, q, h4, rfl, _⟩⟩ := hget i j u hu
    · exact h.cel _ _ _ h4
    · rfl
  · rcases h.at_ with ⟨he, _⟩ | ⟨gi, cur, fr, hγ, ha⟩
    · rw [hr] at he; cases he
    · refine .inr ⟨gi, cur, fr, hγ, ha.nn, ha.es, ha.heap, ha.frz, ha.size, by have := ha.le; rw [hr] at this; simpa using this, fun ht => by have := ha.tight ht; rw [hr] at this; simpa using this, ha.max, fun i j u hu => ?_, ha.ro, ha.rw⟩
      obtain ⟨rfl, h4 | ⟨sz, q, h4, rfl, h5⟩⟩ := hget i j u hu
      · exact ha.cells _ _ _ h4
      · obtain ⟨x, x1, x2⟩ := ha.cells _ _ _ h4
        obtain ⟨gi', g1, g2⟩ := h3 q h5
        refine ⟨x, x1, ?_⟩
        cases x2 with
        | nil => exact .ownnil _ _ _ gi' g1 g2
        | sl _ _ _ _ a n c xs h0 => exact absurd rfl h0
attribute [simp] nilCells pairs nilCount
end Go.Lift

/-
  A part of a function's code, and what stands behind it.
-/
namespace Go.Lift

/-- The part of a code at a path: 0 and 1 are the sides of a sequence or a condition; any number leads into a block or a loop. -/
def subC : List Nat → Code → Code
  | [], c => c
  | n :: p, .seq a b => if n = 0 then subC p a else subC p b
  | _ :: p, .block _ c => subC p c
  | n :: p, .cond _ a b => if n = 0 then subC p a else subC p b
  | _ :: p, .loop c => subC p c
  | _ :: _, c => c
/-- What must hold behind that part. -/
def contC (T : TypeId → Option TI) (C : FuncId → List V → List AObj → Option CRes) (k : Nat) : List Nat → Code → (Exit → St → Prop) → Exit → St → Prop
  | [], _, Q => Q
  | n :: p, .seq a b, Q => if n = 0 then contC T C k p a (fun e st' => match e with | .normal => axwp T C k b Q st' | e => Q e st') else contC T C k p b Q
  | _ :: p, .block id c, Q => contC T C k p c (fun e st' => match e with | .exit i => if i = id then Q .normal st' else Q (.exit i) st' | e => Q e st')
  | n :: p, .cond _ a b, Q => if n = 0 then contC T C k p a Q else contC T C k p b Q
  | _ :: _, _, Q => Q
theorem one_ne_zero' : (1 : Nat) = 0 ↔ False := by decide
attribute [simp] subC contC
/-- The code of a function. -/
def bodyC (f : Func) : Code := f.body.getD .skip
end Go.Lift

