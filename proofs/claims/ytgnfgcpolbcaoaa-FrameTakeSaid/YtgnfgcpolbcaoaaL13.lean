/-
  Behind a call: the objects of the frame as they are then.
-/
import Derived.Test.YtgnfgcpolbcaoaaL12
namespace Go.Lift

theorem setAll_spec : ∀ (l : List (Nat × AObj)) (g : Nat → Option AObj) (k : Nat), (∃ o, (k, o) ∈ l ∧ setAll g l k = some o) ∨ ((∀ o, (k, o) ∉ l) ∧ setAll g l k = g k)
  | [], g, k => .inr ⟨fun o h => by simp at h, rfl⟩
  | (n, o) :: l, g, k => by
    rcases setAll_spec l (upd g n (some o)) k with ⟨o', h1, h2⟩ | ⟨h1, h2⟩
    · exact .inl ⟨o', List.mem_cons_of_mem _ h1, h2⟩
    · by_cases e : k = n
      · subst e
        refine .inl ⟨o, List.mem_cons_self .., ?_⟩
        show setAll (upd g k (some o)) l k = some o
        rw [h2]; simp
      · refine .inr ⟨fun o' hm => ?_, ?_⟩
        · rcases List.mem_cons.1 hm with hm | hm
          · cases hm; exact e rfl
          · exact h1 o' hm
        · show setAll (upd g n (some o)) l k = g k
          rw [h2, upd_ne _ _ e]

theorem numbered_mem {nm : Nat} {f : Nat → Nat} : ∀ {l : List AObj} {j k : Nat} {o : AObj}, (k, o) ∈ numbered nm f j l → ∃ i o', l[i]? = some o' ∧ k = nm + (j + i) ∧ o = o'.ren f
  | [], j, k, o, h => by simp [numbered] at h
  | x :: l, j, k, o, h => by
    rcases List.mem_cons.1 h with h | h
    · cases h; exact ⟨0, x, rfl, rfl, rfl⟩
    · obtain ⟨i, o', h1, h2, h3⟩ := numbered_mem h
      exact ⟨i + 1, o', by simpa using h1, by omega, h3⟩
theorem mem_numbered {nm : Nat} {f : Nat → Nat} : ∀ {l : List AObj} {j i : Nat} {o' : AObj}, l[i]? = some o' → (nm + (j + i), o'.ren f) ∈ numbered nm f j l
  | [], j, i, o', h => by simp at h
  | x :: l, j, i, o', h => by
    cases i with
    | zero => simp at h; subst h; exact List.mem_cons_self ..
    | succ i =>
      have := mem_numbered (nm := nm) (f := f) (j := j + 1) (by simpa using h : l[i]? = some o')
      rw [show j + (i + 1) = j + 1 + i by omega]
      exact List.mem_cons_of_mem _ this

theorem freeze_mem {g : Nat → Option AObj} : ∀ {l : List Nat} {k : Nat} {o : AObj}, (k, o) ∈ freeze g l → k ∈ l ∧ ∃ o', g k = some o' ∧ o = { o' with md := .ro }
  | [], k, o, h => by simp [freeze] at h
  | n :: l, k, o, h => by
    simp only [freeze] at h
    split at h
    · rename_i o' hg
      rcases List.mem_cons.1 h with h | h
      · cases h; exact ⟨List.mem_cons_self .., o', hg, rfl⟩
      · obtain ⟨h1, h2⟩ := freeze_mem h; exact ⟨List.mem_cons_of_mem _ h1, h2⟩
    · obtain ⟨h1, h2⟩ := freeze_mem h; exact ⟨List.mem_cons_of_mem _ h1, h2⟩
theorem mem_freeze {g : Nat → Option AObj} : ∀ {l : List Nat} {k : Nat} {o : AObj}, k ∈ l → g k = some o → (k, { o with md := .ro }) ∈ freeze g l
  | [], k, o, h, _ => by simp at h
  | n :: l, k, o, h, hg => by
    simp only [freeze]
    rcases List.mem_cons.1 h with rfl | h
    · rw [hg]; exact List.mem_cons_self ..
    · split
      · exact List.mem_cons_of_mem _ (mem_freeze h hg)
      · exact mem_freeze h hg

theorem freshAll_spec {g : Nat → Option AObj} {nm : Nat} : ∀ {k : Nat}, freshAll g nm k = true → ∀ j, j < k → g (nm + j) = none
  | 0, _, j, h => by omega
  | k + 1, h, j, hj => by
    simp only [freshAll, Bool.and_eq_true, Option.isNone_iff_eq_none] at h
    by_cases e : j = k
    · subst e; exact h.1
    · exact freshAll_spec h.2 j (by omega)

theorem refObjs_spec {g : Nat → Option AObj} : ∀ {l : List Nat} {os : List AObj}, refObjs g l = some os → os.length = l.length ∧ ∀ (k : Nat) (n : Nat), l[k]? = some n → ∃ o, os[k]? = some o ∧ g n = some o ∧ o.md = .rw ∧ o.fl ≠ 0
  | [], os, h => by cases h; exact ⟨rfl, fun k n h => by simp at h⟩
  | m :: l, os, h => by
    simp only [refObjs] at h
    split at h
    · rename_i o os' h1 h2
      split at h
      · rename_i hc
        cases h
        obtain ⟨q1, q2⟩ := refObjs_spec h2
        refine ⟨by simp [q1], fun k n hk => ?_⟩
        cases k with
        | zero => simp at hk; subst hk; exact ⟨o, rfl, h1, hc⟩
        | succ k => simpa using q2 k n (by simpa using hk)
      · cases h
    · cases h

theorem ptrNames_nodup : ∀ l : List V, (ptrNames l).Nodup
  | [] => List.nodup_nil
  | v :: r => by
    cases v <;> simp only [ptrNames] <;> try exact ptrNames_nodup r
    split
    · exact ptrNames_nodup r
    · rename_i h
      exact List.nodup_cons.2 ⟨by simpa using h, ptrNames_nodup r⟩

theorem addNew_nodup : ∀ (r l : List Nat), l.Nodup → (addNew l r).Nodup
  | [], l, h => h
  | n :: r, l, h => by
    simp only [addNew]
    split
    · exact addNew_nodup r l h
    · rename_i hn
      exact addNew_nodup r _ (List.nodup_cons.2 ⟨by simpa using hn, h⟩)
theorem allNames_nodup (l : List V) : (allNames l).Nodup := addNew_nodup _ _ List.nodup_nil
theorem mem_addNew : ∀ {r l : List Nat} {n : Nat}, n ∈ l ∨ n ∈ r → n ∈ addNew l r
  | [], l, n, h => by rcases h with h | h; exact h; cases h
  | m :: r, l, n, h => by
    simp only [addNew]
    split
    · rename_i hm
      refine mem_addNew ?_
      rcases h with h | h
      · exact .inl h
      · rcases List.mem_cons.1 h with rfl | h
        · exact .inl (by simpa using hm)
        · exact .inr h
    · refine mem_addNew ?_
      rcases h with h | h
      · exact .inl (List.mem_cons_of_mem _ h)
      · rcases List.mem_cons.1 h with rfl | h
        · exact .inl (List.mem_cons_self ..)
        · exact .inr h

theorem noneOpen_spec : ∀ {l : List AObj}, noneOpen l = true → ∀ o ∈ l, o.fl ≠ 0
  | [], _, o, h => by simp at h
  | x :: l, h, o, ho => by
    simp only [noneOpen, Bool.and_eq_true, decide_eq_true_eq] at h
    rcases List.mem_cons.1 ho with rfl | ho
    · exact h.1
    · exact noneOpen_spec h.2 o ho
theorem allScalar_spec : ∀ {l : List AObj}, allScalar l = true → ∀ o ∈ l, o.fl = 2
  | [], _, o, h => by simp at h
  | x :: l, h, o, ho => by
    simp only [allScalar, Bool.and_eq_true, decide_eq_true_eq] at h
    rcases List.mem_cons.1 ho with rfl | ho
    · exact h.1
    · exact allScalar_spec h.2 o ho

theorem nodup_get : ∀ {l : List Nat}, l.Nodup → ∀ {i j n : Nat}, l[i]? = some n → l[j]? = some n → i = j
  | [], _, i, j, n, h, _ => by simp at h
  | x :: l, hnd, i, j, n, hi, hj => by
    obtain ⟨h1, h2⟩ := List.nodup_cons.1 hnd
    cases i with
    | zero =>
      cases j with
      | zero => rfl
      | succ j =>
        simp at hi hj
        subst hi
        exact absurd (List.mem_of_getElem? hj) h1
    | succ i =>
      cases j with
      | zero =>
        simp at hi hj
        subst hj
        exact absurd (List.mem_of_getElem? hi) h1
      | succ j =>
        have := nodup_get h2 (by simpa using hi) (by simpa using hj)
        omega

section
variable {w0 w w' : World} {ex : Ex} {I I' : Nat → Prop} {γ γ' γc : Nat → Option GI} {g : Nat → Option AObj} {refs bs : List Nat} {os : List AObj} {nm : Nat} {r : CRes} {v : Value}

/-- The frame's names behind the call. -/
def gAfter (γ γ' : Nat → Option GI) (nm k n : Nat) : Nat → Option GI := fun x => match γ x with | some gi => some gi | none => if nm ≤ x ∧ x < nm + n then γ' (k + (x - nm)) else none

/-- Entering the callee. -/
theorem enter_inv (hi : Inv w0 ex I γ g w) (hr : refObjs g refs = some os) (hnd : refs.Nodup) (hd : ∀ n ∈ bs, n ∉ refs) (halive : ∀ n ∈ bs, ∃ o, g n = some o ∧ o.md ≠ .dead) :
    Inv w ⟨exOf (fun k => (refs[k]?).bind γ) os.length, Ic I γ bs, fun k => (refs[k]?).bind γ⟩ (Ic I γ bs) (fun k => (refs[k]?).bind γ) (fun n => os[n]?) w := by
  obtain ⟨hlen, hob⟩ := refObjs_spec hr
  have look : ∀ (k : Nat) (o : AObj), os[k]? = some o → ∃ n, refs[k]? = some n ∧ g n = some o ∧ o.md = .rw ∧ o.fl ≠ 0 := by
    intro k o hk
    have hlt : k < refs.length := by rw [← hlen]; exact (List.getElem?_eq_some_iff.1 hk).1
    obtain ⟨o', h1, h2, h3, h4⟩ := hob k _ (List.getElem?_eq_getElem hlt)
    rw [hk] at h1; cases h1
    exact ⟨_, List.getElem?_eq_getElem hlt, h2, h3, h4⟩
  have hI : ∀ b, I b → Ic I γ bs b := fun b h => .inl h
  have hblk : ∀ n o gi, g n = some o → o.md ≠ .dead → γ n = some gi → gi.nil = false → gi.blk < w.heap.size := by
    intro n o gi h1 h2 h3 h4
    obtain ⟨cur, fr, ha⟩ := hi.at_own h1 h2 h3 h4
    exact (Array.getElem?_eq_some_iff.1 ha.heap).1
  refine ⟨fun k o hk hm => ?_, ?_, ?_, ?_, ?_, fun b hb => hb, fun n gi h => h, fun b hb => .inl hb, fun b _ _ => rfl, rfl, rfl, rfl, Nat.le_refl _⟩
  · obtain ⟨n, h1, h2, h3, h4⟩ := look k o hk
    have ho := hi.obj n o h2 hm
    refine ⟨ho.rows, ho.cel, ho.closed, ho.scalar, ?_⟩
    rcases ho.at_ with ⟨he, gi, q1, q2⟩ | ⟨gi, cur, fr, q1, ha⟩
    · exact .inl ⟨he, gi, by simp [h1, q1], q2⟩
    · refine .inr ⟨gi, cur, fr, by simp [h1, q1], ⟨ha.nn, ha.es, ha.heap, ha.frz, ha.size, ha.le, ha.tight, ha.max, fun i j u hu => ?_, fun hro => hI _ (ha.ro hro), fun hrw hb => ?_⟩⟩
      · obtain ⟨y, y1, y2⟩ := ha.cells _ _ _ hu
        exact ⟨y, y1, (y2.closed (ho.closed h4 _ _ u hu) _).wider hI⟩
      · rcases hb with hb | ⟨n', gi', b1, b2, b3, b4⟩
        · exact ha.rw hrw hb
        · obtain ⟨o', a1, a2⟩ := halive n' b1
          have := hi.inj n' n o' o gi' gi a1 h2 a2 hm b2 q1 b3 ha.nn b4
          subst this
          exact hd _ b1 (List.mem_of_getElem? h1)
  · intro a b o o' gi gi' h1 h2 d1 d2 g1 g2 n1 n2 hb
    obtain ⟨x, x1, x2, _⟩ := look a o h1
    obtain ⟨y, y1, y2, _⟩ := look b o' h2
    simp only [x1, Option.bind_some] at g1
    simp only [y1, Option.bind_some] at g2
    have := hi.inj x y o o' gi gi' x2 y2 d1 d2 g1 g2 n1 n2 hb
    subst this
    exact nodup_get hnd x1 y1
  · intro n o gi h1 _ h3 h4
    exact .inr ⟨n, gi, (List.getElem?_eq_some_iff.1 h1).1, h3, h4, rfl⟩
  · intro n gi h1
    cases hn : refs[n]? with
    | none => rw [hn] at h1; cases h1
    | some x =>
      obtain ⟨o, h2, _⟩ := hob n x hn
      rw [h2]; simp
  · intro b hb
    rcases hb with hb | ⟨n, gi, b1, b2, b3, b4⟩
    · exact hi.lt b hb
    · obtain ⟨o, a1, a2⟩ := halive n b1
      rw [← b4]; exact hblk n o gi a1 a2 b2 b3

/-- What the names of the callee's objects are in the frame. -/
theorem callNames_old {k n : Nat} (h : refs[k]? = some n) : callNames refs nm k = n := by simp [callNames, h]
theorem callNames_new {j : Nat} : callNames refs nm (refs.length + j) = nm + j := by
  simp [callNames]

theorem gAfter_old (k n : Nat) : ∀ x gi, γ x = some gi → gAfter γ γ' nm k n x = some gi := by
  intro x gi h
  simp [gAfter, h]
theorem gAfter_names {n : Nat} (hx : ∀ k x gi, refs[k]? = some x → γ' k = some gi → γ x = some gi) (hn : ∀ j, j < n → γ (nm + j) = none) (hd : ∀ k gi, γ' k = some gi → k < refs.length + n) :
    ∀ k gi, γ' k = some gi → gAfter γ γ' nm refs.length n (callNames refs nm k) = some gi := by
  intro k gi hk
  by_cases hlt : k < refs.length
  · have hr := List.getElem?_eq_getElem hlt
    rw [callNames_old hr]
    exact gAfter_old _ _ _ _ (hx k _ gi hr hk)
  · have hk' := hd k gi hk
    obtain ⟨j, rfl⟩ : ∃ j, k = refs.length + j := ⟨k - refs.length, by omega⟩
    rw [callNames_new]
    have hj : j < n := by omega
    simp only [gAfter, hn j hj]
    rw [if_pos ⟨by omega, by omega⟩, show refs.length + (nm + j - nm) = refs.length + j by omega]
    exact hk

/-- Behind the callee. -/
theorem leave_inv (hi : Inv w0 ex I γ g w) (hr : refObjs g refs = some os) (hd : ∀ n ∈ bs, n ∉ refs) (halive : ∀ n ∈ bs, ∃ o, g n = some o ∧ o.md ≠ .dead)
    (hL : Leave w (Ic I γ bs) (fun k => (refs[k]?).bind γ) os.length r w' I' γ' v) (hrl : refs.length ≤ r.objs.length) (hfr : ∀ j, j < (r.objs.drop refs.length).length → g (nm + j) = none) (hop : noneOpen (r.objs.take refs.length) = true)
    (I'' : Nat → Prop) (fz : List (Nat × AObj))
    (hI1 : ∀ b, I b → I'' b) (hI2 : ∀ b, I'' b → I' b)
    (hI3 : ∀ b, I' b → (w.heap.size ≤ b ∨ exOf (fun k => (refs[k]?).bind γ) os.length b) → I'' b)
    (hsc : (∀ o ∈ r.objs, o.fl = 2) ∨ ∀ b, I' b → I'' b)
    (hfz : (fz = [] ∧ (bs = [] ∨ ∀ b, I'' b → I b ∨ w.heap.size ≤ b ∨ exOf (fun k => (refs[k]?).bind γ) os.length b)) ∨ (fz = freeze g bs ∧ ∀ b, I' b → I'' b)) :
    Inv w0 ex I'' (gAfter γ γ' nm refs.length (r.objs.drop refs.length).length)
      (setAll g (refs.zip (r.objs.take refs.length) ++ numbered nm (callNames refs nm) 0 (r.objs.drop refs.length) ++ fz)) w' ∧
    Ext I γ w I'' (gAfter γ γ' nm refs.length (r.objs.drop refs.length).length) w' := by
  obtain ⟨hlen, hob⟩ := refObjs_spec hr
  have hext : Ext I γ w I'' (gAfter γ γ' nm refs.length (r.objs.drop refs.length).length) w' :=
    ⟨fun b hb => ⟨hI1 b hb, (hL.ext.imm b (.inl hb)).2⟩, gAfter_old _ _⟩
  have hγn : ∀ j, j < (r.objs.drop refs.length).length → γ (nm + j) = none := by
    intro j hj
    cases hx : γ (nm + j) with
    | none => rfl
    | some x => exact absurd (hfr j hj) (hi.dom _ x hx)
  have hrefγ : ∀ (k x : Nat), refs[k]? = some x → ∃ gi, γ x = some gi ∧ γ' k = some gi := by
    intro k x hk
    obtain ⟨o, o1, o2, o3, o4⟩ := hob k x hk
    have : ∃ gi, γ x = some gi := by
      rcases (hi.obj x o o2 (by rw [o3]; decide)).at_ with ⟨_, gi, q, _⟩ | ⟨gi, _, _, q, _⟩ <;> exact ⟨gi, q⟩
    obtain ⟨gi, hg⟩ := this
    exact ⟨gi, hg, hL.ext.nam k gi (by simp [hk, hg])⟩
  have hnames := gAfter_names (γ := γ) (γ' := γ') (nm := nm) (refs := refs) (n := (r.objs.drop refs.length).length) (fun k x gi hk hx => by
      obtain ⟨gi', h1, h2⟩ := hrefγ k x hk
      rw [hx] at h2; cases h2; exact h1) hγn (fun k gi hk => by
      have := hL.inv.dom k gi hk
      rw [List.length_drop]
      have hlt : k < r.objs.length := by
        rcases Nat.lt_or_ge k r.objs.length with h | h
        · exact h
        · exact absurd (List.getElem?_eq_none h) this
      omega)
  have hcn : ∀ (k : Nat) (o' : AObj), r.objs[k]? = some o' → k < refs.length → o'.ren (callNames refs nm) = o' := by
    intro k o' hk hlt
    exact AObj.ren_eq (noneOpen_spec hop o' (List.mem_of_getElem? (by rw [List.getElem?_take, if_pos hlt]; exact hk)))
  have hzip : ∀ (x : Nat) (o : AObj), (x, o) ∈ refs.zip (r.objs.take refs.length) → ∃ k : Nat, refs[k]? = some x ∧ r.objs[k]? = some o := by
    intro x o hm
    obtain ⟨k, hk, hkv⟩ := List.mem_iff_getElem.1 hm
    rw [List.getElem_zip] at hkv
    simp only [Prod.mk.injEq] at hkv
    have hk' := hk
    simp only [List.length_zip, List.length_take] at hk'
    refine ⟨k, by rw [← hkv.1]; exact List.getElem?_eq_getElem (by omega), ?_⟩
    rw [← hkv.2, List.getElem_take]
    exact List.getElem?_eq_getElem (by omega)
  have hgref : ∀ (k x : Nat), refs[k]? = some x → g x ≠ none := fun k x hk => by
    obtain ⟨o, _, h2, _⟩ := hob k x hk; rw [h2]; simp
  have hfzm : ∀ x o, (x, o) ∈ fz → x ∈ bs ∧ fz = freeze g bs ∧ ∃ o0, g x = some o0 ∧ o = { o0 with md := .ro } := by
    intro x o hm
    rcases hfz with ⟨rfl, _⟩ | ⟨rfl, _⟩
    · cases hm
    · obtain ⟨h1, h2⟩ := freeze_mem hm; exact ⟨h1, rfl, h2⟩
  generalize hG : setAll g (refs.zip (r.objs.take refs.length) ++ numbered nm (callNames refs nm) 0 (r.objs.drop refs.length) ++ fz) = G
  have look : ∀ x o, G x = some o → (∃ (k : Nat) (o' : AObj), r.objs[k]? = some o' ∧ x = callNames refs nm k ∧ o = o'.ren (callNames refs nm)) ∨
      (x ∉ refs ∧ (∀ j, j < (r.objs.drop refs.length).length → x ≠ nm + j) ∧ ∃ o0, g x = some o0 ∧ ((o = o0 ∧ (fz = freeze g bs → x ∉ bs)) ∨ (o = { o0 with md := .ro } ∧ x ∈ bs ∧ fz = freeze g bs))) := by
    intro x o hx
    rw [← hG] at hx
    rcases setAll_spec (refs.zip (r.objs.take refs.length) ++ numbered nm (callNames refs nm) 0 (r.objs.drop refs.length) ++ fz) g x with ⟨o', h1, h2⟩ | ⟨h1, h2⟩
    · rw [hx] at h2; cases h2
      rcases List.mem_append.1 h1 with h1 | h1
      · rcases List.mem_append.1 h1 with h1 | h1
        · obtain ⟨k, k1, k2⟩ := hzip x o h1
          have hlt : k < refs.length := (List.getElem?_eq_some_iff.1 k1).1
          exact .inl ⟨k, o, k2, (callNames_old k1).symm, (hcn k o k2 hlt).symm⟩
        · obtain ⟨i, o', i1, i2, i3⟩ := numbered_mem h1
          refine .inl ⟨refs.length + i, o', by rw [List.getElem?_drop] at i1; exact i1, ?_, i3⟩
          rw [callNames_new, i2, Nat.zero_add]
      · obtain ⟨q1, q2, o0, q3, q4⟩ := hfzm x o h1
        refine .inr ⟨hd x q1, fun j hj e => ?_, o0, q3, .inr ⟨q4, q1, q2⟩⟩
        rw [e, hfr j hj] at q3; cases q3
    · rw [hx] at h2
      refine .inr ⟨fun hm => ?_, fun j hj e => ?_, o, h2.symm, .inl ⟨rfl, fun hz hm => ?_⟩⟩
      · obtain ⟨k, hk, hkv⟩ := List.mem_iff_getElem.1 hm
        have hk' : k < (r.objs.take refs.length).length := by rw [List.length_take]; omega
        refine h1 (r.objs.take refs.length)[k] (List.mem_append_left _ (List.mem_append_left _ ?_))
        rw [← hkv, ← List.getElem_zip (h := by rw [List.length_zip]; omega)]
        exact List.getElem_mem _
      · rw [e, hfr j hj] at h2; cases h2
      · exact h1 _ (List.mem_append_right _ (by rw [hz]; exact mem_freeze hm h2.symm))
  have some_of : ∀ x, G x = none → g x = none ∧ ∀ j, j < (r.objs.drop refs.length).length → x ≠ nm + j := by
    intro x hx
    rw [← hG] at hx
    rcases setAll_spec (refs.zip (r.objs.take refs.length) ++ numbered nm (callNames refs nm) 0 (r.objs.drop refs.length) ++ fz) g x with ⟨o', h1, h2⟩ | ⟨h1, h2⟩
    · rw [hx] at h2; cases h2
    · refine ⟨by rw [← h2]; exact hx, fun j hj e => ?_⟩
      have := mem_numbered (nm := nm) (f := callNames refs nm) (j := 0) (List.getElem?_eq_getElem hj)
      rw [Nat.zero_add, ← e] at this
      exact h1 _ (List.mem_append_left _ (List.mem_append_right _ this))
  have outγ : ∀ x gi, (∀ j, j < (r.objs.drop refs.length).length → x ≠ nm + j) → gAfter γ γ' nm refs.length (r.objs.drop refs.length).length x = some gi → γ x = some gi := by
    intro x gi hx h
    unfold gAfter at h
    cases hγ : γ x with
    | some y => rw [hγ] at h; exact h
    | none =>
      rw [hγ] at h
      simp only at h
      split at h
      · rename_i hr'; exact absurd (by omega : x = nm + (x - nm)) (hx (x - nm) (by omega))
      · cases h
  have knownγ : ∀ (k : Nat) (o' : AObj), r.objs[k]? = some o' → o'.md ≠ .dead → ∃ gi, γ' k = some gi ∧ gAfter γ γ' nm refs.length (r.objs.drop refs.length).length (callNames refs nm k) = some gi := by
    intro k o' hk hm
    have : ∃ gi, γ' k = some gi := by
      rcases (hL.inv.obj k o' hk hm).at_ with ⟨_, gi, q, _⟩ | ⟨gi, _, _, q, _⟩ <;> exact ⟨gi, q⟩
    obtain ⟨gi, h⟩ := this
    exact ⟨gi, h, hnames k gi h⟩
  have outblk : ∀ x o0 gi, x ∉ refs → g x = some o0 → o0.md ≠ .dead → γ x = some gi → gi.nil = false → gi.blk < w.heap.size ∧ ¬ exOf (fun k => (refs[k]?).bind γ) os.length gi.blk := by
    intro x o0 gi h1 h2 h3 h4 h5
    obtain ⟨cur, fr, ha⟩ := hi.at_own h2 h3 h4 h5
    refine ⟨(Array.getElem?_eq_some_iff.1 ha.heap).1, fun ⟨k, gi', k1, k2, k3, k4⟩ => ?_⟩
    replace k2 : (refs[k]?).bind γ = some gi' := k2
    cases hk : refs[k]? with
    | none => rw [hk] at k2; cases k2
    | some y =>
      rw [hk] at k2
      obtain ⟨o, _, o2, o3, _⟩ := hob k y hk
      have := hi.inj y x o o0 gi' gi o2 h2 (by rw [o3]; decide) h3 k2 h4 k3 h5 k4
      subst this
      exact h1 (List.mem_of_getElem? hk)
  have hback : ∀ b, I' b → Ic I γ bs b ∨ w.heap.size ≤ b ∨ exOf (fun k => (refs[k]?).bind γ) os.length b := hL.inv.back
  have exown : ∀ b, exOf (fun k => (refs[k]?).bind γ) os.length b → w0.heap.size ≤ b ∨ ex.wr b := by
    rintro b ⟨k, gi', k1, k2, k3, rfl⟩
    replace k2 : (refs[k]?).bind γ = some gi' := k2
    cases hk : refs[k]? with
    | none => rw [hk] at k2; cases k2
    | some y =>
      rw [hk] at k2
      obtain ⟨o, _, o2, o3, _⟩ := hob k y hk
      exact hi.own y o gi' o2 (by rw [o3]; decide) k2 k3
  refine ⟨⟨fun x o hx hm => ?_, ?_, ?_, ?_, fun b hb => hL.inv.lt b (hI2 b hb), fun b hb => hI1 b (hi.keep b hb), fun n gi h => gAfter_old _ _ n gi (hi.fix n gi h), fun b hb => ?_, fun b hb hx => ?_, hL.inv.os.trans hi.os, hL.inv.tape.trans hi.tape, hL.inv.output.trans hi.output, Nat.le_trans hi.size hL.inv.size⟩, hext⟩
  · rcases look x o hx with ⟨k, o', h1, rfl, rfl⟩ | ⟨h1, h2, o0, h3, h4⟩
    · rw [AObj.ren_md] at hm
      have hk := (hL.inv.obj k o' h1 hm).ren (f := callNames refs nm) hnames
      refine ⟨hk.rows, hk.cel, hk.closed, hk.scalar, ?_⟩
      rcases hk.at_ with h | ⟨gi, cur, fr, hγ, ha⟩
      · exact .inl h
      · refine .inr ⟨gi, cur, fr, hγ, ⟨ha.nn, ha.es, ha.heap, ha.frz, ha.size, ha.le, ha.tight, ha.max, fun i j u hu => ?_, fun hro => ?_, fun hrw hb => ha.rw hrw (hI2 _ hb)⟩⟩
        · obtain ⟨y, y1, y2⟩ := ha.cells _ _ _ hu
          refine ⟨y, y1, ?_⟩
          rcases hsc with hsc | hsc
          · have hfl : (o'.ren (callNames refs nm)).fl = 2 := by
              have h2 := hsc o' (List.mem_of_getElem? h1)
              rw [AObj.ren_eq (by omega)]; exact h2
            exact y2.scalar (hk.scalar (by omega) _ _ u hu) _ _
          · exact y2.wider hsc
        · obtain ⟨gi', q1, q2⟩ := knownγ k o' h1 hm
          rw [hγ] at q2; cases q2
          exact hI3 _ (ha.ro hro) (hL.inv.own k o' gi h1 hm q1 ha.nn)
    · have hm0 : o0.md ≠ .dead := by
        rcases h4 with ⟨rfl, _⟩ | ⟨rfl, hb, _⟩
        · exact hm
        · obtain ⟨o1, a1, a2⟩ := halive x hb
          rw [h3] at a1; cases a1; exact a2
      have hk := hi.obj x o0 h3 hm0
      have hat : (o0.elems = [] ∧ ∃ gi, gAfter γ γ' nm refs.length (r.objs.drop refs.length).length x = some gi ∧ gi.nil = true) ∨ ∃ gi cur fr, gAfter γ γ' nm refs.length (r.objs.drop refs.length).length x = some gi ∧ ObjAt w' I'' (gAfter γ γ' nm refs.length (r.objs.drop refs.length).length) o gi cur fr := by
        rcases hk.at_ with ⟨he, gi, q1, q2⟩ | ⟨gi, cur, fr, q1, ha⟩
        · exact .inl ⟨he, gi, hext.nam _ _ q1, q2⟩
        · obtain ⟨b1, b2⟩ := outblk x o0 gi h1 h3 hm0 q1 ha.nn
          have hheap : w'.heap[gi.blk]? = w.heap[gi.blk]? := hL.inv.frame _ b1 b2
          refine .inr ⟨gi, cur, fr, hext.nam _ _ q1, ?_⟩
          rcases h4 with ⟨rfl, hnb⟩ | ⟨rfl, hb, hz⟩
          · refine ha.ext hext hheap fun hrw hb => ?_
            have hcase : I gi.blk ∨ w.heap.size ≤ gi.blk ∨ exOf (fun k => (refs[k]?).bind γ) os.length gi.blk := by
              rcases hfz with ⟨hz, hor⟩ | ⟨hz, _⟩
              · rcases hor with hor | hor
                · rcases hback _ (hI2 _ hb) with h | h
                  · rcases h with h | ⟨n, _, hn, _⟩
                    · exact .inl h
                    · rw [hor] at hn; cases hn
                  · exact .inr h
                · exact hor _ hb
              · rcases hback _ (hI2 _ hb) with h | h
                · rcases h with h | ⟨n, gi', hn, n1, n2, n3⟩
                  · exact .inl h
                  · obtain ⟨o1, a1, a2⟩ := halive n hn
                    have := hi.inj n x o1 o gi' gi a1 h3 a2 hm0 n1 q1 n2 ha.nn n3
                    subst this
                    exact absurd hn (hnb hz)
                · exact .inr h
            rcases hcase with h | h | h
            · exact ha.rw hrw h
            · omega
            · exact b2 h
          · refine ⟨ha.nn, ha.es, hheap.trans ha.heap, ha.frz, ha.size, ha.le, ha.tight, ha.max, fun i j u hu => ?_, fun _ => ?_, fun h => by cases h⟩
            · obtain ⟨y, y1, y2⟩ := ha.cells i j u hu
              exact ⟨y, y1, hext.rd y2⟩
            · have hII : ∀ b, I' b → I'' b := by
                rcases hfz with ⟨hz', hor⟩ | ⟨_, h⟩
                · exfalso
                  have := mem_freeze hb h3
                  rw [← hz, hz'] at this; cases this
                · exact h
              exact hII _ (hL.ext.imm _ (.inr ⟨x, gi, hb, q1, ha.nn, rfl⟩)).1
      rcases h4 with ⟨rfl, _⟩ | ⟨rfl, _, _⟩
      · exact ⟨hk.rows, hk.cel, hk.closed, hk.scalar, hat⟩
      · exact ⟨hk.rows, hk.cel, hk.closed, hk.scalar, hat⟩
  · intro x y o1 o2 gi1 gi2 h1 h2 d1 d2 g1 g2 n1 n2 hb
    have known : ∀ (k : Nat) (o' : AObj), r.objs[k]? = some o' → (o'.ren (callNames refs nm)).md ≠ .dead → ∀ gi, gAfter γ γ' nm refs.length (r.objs.drop refs.length).length (callNames refs nm k) = some gi → gi.nil = false → γ' k = some gi ∧ (w.heap.size ≤ gi.blk ∨ exOf (fun k => (refs[k]?).bind γ) os.length gi.blk) := by
      intro k o' hk hm gi hgi hnn
      rw [AObj.ren_md] at hm
      obtain ⟨gi', q1, q2⟩ := knownγ k o' hk hm
      rw [hgi] at q2; cases q2
      exact ⟨q1, hL.inv.own k o' gi hk hm q1 hnn⟩
    have out : ∀ z o o0 gi, z ∉ refs → (∀ j, j < (r.objs.drop refs.length).length → z ≠ nm + j) → g z = some o0 → o.md ≠ .dead → ((o = o0 ∧ (fz = freeze g bs → z ∉ bs)) ∨ (o = { o0 with md := .ro } ∧ z ∈ bs ∧ fz = freeze g bs)) → gAfter γ γ' nm refs.length (r.objs.drop refs.length).length z = some gi → gi.nil = false →
        γ z = some gi ∧ o0.md ≠ .dead ∧ gi.blk < w.heap.size ∧ ¬ exOf (fun k => (refs[k]?).bind γ) os.length gi.blk := by
      intro z o o0 gi q1 q2 q3 q4 q5 q6 q7
      have hm0 : o0.md ≠ .dead := by
        rcases q5 with ⟨rfl, _⟩ | ⟨rfl, hb, _⟩
        · exact q4
        · obtain ⟨o1, a1, a2⟩ := halive z hb
          rw [q3] at a1; cases a1; exact a2
      have hγ := outγ z gi q2 q6
      exact ⟨hγ, hm0, outblk z o0 gi q1 q3 hm0 hγ q7⟩
    rcases look x o1 h1 with ⟨k, o', k1, rfl, rfl⟩ | ⟨p1, p2, o0, p3, p4⟩
    · obtain ⟨a1, a2⟩ := known k o' k1 d1 gi1 g1 n1
      rcases look y o2 h2 with ⟨l, o'', l1, rfl, rfl⟩ | ⟨p1, p2, o0, p3, p4⟩
      · obtain ⟨b1, b2⟩ := known l o'' l1 d2 gi2 g2 n2
        rw [AObj.ren_md] at d1 d2
        rw [hL.inv.inj k l o' o'' gi1 gi2 k1 l1 d1 d2 a1 b1 n1 n2 hb]
      · obtain ⟨c1, c2, c3, c4⟩ := out y o2 o0 gi2 p1 p2 p3 d2 p4 g2 n2
        rw [hb] at a2
        rcases a2 with a2 | a2
        · omega
        · exact absurd a2 c4
    · obtain ⟨c1, c2, c3, c4⟩ := out x o1 o0 gi1 p1 p2 p3 d1 p4 g1 n1
      rcases look y o2 h2 with ⟨l, o'', l1, rfl, rfl⟩ | ⟨q1, q2, o0', q3, q4⟩
      · obtain ⟨b1, b2⟩ := known l o'' l1 d2 gi2 g2 n2
        rw [← hb] at b2
        rcases b2 with b2 | b2
        · omega
        · exact absurd b2 c4
      · obtain ⟨e1, e2, e3, e4⟩ := out y o2 o0' gi2 q1 q2 q3 d2 q4 g2 n2
        exact hi.inj x y o0 o0' gi1 gi2 p3 q3 c2 e2 c1 e1 n1 n2 hb
  · intro x o gi hx hm hγ hnn
    rcases look x o hx with ⟨k, o', k1, rfl, rfl⟩ | ⟨p1, p2, o0, p3, p4⟩
    · rw [AObj.ren_md] at hm
      obtain ⟨gi', q1, q2⟩ := knownγ k o' k1 hm
      rw [hγ] at q2; cases q2
      rcases hL.inv.own k o' gi k1 hm q1 hnn with h | h
      · exact .inl (Nat.le_trans hi.size h)
      · exact exown _ h
    · have hm0 : o0.md ≠ .dead := by
        rcases p4 with ⟨rfl, _⟩ | ⟨rfl, hb, _⟩
        · exact hm
        · obtain ⟨o1, a1, a2⟩ := halive x hb
          rw [p3] at a1; cases a1; exact a2
      exact hi.own x o0 gi p3 hm0 (outγ x gi p2 hγ) hnn
  · intro x gi hγ hx
    obtain ⟨h1, h2⟩ := some_of x hx
    exact hi.dom x gi (outγ x gi h2 hγ) h1
  · rcases hback b (hI2 b hb) with h | h | h
    · rcases h with h | ⟨n, gi, b1, b2, b3, b4⟩
      · exact hi.back b h
      · obtain ⟨o, a1, a2⟩ := halive n b1
        rw [← b4]; exact .inr (hi.own n o gi a1 a2 b2 b3)
    · exact .inr (.inl (Nat.le_trans hi.size h))
    · exact .inr (exown b h)
  · have hb' : b < w.heap.size := Nat.lt_of_lt_of_le hb hi.size
    rw [hL.inv.frame b hb' ?_]
    · exact hi.frame b hb hx
    · rintro ⟨k, gi', k1, k2, k3, rfl⟩
      replace k2 : (refs[k]?).bind γ = some gi' := k2
      cases hk : refs[k]? with
      | none => rw [hk] at k2; cases k2
      | some y =>
        rw [hk] at k2
        obtain ⟨o, _, o2, o3, _⟩ := hob k y hk
        rcases hi.own y o gi' o2 (by rw [o3]; decide) k2 k3 with h | h
        · omega
        · exact hx h
end
end Go.Lift
