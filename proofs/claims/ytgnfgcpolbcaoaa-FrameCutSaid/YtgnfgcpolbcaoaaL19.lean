/-
  A function's specification from a run over data; states that say less.
-/
import Derived.Test.YtgnfgcpolbcaoaaL18
namespace Go.Lift

variable {P : Program} {T : TypeId → Option TI} {C : FuncId → List V → List AObj → Option CRes}

/-- The names in data are among those of D. -/
def V.within (D : Nat → Bool) : V → Bool
  | .own nm _ _ => D nm
  | .ptr nm _ _ => D nm
  | .agg cs | .tup cs => withinAll D cs
  | _ => true
where withinAll (D : Nat → Bool) : List V → Bool
  | [] => true
  | c :: cs => c.within D && withinAll D cs
def AObj.within (D : Nat → Bool) (o : AObj) : Bool := decide (o.fl ≠ 0) || o.elems.all (V.within.withinAll D)

theorem V.withinAll_get {D : Nat → Bool} : ∀ {cs : List V}, V.within.withinAll D cs = true → ∀ (j : Nat) (u : V), cs[j]? = some u → u.within D = true
  | [], _, j, u, h => by simp at h
  | c :: cs, hc, j, u, h => by
    simp only [V.within.withinAll, Bool.and_eq_true] at hc
    cases j with
    | zero => simp at h; subst h; exact hc.1
    | succ j => exact V.withinAll_get hc.2 j u (by simpa using h)

theorem Rd.unren {w : World} {I : Nat → Prop} {γ γ' : Nat → Option GI} {f : Nat → Nat} {D : Nat → Bool} {u : V} {x : Value} (h : Rd w I γ u x) : ∀ v : V, v.ren f = u → v.within D = true → (∀ n, D n = true → γ' n = γ (f n)) → Rd w I γ' v x := by
  induction h with
  | junk => intro v e _ _; cases v <;> simp [V.ren] at e; exact .junk _ _
  | int => intro v e _ _; cases v <;> simp [V.ren] at e; obtain ⟨rfl, rfl⟩ := e; exact .int _ _ _
  | bool => intro v e _ _; cases v <;> simp [V.ren] at e; subst e; exact .bool _ _
  | str => intro v e _ _; cases v <;> simp [V.ren] at e; subst e; exact .str _ _
  | nil _ t es h => intro v e _ _; cases v <;> simp [V.ren] at e; obtain ⟨rfl, rfl, rfl⟩ := e; exact .nil _ _ _ h
  | sl _ tag es elems a n c xs h0 h1 hlen hnc hcm hes hcel hc hr ih =>
    intro v e _ _; cases v <;> simp [V.ren] at e; obtain ⟨rfl, rfl, rfl⟩ := e; exact .sl _ _ _ _ a n c xs h0 h1 hlen hnc hcm hes hcel hc hr
  | own _ nm off n c o gi hγ hnn hcap hn hcm ho =>
    intro v e hd hg; cases v <;> simp [V.ren] at e
    obtain ⟨rfl, rfl, rfl⟩ := e
    exact .own _ _ _ _ _ _ gi ((hg _ hd).trans hγ) hnn hcap hn hcm ho
  | ownnil _ nm A gi hγ hnn =>
    intro v e hd hg; cases v <;> simp [V.ren] at e
    obtain ⟨rfl, rfl, rfl⟩ := e
    exact .ownnil _ _ A gi ((hg _ hd).trans hγ) hnn
  | ptr _ nm i j gi hγ hnn =>
    intro v e hd hg; cases v <;> simp [V.ren] at e
    obtain ⟨rfl, rfl, rfl⟩ := e
    exact .ptr _ _ _ _ gi ((hg _ hd).trans hγ) hnn
  | pp _ cells a xs hc hr ih => intro v e _ _; cases v <;> simp [V.ren] at e; subst e; exact .pp _ _ a xs hc hr
  | pnil => intro v e _ _; cases v <;> simp [V.ren] at e; exact .pnil _
  | agg _ cells xs hl hr ih =>
    intro v e hd hg
    cases v <;> simp [V.ren] at e
    rename_i cs
    subst e
    refine .agg _ _ _ ((renAll_len f cs).symm.trans hl) fun j u x hu hx => ?_
    exact ih j (u.ren f) x (by rw [renAll_get, hu]; rfl) hx u rfl (V.withinAll_get hd j u hu) hg
  | tup _ cells xs hl hr ih =>
    intro v e hd hg
    cases v <;> simp [V.ren] at e
    rename_i cs
    subst e
    refine .tup _ _ _ ((renAll_len f cs).symm.trans hl) fun j u x hu hx => ?_
    exact ih j (u.ren f) x (by rw [renAll_get, hu]; rfl) hx u rfl (V.withinAll_get hd j u hu) hg
  | fn => intro v e _ _; cases v <;> simp [V.ren] at e; subst e; exact .fn _ _
  | anyB => intro v e _ _; cases v <;> simp [V.ren] at e; exact .anyB _ _

/-- Objects under fewer, other names. -/
theorem Inv.unren {w0 w : World} {ex I γ g} (h : Inv w0 ex I γ g w) {f : Nat → Nat} {g' : Nat → Option AObj} (hg : ∀ n o, g' n = some o → g (f n) = some (o.ren f)) (hinj : ∀ n m o o', g' n = some o → g' m = some o' → f n = f m → n = m)
    (hw : ∀ n o, g' n = some o → o.within (fun n => (g' n).isSome) = true) (hfix : ∀ n gi, ex.fix n = some gi → f n = n ∧ (g' n).isSome = true) :
    Inv w0 ex I (fun n => if (g' n).isSome = true then γ (f n) else none) g' w := by
  have hD : ∀ n, (fun n => (g' n).isSome) n = true → (fun n => if (g' n).isSome = true then γ (f n) else none) n = γ (f n) := by
    intro n hn; simp only at hn ⊢; rw [if_pos hn]
  have gat : ∀ n o, g' n = some o → (if (g' n).isSome = true then γ (f n) else none) = γ (f n) := by
    intro n o hn; rw [hn]; rfl
  refine ⟨fun n o hn hm => ?_, ?_, ?_, ?_, h.lt, h.keep, fun n gi hn => ?_, h.back, h.frame, h.os, h.tape, h.output, h.size⟩
  · have ho := h.obj (f n) (o.ren f) (hg n o hn) (by rw [AObj.ren_md]; exact hm)
    by_cases hfl : o.fl = 0
    · have hr : o.ren f = { o with elems := o.elems.map (V.ren.renAll f) } := by unfold AObj.ren; rw [if_pos hfl]
      rw [hr] at ho
      have hwn := hw n o hn
      simp only [AObj.within, hfl, ne_eq, not_true, decide_false, Bool.false_or] at hwn
      have wcell : ∀ i j u, cellAt o.elems i j = some u → u.within (fun n => (g' n).isSome) = true := by
        intro i j u hu
        obtain ⟨r, h1, h2⟩ := cellAt_some hu
        exact V.withinAll_get (List.all_eq_true.1 hwn r (List.mem_of_getElem? h1)) j u h2
      have rencell : ∀ i j u, cellAt o.elems i j = some u → cellAt (o.elems.map (V.ren.renAll f)) i j = some (u.ren f) := by
        intro i j u hu
        obtain ⟨r, h1, h2⟩ := cellAt_some hu
        exact cellAt_mk (e := V.ren.renAll f r) (by rw [List.getElem?_map, h1]; rfl) (by rw [renAll_get, h2]; rfl)
      refine ⟨fun r hr => ?_, fun i j u hu => ?_, fun hf => absurd hfl hf, fun hf => by omega, ?_⟩
      · rw [← renAll_len f r]; exact ho.rows _ (List.mem_map.2 ⟨r, hr, rfl⟩)
      · rw [← ren_cellular f u]; exact ho.cel i j _ (rencell i j u hu)
      · rcases ho.at_ with ⟨he, gi, h1, h2⟩ | ⟨gi, cur, fr, h1, ha⟩
        · exact .inl ⟨by simpa using he, gi, (gat n o hn).trans h1, h2⟩
        · refine .inr ⟨gi, cur, fr, (gat n o hn).trans h1, ⟨ha.nn, ha.es, ha.heap, ha.frz, ha.size, by simpa using ha.le, fun ht => by simpa using ha.tight ht, ha.max, fun i j u hu => ?_, ha.ro, ha.rw⟩⟩
          obtain ⟨y, y1, y2⟩ := ha.cells i j _ (rencell i j u hu)
          exact ⟨y, y1, y2.unren u rfl (wcell i j u hu) hD⟩
    · rw [AObj.ren_eq hfl] at ho
      refine ⟨ho.rows, ho.cel, ho.closed, ho.scalar, ?_⟩
      rcases ho.at_ with ⟨he, gi, h1, h2⟩ | ⟨gi, cur, fr, h1, ha⟩
      · exact .inl ⟨he, gi, (gat n o hn).trans h1, h2⟩
      · refine .inr ⟨gi, cur, fr, (gat n o hn).trans h1, ⟨ha.nn, ha.es, ha.heap, ha.frz, ha.size, ha.le, ha.tight, ha.max, fun i j u hu => ?_, ha.ro, ha.rw⟩⟩
        obtain ⟨y, y1, y2⟩ := ha.cells i j u hu
        exact ⟨y, y1, y2.closed (ho.closed hfl i j u hu) _⟩
  · intro n m o o' gi gi' h1 h2 d1 d2 g1 g2 n1 n2 hb
    rw [gat n o h1] at g1; rw [gat m o' h2] at g2
    exact hinj n m o o' h1 h2 (h.inj (f n) (f m) _ _ gi gi' (hg n o h1) (hg m o' h2) (by rw [AObj.ren_md]; exact d1) (by rw [AObj.ren_md]; exact d2) g1 g2 n1 n2 hb)
  · intro n o gi h1 d1 g1 n1
    rw [gat n o h1] at g1
    exact h.own (f n) _ gi (hg n o h1) (by rw [AObj.ren_md]; exact d1) g1 n1
  · intro n gi h1 h2
    rw [h2] at h1
    cases h1
  · obtain ⟨e1, e2⟩ := hfix n gi hn
    rw [if_pos e2, e1]; exact h.fix n gi hn

theorem weak_ren {k : Nat} (f : Nat → Nat) {st st' : St} (hs : ∀ n, st'.s n = .junk ∨ (st.s n = (st'.s n).ren f ∧ (st'.s n).within (fun n => (st'.g n).isSome) = true)) (hg : ∀ n o, st'.g n = some o → st.g (f n) = some (o.ren f))
    (hinj : ∀ n m o o', st'.g n = some o → st'.g m = some o' → f n = f m → n = m) (hw : ∀ n o, st'.g n = some o → o.within (fun n => (st'.g n).isSome) = true) (hfix : ∀ n, n < k → f n = n ∧ (st'.g n).isSome = true) : Weak k st st' := by
  intro w0 ex N a w I γ hk h
  refine ⟨I, _, h.size, fun n => ?_, h.inv.unren hg hinj hw (fun n gi hn => hfix n (Nat.lt_of_not_le fun hle => by rw [hk n hle] at hn; cases hn)), h.defers⟩
  rcases hs n with e | ⟨e, e2⟩
  · rw [e]; exact .junk _ _
  · have := h.slots n
    rw [e] at this
    exact this.unren _ rfl e2 (fun m hm => by rw [if_pos hm])

/-- The nil slice as a slice of an object of the frame. -/
theorem weak_nil {k : Nat} {st : St} (i n : Nat) {sz : Nat} (o : AObj) (hi : st.s i = .sl 0 sz []) (hn : st.g n = none) (he : o.elems = []) : Weak k st { st with s := upd st.s i (.own n 0 0), g := upd st.g n (some o) } := by
  intro w0 ex N a w I γ _ h
  obtain ⟨h1, h2⟩ := h.inv.phantom hn he
  refine ⟨I, _, h.size, fun m => ?_, h1, h.defers⟩
  by_cases e : m = i
  · subst e
    simp only [upd_same]
    have := h.slots m
    rw [hi] at this
    generalize a.tmps.getD m undef = x at this
    cases this with
    | nil => exact .ownnil _ _ _ ⟨0, 0, 0, true⟩ (by simp [gUp]) rfl
    | sl _ _ _ _ a n c xs h0 => exact absurd rfl h0
  · simp only [upd_ne _ _ e]
    exact h2.rd (h.slots m)

def oneRes (T : TypeId → Option TI) (st : St) : ResultVar → Option V
  | .tmp t => some (st.s t)
  | .cell a t => match aLoad T st.g t (st.s a) with | some e => some e.v | none => none
def allRes (T : TypeId → Option TI) (st : St) : List ResultVar → Option (List V)
  | [] => some []
  | r :: rs => match oneRes T st r, allRes T st rs with
    | some v, some vs => some (v :: vs)
    | _, _ => none
def retV (T : TypeId → Option TI) (st : St) (l : List ResultVar) : Option V :=
  match allRes T st l with
  | some [v] => some v
  | some vs => some (.tup vs)
  | none => none

/-- What a function's end must say. -/
def Ret0 (T : TypeId → Option TI) (res : List ResultVar) (r : CRes) (k : Nat) (e : Exit) (st : St) : Prop :=
  (match e with | .normal | .ret => True | _ => False) ∧ k ≤ r.objs.length ∧ ∃ ns : Nat → Nat, (∀ j, j < k → ns j = j) ∧ (∀ i j, i < r.objs.length → j < r.objs.length → ns i = ns j → i = j) ∧ retV T st res = some (r.v.ren ns) ∧
    (∀ (j : Nat) (o : AObj), r.objs[j]? = some o → st.g (ns j) = some (o.ren ns)) ∧ r.v.within (fun j => decide (j < r.objs.length)) = true ∧ (∀ o ∈ r.objs, o.within (fun j => decide (j < r.objs.length)) = true)

/-- What a function's end must say, perhaps less of the state being known. -/
def Ret (T : TypeId → Option TI) (res : List ResultVar) (r : CRes) (k : Nat) (e : Exit) (st : St) : Prop := ∃ st', Weak k st st' ∧ Ret0 T res r k e st'
theorem Ret0.ret {T : TypeId → Option TI} {res : List ResultVar} {r : CRes} {k : Nat} {e : Exit} {st : St} (h : Ret0 T res r k e st) : Ret T res r k e st := ⟨st, Weak.refl _ _, h⟩
theorem Ret.weak {T : TypeId → Option TI} {res : List ResultVar} {r : CRes} {k : Nat} {e : Exit} {st st' : St} (h : Ret T res r k e st') (hw : Weak k st st') : Ret T res r k e st := by
  obtain ⟨s, h1, h2⟩ := h
  exact ⟨s, hw.trans h1, h2⟩

def initSt (args : List V) (objs : List AObj) : St := { s := fun n => args.getD n .junk, g := fun n => objs[n]?, c := objs.length }

def resSem (tmps : Array Value) : ResultVar → Sem Value
  | .tmp t => pure (tmps.getD t undef)
  | .cell a t => do loadVar t (← asAddr (tmps.getD a undef))

theorem oneRes_sound (hT : TypesOk P T) {w0 ex N st a w I γ} (h : Sim w0 ex N st a w I γ) {r : ResultVar} {v : V} (hv : oneRes T st r = some v) :
    ∃ x, (resSem a.tmps r).run P w = .ok x w ∧ Rd w I γ v x := by
  cases r with
  | tmp t => cases hv; exact ⟨_, rfl, h.slots t⟩
  | cell c t =>
    simp only [oneRes] at hv
    split at hv
    · rename_i e he
      cases hv
      obtain ⟨_, x, h1, h2⟩ := aLoad_sound (P := P) hT h.inv (h.slots c) he
      refine ⟨x, ?_, h2⟩
      rw [← h1]
      have hs := h.slots c
      have : ∃ ad, a.tmps.getD c undef = .pointer (some ad) := by
        generalize a.tmps.getD c undef = y at hs
        unfold aLoad at he
        split at he
        · cases he
        · split at he
          · rename_i hx; rw [hx] at hs; cases hs; exact ⟨_, rfl⟩
          · rename_i hx; rw [hx] at hs; cases hs; exact ⟨_, rfl⟩
          · cases he
      obtain ⟨ad, had⟩ := this
      simp only [resSem, had]; rfl
    · cases hv

theorem allRes_sound (hT : TypesOk P T) {w0 ex N st a w I γ} (h : Sim w0 ex N st a w I γ) : ∀ {l : List ResultVar} {vs : List V}, allRes T st l = some vs →
    ∃ xs : List Value, (l.mapM (resSem a.tmps)).run P w = .ok xs w ∧ xs.length = vs.length ∧ ∀ (j : Nat) (u : V) (x : Value), vs[j]? = some u → xs[j]? = some x → Rd w I γ u x
  | [], vs, hv => by cases hv; exact ⟨[], rfl, rfl, fun j u x h => by simp at h⟩
  | r :: l, vs, hv => by
    simp only [allRes] at hv
    split at hv
    · rename_i v vs' h1 h2
      cases hv
      obtain ⟨x, x1, x2⟩ := oneRes_sound (P := P) hT h h1
      obtain ⟨xs, y1, y2, y3⟩ := allRes_sound hT h h2
      refine ⟨x :: xs, ?_, by simp [y2], fun j u y hu hy => ?_⟩
      · rw [List.mapM_cons, Sem.run_bind, x1, Result.andThen_ok, Sem.run_bind, y1]; rfl
      · cases j with
        | zero => simp at hu hy; subst hu; subst hy; exact x2
        | succ j => exact y3 j u y (by simpa using hu) (by simpa using hy)
    · cases hv

theorem results_eq (fn : Func) (tmps : Array Value) : results fn tmps = (fn.results.mapM (resSem tmps) >>= fun vs => pure (if h : vs.size = 1 then vs[0] else .tuple vs)) := by
  unfold results
  congr 1

theorem retV_sound (hT : TypesOk P T) {w0 ex N st a w I γ} (h : Sim w0 ex N st a w I γ) {fn : Func} {v : V} (hv : retV T st fn.results.toList = some v) :
    ∃ x, (results fn a.tmps).run P w = .ok x w ∧ Rd w I γ v x := by
  unfold retV at hv
  have key : ∀ vs, allRes T st fn.results.toList = some vs → ∃ xs : Array Value, xs.size = vs.length ∧ (results fn a.tmps).run P w = .ok (if h : xs.size = 1 then xs[0] else .tuple xs) w ∧ ∀ (j : Nat) (u : V) (x : Value), vs[j]? = some u → xs[j]? = some x → Rd w I γ u x := by
    intro vs hvs
    obtain ⟨xs, x1, x2, x3⟩ := allRes_sound (P := P) hT h hvs
    refine ⟨xs.toArray, by simpa using x2, ?_, fun j u x hu hx => x3 j u x hu (by simpa using hx)⟩
    rw [results_eq, Sem.run_bind, Array.mapM_eq_mapM_toList, Sem.run_map, x1]
    rfl
  split at hv
  · rename_i v' hvs
    cases hv
    obtain ⟨xs, y1, y2, y3⟩ := key _ hvs
    have h1 : xs.size = 1 := y1
    rw [dif_pos h1] at y2
    exact ⟨_, y2, y3 0 v xs[0] rfl (by simp)⟩
  · rename_i vs hne hvs
    cases hv
    obtain ⟨xs, y1, y2, y3⟩ := key _ hvs
    have h1 : ¬ xs.size = 1 := by
      intro h1
      rw [y1] at h1
      obtain ⟨x, hx⟩ := List.length_eq_one_iff.1 h1
      exact hne x hx
    rw [dif_neg h1] at y2
    exact ⟨_, y2, .tup _ _ _ y1.symm y3⟩
  · cases hv

/-- A function's specification, from the run of its body over data. -/
theorem spec_of (hT : TypesOk P T) (hC : SpecsOk P C) (hm : P.follows .mixedOrders = true) {f : FuncId} {fn : Func} {c : Code} (hf : P.funcs[f]? = some fn) (hname : (fn.name == "runtime.NumGoroutine") = false) (hb : fn.body = some c) (hd : dstOk fn.ntmps c = true)
    {sp : List V → List AObj → Option CRes} (h : ∀ args objs r, sp args objs = some r → args.length ≤ fn.ntmps ∧ axwp T C objs.length c (Ret T fn.results.toList r objs.length) (initSt args objs)) : Spec P f sp := by
  refine ⟨⟨fn, hf, hname, by rw [hb]; rfl⟩, fun args objs r hr w I γ vs hE => ?_⟩
  obtain ⟨hlen, hax⟩ := h args objs r hr
  refine calls_of_wp hf hb ?_
  have hsim : Sim w ⟨exOf γ objs.length, I, γ⟩ fn.ntmps (initSt args objs) { tmps := vs ++ Array.replicate (fn.ntmps - vs.size) undef, defers := [] } w I γ := by
    refine ⟨by have := hE.len; simp; omega, fun n => ?_, hE.inv, rfl⟩
    simp only [initSt]
    by_cases hn : n < args.length
    · have hn' : n < vs.size := by rw [← hE.len]; exact hn
      have e1 : args.getD n .junk = args[n] := by simp [hn]
      have e2 : (vs ++ Array.replicate (fn.ntmps - vs.size) undef).getD n undef = vs[n] := by
        rw [Array.getD_eq_getD_getElem?, Array.getElem?_append_left hn', Array.getElem?_eq_getElem hn']; rfl
      rw [e1, e2]
      exact hE.rd n _ _ (List.getElem?_eq_getElem hn) (Array.getElem?_eq_getElem hn')
    · have e1 : args.getD n .junk = .junk := by simp [hn]
      rw [e1]; exact .junk _ _
  have hdom : ∀ n, objs.length ≤ n → γ n = none := by
    intro n hn
    cases hg : γ n with
    | none => rfl
    | some gi => exact absurd (List.getElem?_eq_none hn) (hE.inv.dom n gi hg)
  refine axwp_sound hT hC hm hdom c hd hsim hax fun e st' a' w' I' γ' hq hs => ?_
  obtain ⟨st1, hw, he, hk, ns, n1, n2, n3, n4, n5, n6⟩ := hq
  obtain ⟨I1, γ1, hs⟩ := hw _ _ _ _ _ _ _ hdom hs
  obtain ⟨x, x1, x2⟩ := retV_sound (P := P) hT hs n3
  have hinv := hs.inv.unren (f := ns) (g' := fun n => r.objs[n]?) (fun n o hn => n4 n o hn) (fun n m o o' h1 h2 he => n2 n m (List.getElem?_eq_some_iff.1 h1).1 (List.getElem?_eq_some_iff.1 h2).1 he)
    (fun n o hn => by
      have := n6 o (List.mem_of_getElem? hn)
      have e : (fun n => (r.objs[n]?).isSome) = fun j => decide (j < r.objs.length) := by
        funext j
        by_cases hj : j < r.objs.length <;> simp [hj]
      rw [e]; exact this)
    (fun n gi hn => by
      have hlt : n < objs.length := Nat.lt_of_not_le fun hle => by
        replace hn : γ n = some gi := hn
        rw [hdom n hle] at hn; cases hn
      have : n < r.objs.length := Nat.lt_of_lt_of_le hlt hk
      exact ⟨n1 n hlt, by simp [this]⟩)
  have hfin : a'.defers = [] ∧ ∃ v, (results fn a'.tmps).run P w' = .ok v w' ∧ ∃ v' I'' γ'', Ending.returned v = .returned v' ∧ Leave w I γ objs.length r w' I'' γ'' v' := by
    refine ⟨hs.defers, x, x1, x, I1, _, rfl, hinv, ?_, ?_⟩
    · refine x2.unren (D := fun j => decide (j < r.objs.length)) _ rfl n5 fun n hn => ?_
      simp only [decide_eq_true_eq] at hn
      simp [hn]
    · refine ⟨fun b hb => ⟨hs.inv.keep b hb, hs.inv.frame b (hE.inv.lt b hb) ?_⟩, hinv.fix⟩
      rintro ⟨n, gi, m1, m2, m3, rfl⟩
      obtain ⟨hrw, _⟩ := hE.alive objs[n] (List.getElem_mem m1)
      obtain ⟨cur, fr, ha⟩ := hE.inv.at_own (nm := n) (o := objs[n]) (List.getElem?_eq_getElem m1) (by rw [hrw]; decide) m2 m3
      exact ha.rw hrw hb
  cases e with
  | normal => exact hfin
  | ret => exact hfin
  | _ => exact he.elim
end Go.Lift
