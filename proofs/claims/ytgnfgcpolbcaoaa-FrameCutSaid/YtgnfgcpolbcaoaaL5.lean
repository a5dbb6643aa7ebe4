/-
  The operations that cut, address and read.
-/
import Derived.Test.YtgnfgcpolbcaoaaL4
namespace Go.Lift

section
variable {P : Program} {T : TypeId → Option TI}

theorem add_block (a : Addr) (n : Nat) : (a.add n).block = a.block := by unfold Addr.add; split <;> rfl
theorem add_add (a : Addr) (i j : Nat) : (a.add i).add j = a.add (i + j) := by
  unfold Addr.add
  by_cases hi : i = 0 <;> by_cases hj : j = 0 <;> simp [hi, hj, Nat.add_assoc]
theorem add_lit (b o n : Nat) : (⟨b, o, none⟩ : Addr).add n = ⟨b, o + n, none⟩ := by
  unfold Addr.add; by_cases h : n = 0 <;> simp [h]

theorem cellAt_cut {es : List (List V)} {l n i j : Nat} {u : V} (h : cellAt ((es.drop l).take n) i j = some u) : cellAt es (l + i) j = some u := by
  obtain ⟨e, he, hu⟩ := cellAt_some h
  rw [List.getElem?_take] at he
  split at he
  · rw [List.getElem?_drop] at he; exact cellAt_mk he hu
  · cases he

theorem lowOf_run {w : World} {I γ} {lo : Option V} {vlo : Option Value} {l : Int} {y : Nat} {code : BoundsCode}
    (hl : ∀ v, lo = some v → ∃ x, vlo = some x ∧ Rd w I γ v x) (hn : lo = none → vlo = none) (h : lowOf lo = some l) (h0 : 0 ≤ l) (h1 : l ≤ y) :
    (match vlo with | some v => Instr.sliceBound v y code | none => pure 0).run P w = .ok l.toNat w := by
  unfold lowOf at h
  split at h
  · cases h; rw [hn rfl]; rfl
  · cases h
    obtain ⟨x, rfl, hr⟩ := hl _ rfl
    cases hr
    simp [Instr.sliceBound, asIntOf, h0, h1]
  · cases h
theorem highOf_run {w : World} {I γ} {hi : Option V} {vhi : Option Value} {d : Nat} {h' : Int} {y : Nat} {code : BoundsCode}
    (hl : ∀ v, hi = some v → ∃ x, vhi = some x ∧ Rd w I γ v x) (hn : hi = none → vhi = none) (h : highOf d hi = some h') (h0 : 0 ≤ h') (h1 : h' ≤ y) :
    (match vhi with | some v => Instr.sliceBound v y code | none => pure d).run P w = .ok h'.toNat w := by
  unfold highOf at h
  split at h
  · cases h; rw [hn rfl]; simp
  · cases h
    obtain ⟨x, rfl, hr⟩ := hl _ rfl
    cases hr
    simp [Instr.sliceBound, asIntOf, h0, h1]
  · cases h

theorem bounds_run {w : World} {I γ} {lo hi : Option V} {vlo vhi : Option Value} {l h : Int} {len cap : Nat} (b : Bool)
    (hlo : ∀ v, lo = some v → ∃ x, vlo = some x ∧ Rd w I γ v x) (hnlo : lo = none → vlo = none) (hhi : ∀ v, hi = some v → ∃ x, vhi = some x ∧ Rd w I γ v x) (hnhi : hi = none → vhi = none)
    (el : lowOf lo = some l) (eh : highOf len hi = some h) (h0 : 0 ≤ l) (h1 : l ≤ h) (h2 : h ≤ cap) :
    (Instr.sliceBounds b len cap vlo vhi none).run P w = .ok (l.toNat, h.toNat, cap) w := by
  have kl := lowOf_run (P := P) (y := h.toNat) (code := .sliceB) hlo hnlo el h0 (by omega)
  have kh := highOf_run (P := P) (y := cap) (code := (if b then BoundsCode.sliceAcap else .sliceAlen)) hhi hnhi eh (by omega) h2
  unfold Instr.sliceBounds
  cases vhi <;> cases vlo <;> simp at kl kh ⊢ <;> simp_all
theorem bounds3_run {w : World} {I γ} {lo hi : Option V} {vlo vhi : Option Value} {l h m : Int} {len cap : Nat} (b : Bool) (k : IntKind)
    (hlo : ∀ v, lo = some v → ∃ x, vlo = some x ∧ Rd w I γ v x) (hnlo : lo = none → vlo = none) (hhi : ∀ v, hi = some v → ∃ x, vhi = some x ∧ Rd w I γ v x) (hsome : hi.isSome = true)
    (el : lowOf lo = some l) (eh : highOf len hi = some h) (h0 : 0 ≤ l) (h1 : l ≤ h) (h2 : h ≤ m) (h3 : m ≤ cap) :
    (Instr.sliceBounds b len cap vlo vhi (some (.int k m))).run P w = .ok (l.toNat, h.toNat, m.toNat) w := by
  have kl := lowOf_run (P := P) (y := h.toNat) (code := .slice3C) hlo hnlo el h0 (by omega)
  cases hi with
  | none => cases hsome
  | some v =>
    obtain ⟨x, rfl, hr⟩ := hhi _ rfl
    cases v <;> simp only [highOf, Option.some.injEq, reduceCtorEq] at eh
    subst eh
    cases hr
    have k1 : (Instr.sliceBound (.int k m) cap (if b then BoundsCode.slice3Acap else .slice3Alen)).run P w = .ok m.toNat w := by
      simp [Instr.sliceBound, asIntOf, show 0 ≤ m from by omega, h3]
    rename_i k' n
    have k2 : (Instr.sliceBound (.int k' n) m.toNat .slice3B).run P w = .ok n.toNat w := by
      unfold Instr.sliceBound
      rw [Sem.run_bind]
      show (if 0 ≤ n ∧ n ≤ ((m.toNat : Nat) : Int) then (pure n.toNat : Sem Nat) else boundsPanic k' n m.toNat .slice3B).run P w = _
      rw [if_pos ⟨by omega, by omega⟩]; rfl
    unfold Instr.sliceBounds
    cases vlo with
    | none =>
      simp only [Sem.run_bind, k1, k2, Result.andThen_ok, Sem.run_pure] at kl ⊢
      injection kl with e1; rw [e1]
    | some y =>
      simp only [Option.isSome_some, if_true, Sem.run_bind, k1, k2, Result.andThen_ok, Sem.run_pure] at kl ⊢
      rw [kl]; rfl

theorem sizeT_some {e : TypeId} {n : Nat} (h : sizeT T e = some n) : ∃ ei, T e = some ei ∧ ei.size = n := by
  unfold sizeT at h
  cases he : T e with
  | none => rw [he] at h; cases h
  | some ei => rw [he] at h; exact ⟨ei, rfl, by simpa using h⟩
theorem run_sizeT (hT : TypesOk P T) {e : TypeId} {n : Nat} (h : sizeT T e = some n) (w : World) : (sizeOf e).run P w = .ok n w := by
  obtain ⟨ei, h1, h2⟩ := sizeT_some h
  rw [← h2]; exact (hT e ei h1).run_size w

/-- A frame's object, looked up. -/
theorem Inv.at_own {w0 ex I γ g w} (h : Inv w0 ex I γ g w) {nm : Nat} {o : AObj} (hg : g nm = some o) (hm : o.md ≠ .dead) {gi : GI} (hγ : γ nm = some gi) (hnn : gi.nil = false) : ∃ cur fr, ObjAt w I γ o gi cur fr := by
  rcases (h.obj nm o hg hm).at_ with ⟨_, gi', h1, h2⟩ | ⟨gi', cur, fr, h1, h2⟩
  · rw [h1] at hγ; cases hγ; rw [hnn] at h2; cases h2
  · rw [h1] at hγ; cases hγ; exact ⟨cur, fr, h2⟩

theorem run_slice_slice {w : World} {t e : TypeId} (hu : (underlying t).run P w = .ok (.slice e) w) {n : Nat} (hs : (sizeOf e).run P w = .ok n w) (a : Option Addr) (len cap : Nat) (lo hi mx : Option Value) {l h m : Nat}
    (hb : (Instr.sliceBounds true len cap lo hi mx).run P w = .ok (l, h, m) w) :
    (Instr.sliceAt t (.slice a len cap) lo hi mx).run P w = .ok (.slice (if m = l then a else a.map (·.add (l * n))) (h - l) (m - l)) w := by
  unfold Instr.sliceAt
  rw [Sem.run_bind, hu, Result.andThen_ok]
  show (Instr.slice t (.slice a len cap) lo hi mx).run P w = _
  unfold Instr.slice
  rw [Sem.run_bind, hu, Result.andThen_ok]
  simp only [Sem.run_bind, hb, Result.andThen_ok, hs, Sem.run_pure]
theorem run_slice_str {w : World} {t : TypeId} (hu : (underlying t).run P w = .ok .string w) (s : ByteArray) (lo hi : Option Value) {l h m : Nat}
    (hb : (Instr.sliceBounds false s.size s.size lo hi none).run P w = .ok (l, h, m) w) :
    (Instr.sliceAt t (.string s) lo hi none).run P w = .ok (.string (s.extract l h)) w := by
  unfold Instr.sliceAt
  rw [Sem.run_bind, hu, Result.andThen_ok]
  show (Instr.slice t (.string s) lo hi none).run P w = _
  unfold Instr.slice
  rw [Sem.run_bind, hu, Result.andThen_ok]
  simp only [Option.isSome_none, Bool.false_eq_true, if_false, Sem.run_bind, Sem.run_pure, Result.andThen_ok, hb]

theorem Rd.cut {w : World} {I γ} {tg tg' es : Nat} {rows : List (List V)} {a : Option Addr} {n c l h m : Nat} (hx : Rd w I γ (.sl tg es rows) (.slice a n c)) (hlh : l ≤ h) (hhn : h ≤ n) (hhm : h ≤ m) (hmc : m ≤ c)
    (ht0 : tg' = 1 ∨ tg' = 4 → tg = 1 ∨ tg = 4) (ht1 : tg ≠ 0 → tg' ≠ 0) (ht : tg' = 1 ∨ tg' = 3 → m = h) :
    Rd w I γ (.sl tg' es ((rows.drop l).take (h - l))) (.slice (if m = l then a else a.map (·.add (l * es))) (h - l) (m - l)) := by
  cases hx with
  | nil _ _ _ htg =>
    have : l = 0 ∧ h = 0 ∧ m = 0 := by omega
    obtain ⟨rfl, rfl, rfl⟩ := this
    simpa using Rd.nil (w := w) (I := I) γ tg' es (by omega)
  | sl _ _ _ _ a n c xs h0 h1 hlen hnc hcm hes hcel hcell hr =>
    have e1 : (if m = l then some a else Option.map (fun x => x.add (l * es)) (some a)) = some (if m = l then a else a.add (l * es)) := by split <;> rfl
    rw [e1]
    refine .sl _ _ _ _ _ _ _ (fun i j => xs (l + i) j) (ht1 h0) (fun e => by rw [ht e]) (by rw [List.length_take, List.length_drop]; omega) (by omega) (by omega)
      (fun r hr => hes r (List.mem_of_mem_drop (List.mem_of_mem_take hr))) (fun i j u hu => hcel _ _ _ (cellAt_cut hu)) ?_ (fun i j u hu => hr _ _ _ (cellAt_cut hu))
    intro i j u hu
    have hu' := cellAt_cut hu
    obtain ⟨hI, hc'⟩ := hcell _ _ _ hu'
    obtain ⟨e2, he2, _⟩ := cellAt_some hu
    have hlt := (List.getElem?_eq_some_iff.1 he2).1
    rw [List.length_take, List.length_drop] at hlt
    rw [if_neg (by omega)]
    refine ⟨by rw [add_block]; exact hI, ?_⟩
    rw [add_add, show l * es + (i * es + j) = (l + i) * es + j by rw [Nat.add_mul]; omega]
    exact hc'

theorem aSlice_sound (hT : TypesOk P T) {w0 w : World} {ex I γ g} (hi : Inv w0 ex I γ g w) {t : TypeId} {x v : V} {vx : Value} {lo hi' mx : Option V} {vlo vhi vmx : Option Value}
    (hx : Rd w I γ x vx) (hlo : ∀ v, lo = some v → ∃ x, vlo = some x ∧ Rd w I γ v x) (hnlo : lo = none → vlo = none) (hhi : ∀ v, hi' = some v → ∃ x, vhi = some x ∧ Rd w I γ v x) (hnhi : hi' = none → vhi = none)
    (hmx : ∀ v, mx = some v → ∃ x, vmx = some x ∧ Rd w I γ v x) (hnmx : mx = none → vmx = none)
    (h : aSlice T g t x lo hi' mx = some v) : ∃ r, (Instr.sliceAt t vx vlo vhi vmx).run P w = .ok r w ∧ Rd w I γ v r := by
  unfold aSlice at h
  split at h
  · rename_i hd
    cases hx
    split at h
    · rename_i l h' el eh
      split at h
      · rename_i hc
        cases h
        rw [hnmx rfl]
        exact ⟨_, run_slice_str (desc_under hT hd w) _ _ _ (bounds_run (P := P) false hlo hnlo hhi hnhi el eh hc.1 hc.2.1 hc.2.2), .str _ _⟩
      · cases h
    · cases h
  · rename_i e tg sz es hd
    have hu := desc_under hT hd w
    have hform : ∃ a n c, vx = .slice a n c ∧ es.length = n ∧ n ≤ c ∧ (tg = 1 ∨ tg = 3 → c = n) ∧ (tg = 0 → a = none) := by
      cases hx with
      | nil _ _ _ htg => exact ⟨none, 0, 0, rfl, rfl, Nat.le_refl _, fun _ => rfl, fun _ => rfl⟩
      | sl _ _ _ _ a n c xs h0 h1 hlen hnc hcm hes hcel hcell hr => exact ⟨some a, n, c, rfl, hlen, hnc, h1, fun e => absurd e h0⟩
    obtain ⟨a, n, c, rfl, hlen, hnc, htc, ht0⟩ := hform
    split at h
    · rename_i hsz
      have hsz' : ∃ sz', sizeT T e = some sz' ∧ (sz' = sz ∨ tg = 0) := by
        rcases hsz with hsz | ⟨h1, h2⟩
        · exact ⟨sz, hsz, .inl rfl⟩
        · cases hs : sizeT T e with
          | none => rw [hs] at h2; cases h2
          | some sz' => exact ⟨sz', rfl, .inr h1⟩
      obtain ⟨sz', hs', hor⟩ := hsz'
      have fin : ∀ l h m tg', (Instr.sliceBounds true n c vlo vhi vmx).run P w = .ok (l, h, m) w → l ≤ h → h ≤ n → h ≤ m → m ≤ c → (tg' = 1 ∨ tg' = 4 → tg = 1 ∨ tg = 4) → (tg ≠ 0 → tg' ≠ 0) → (tg' = 1 ∨ tg' = 3 → m = h) →
          ∃ r, (Instr.sliceAt t (.slice a n c) vlo vhi vmx).run P w = .ok r w ∧ Rd w I γ (.sl tg' sz ((es.drop l).take (h - l))) r := by
        intro l h m tg' hb h1 h2 h3 h4 k1 k2 k3
        refine ⟨_, run_slice_slice hu (run_sizeT hT hs' w) a n c vlo vhi vmx hb, ?_⟩
        have := Rd.cut hx h1 h2 h3 h4 k1 k2 k3
        rcases hor with rfl | h0
        · exact this
        · rw [ht0 h0] at this ⊢; exact this
      split at h
      · rename_i l h' el eh
        split at h
        · rename_i hc
          cases h
          rw [hnmx rfl] at fin ⊢
          have hb := bounds_run (P := P) (len := n) (cap := c) true hlo hnlo hhi hnhi el (by rw [← hlen]; exact eh) hc.1 hc.2.1 (by have := hc.2.2; omega)
          refine fin l.toNat h'.toNat c _ hb (by omega) (by omega) (by omega) (Nat.le_refl _) ?_ ?_ ?_
          · intro e
            simp only [cutTag] at e
            split at e
            · rcases e with e | e <;> cases e
            · split at e
              · exact e
              · rcases e with e | e <;> cases e
          · intro h0
            simp only [cutTag]
            rw [if_neg h0]; split
            · exact h0
            · decide
          · intro e
            simp only [cutTag] at e
            split at e
            · rcases e with e | e <;> cases e
            · split at e
              · rename_i hand; have := htc e; have := of_decide_eq_true hand.2; omega
              · rcases e with e | e <;> cases e
        · cases h
      · rename_i l h' k m el eh
        split at h
        · rename_i hc
          cases h
          obtain ⟨xm, rfl, hrm⟩ := hmx _ rfl
          cases hrm
          obtain ⟨c0, c1, c2, rfl, c3⟩ := hc
          have hb := bounds3_run (P := P) (len := n) (cap := c) true k hlo hnlo hhi c3 el (by rw [← hlen]; exact eh) c0 c1 (Int.le_refl _) (by omega)
          refine fin l.toNat m.toNat m.toNat _ hb (by omega) (by omega) (Nat.le_refl _) (by omega) ?_ ?_ (fun _ => rfl)
          · intro e; split at e
            · rcases e with e | e <;> cases e
            · split at e
              · rename_i h1; exact .inl h1
              · rcases e with e | e <;> cases e
          · intro h0; rw [if_neg h0]; split <;> decide
        · cases h
      · cases h
    · cases h
  · rename_i e nm off n hd
    have hu := desc_under hT hd w
    split at h
    · rename_i o hg
      split at h
      · rename_i hc
        split at h
        · rename_i l h' el eh
          split at h
          · rename_i hb
            cases h
            rw [hnmx rfl]
            cases hx with
            | own _ _ _ _ c oo gi hγ hnn hcap hn hcm ho =>
              obtain ⟨cur, fr, ha⟩ := hi.at_own hg hc.2 hγ hnn
              have hbd := bounds_run (P := P) (len := n) (cap := c) true hlo hnlo hhi hnhi el eh hb.1 hb.2.1 (by have := hb.2.2; omega)
              refine ⟨_, run_slice_slice hu (run_sizeT hT hc.1 w) _ n c vlo vhi none hbd, ?_⟩
              have e1 : (if c = l.toNat then some (⟨gi.blk, oo, none⟩ : Addr) else Option.map (fun x : Addr => x.add (l.toNat * o.es)) (some ⟨gi.blk, oo, none⟩)) = some ⟨gi.blk, if c = l.toNat then oo else oo + l.toNat * o.es, none⟩ := by
                split
                · rfl
                · simp [add_lit]
              rw [e1]
              refine .own _ _ _ _ _ _ gi hγ hnn (by omega) (by omega) (by omega) (fun hne => ?_)
              rw [if_neg (by omega), ho (by omega), ha.es, Nat.add_mul]
            | ownnil _ _ A gi hγ hnn =>
              have hbd := bounds_run (P := P) (len := 0) (cap := 0) true hlo hnlo hhi hnhi el eh hb.1 hb.2.1 (by have := hb.2.2; omega)
              have e0 : l.toNat = 0 ∧ h'.toNat = 0 := by omega
              refine ⟨_, run_slice_slice hu (run_sizeT hT hc.1 w) _ 0 0 vlo vhi none hbd, ?_⟩
              rw [e0.1, e0.2]
              exact .ownnil _ _ _ gi hγ hnn
          · cases h
        · cases h
      · cases h
    · cases h
  · cases h

/-- The cells of a field, or of an element, that a value of a type takes. -/
theorem fromCells_load (hT : TypesOk P T) {w : World} {I γ} {t : TypeId} {ti : TI} (ht : T t = some ti) {cs : List V} {v : V} {a : Addr} {xs : Nat → Value} (h : fromCells ti cs = some v)
    (hc : ∀ (j : Nat) (u : V), cs[j]? = some u → w.cell? (a.add j) = some (xs j) ∧ Rd w I γ u (xs j)) :
    ∃ r, (loadVar t a).run P w = .ok r w ∧ Rd w I γ v r := by
  unfold fromCells at h
  have hag := (hT t ti ht).run_agg w
  have hsz := (hT t ti ht).run_size w
  unfold loadVar
  rw [Sem.run_bind, hag, Result.andThen_ok]
  cases hb : ti.agg with
  | true =>
    rw [hb] at h
    simp only [if_true] at h
    split at h
    · rename_i hl
      cases h
      have hlen : ti.size ≤ cs.length := by rw [List.length_take] at hl; omega
      have hk := run_loadCells (P := P) w a ti.size xs (fun j hj => (hc j _ (List.getElem?_eq_getElem (Nat.lt_of_lt_of_le hj hlen))).1)
      refine ⟨.agg ((List.range ti.size).map xs).toArray, ?_, ?_⟩
      · simp only [if_true, Sem.run_bind, hsz, Result.andThen_ok, hk, Sem.run_pure]
      · refine .agg _ _ _ (by rw [hl]; simp) fun j u x hu hx => ?_
        rw [List.getElem?_take] at hu
        split at hu
        · rename_i hj
          simp [List.getElem?_range hj] at hx
          subst hx
          exact (hc j u hu).2
        · cases hu
    · cases h
  | false =>
    rw [hb] at h
    simp only [Bool.false_eq_true, if_false] at h ⊢
    cases cs with
    | nil => cases h
    | cons c cs =>
      cases h
      obtain ⟨h1, h2⟩ := hc 0 _ rfl
      refine ⟨xs 0, ?_, h2⟩
      have : a.add 0 = a := by simp [Addr.add]
      rw [this] at h1
      rw [run_load, h1]

theorem aLoad_sound (hT : TypesOk P T) {w0 w : World} {ex I γ g} (hi : Inv w0 ex I γ g w) {t : TypeId} {x : V} {vx : Value} {e : Eff} (hx : Rd w I γ x vx) (h : aLoad T g t x = some e) :
    e.wr = [] ∧ ∃ r, (Instr.loadAt t vx).run P w = .ok r w ∧ Rd w I γ e.v r := by
  unfold aLoad at h
  cases ht : T t with
  | none => rw [ht] at h; cases h
  | some ti =>
    rw [ht] at h
    simp only at h
    split at h
    · rename_i cs
      cases hf : fromCells ti cs with
      | none => rw [hf] at h; cases h
      | some v =>
        rw [hf] at h; cases h
        cases hx with
        | pp _ _ a xs hc hr =>
          refine ⟨rfl, ?_⟩
          have := fromCells_load hT ht hf (a := a) (xs := xs) (I := I) (γ := γ) (fun j u hu => ⟨(hc j u hu).2, (hr j u hu).closed ((hr j u hu).closed_of_noG rfl) γ⟩)
          simpa [Instr.loadAt, Instr.sureAddr] using this
    · rename_i nm i j
      split at h
      · rename_i o hg
        split at h
        · cases h
        · rename_i hm
          split at h
          · rename_i r hr
            cases hf : fromCells ti (r.drop j) with
            | none => rw [hf] at h; cases h
            | some v =>
              rw [hf] at h; cases h
              refine ⟨rfl, ?_⟩
              cases hx with
              | ptr _ _ _ _ gi hγ hnn =>
                obtain ⟨cur, fr, ha⟩ := hi.at_own hg hm hγ hnn
                have hcell : ∀ (k : Nat) (u : V), (r.drop j)[k]? = some u → ∃ x, cur[i * o.es + (j + k)]? = some x ∧ Rd w I γ u x := fun k u hu =>
                  ha.cells i (j + k) u (cellAt_mk hr (by rw [List.getElem?_drop] at hu; exact hu))
                have := fromCells_load hT ht hf (a := ⟨gi.blk, i * gi.es + j, none⟩) (xs := fun k => cur[i * o.es + (j + k)]?.getD undef) (I := I) (γ := γ) (fun k u hu => by
                  obtain ⟨x, hx, hrd⟩ := hcell k u hu
                  rw [hx]
                  refine ⟨?_, hrd⟩
                  rw [add_lit, cell_of_row w gi.blk _ cur o.et fr ha.heap, ha.es, Nat.add_assoc, hx]; rfl)
                simpa [Instr.loadAt, Instr.sureAddr] using this
          · cases h
      · cases h
    · cases h

end
end Go.Lift
