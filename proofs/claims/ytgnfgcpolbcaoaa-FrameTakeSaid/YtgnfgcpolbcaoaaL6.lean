/-
  The operations that address, take apart, and store.
-/
import Derived.Test.YtgnfgcpolbcaoaaL5
namespace Go.Lift

section
variable {P : Program} {T : TypeId → Option TI}

theorem fieldOf_some {s : TypeId} {f off : Nat} {ti : TI} (h : fieldOf T s f = some (off, ti)) : ∃ fs fd, descOf T s = some (.struct fs) ∧ fs[f]? = some fd ∧ T fd.type = some ti ∧ fd.offset = off := by
  unfold fieldOf at h
  split at h
  · rename_i fs hd
    split at h
    · rename_i fd hf
      cases ht : T fd.type with
      | none => rw [ht] at h; cases h
      | some t => rw [ht] at h; cases h; exact ⟨fs, fd, hd, hf, ht, rfl⟩
    · cases h
  · cases h

theorem aFieldAddr_sound (hT : TypesOk P T) {w : World} {I γ} {s : TypeId} {f : Nat} {x v : V} {vx : Value} (hx : Rd w I γ x vx) (h : aFieldAddr T s x f = some v) :
    ∃ r, (Instr.fieldAt s vx f).run P w = .ok r w ∧ Rd w I γ v r := by
  unfold aFieldAddr at h
  split at h
  · rename_i off ti hf
    obtain ⟨fs, fd, hd, hfd, ht, rfl⟩ := fieldOf_some hf
    split at h
    · cases h
    · rename_i hsz
      have hu := desc_under hT hd w
      have hs := (hT _ _ ht).run_size w
      have key : ∀ a : Addr, (Instr.fieldAt s (.pointer (some a)) f).run P w = .ok (.pointer (some (a.add fd.offset))) w := by
        intro a
        unfold Instr.fieldAt
        rw [Sem.run_bind, hu, Result.andThen_ok]
        simp only [hfd, Sem.run_bind, Instr.sureAddr, Sem.run_pure, Result.andThen_ok, fieldPlace, hs, hsz, if_false]
      split at h
      · cases h
        cases hx with
        | ptr _ _ i j gi hγ hnn =>
          refine ⟨_, key _, ?_⟩
          rw [add_lit, Nat.add_assoc]
          exact .ptr _ _ _ _ gi hγ hnn
      · cases h
        rename_i cs
        cases hx with
        | pp _ _ a xs hc hr =>
          refine ⟨_, key _, ?_⟩
          refine .pp _ _ _ (fun j => xs (fd.offset + j)) (fun j u hu => ?_) (fun j u hu => ?_)
          · rw [List.getElem?_drop] at hu
            obtain ⟨h1, h2⟩ := hc _ u hu
            exact ⟨by rw [add_block]; exact h1, by rw [add_add]; exact h2⟩
          · rw [List.getElem?_drop] at hu; exact hr _ u hu
      · cases h
  · cases h

theorem part_sound (hT : TypesOk P T) {w : World} {I γ} {t : TypeId} {ti : TI} (ht : T t = some ti) {cs : List V} {xs : Array Value} {off : Nat} {v : V} (hl : cs.length = xs.size)
    (hr : ∀ (j : Nat) (u : V) (x : Value), cs[j]? = some u → xs[j]? = some x → Rd w I γ u x) (h : fromCells ti (cs.drop off) = some v) :
    ∃ r, (part t xs off).run P w = .ok r w ∧ Rd w I γ v r := by
  have hag := (hT t ti ht).run_agg w
  have hsz := (hT t ti ht).run_size w
  unfold part
  rw [Sem.run_bind, hag, Result.andThen_ok]
  unfold fromCells at h
  cases hb : ti.agg with
  | true =>
    rw [hb] at h
    simp only [if_true] at h ⊢
    split at h
    · rename_i hlen
      cases h
      refine ⟨_, by rw [Sem.run_bind, hsz]; rfl, ?_⟩
      rw [List.length_take, List.length_drop] at hlen
      refine .agg _ _ _ (by rw [List.length_take, List.length_drop, Array.size_extract]; omega) fun j u x hu hx => ?_
      rw [List.getElem?_take] at hu
      split at hu
      · rename_i hj
        rw [List.getElem?_drop] at hu
        rw [Array.getElem?_extract] at hx
        split at hx
        · exact hr _ u x hu hx
        · cases hx
      · cases hu
    · cases h
  | false =>
    rw [hb] at h
    simp only [Bool.false_eq_true, if_false] at h ⊢
    cases hd : cs.drop off with
    | nil => rw [hd] at h; cases h
    | cons c r =>
      rw [hd] at h
      cases h
      have hc : cs[off]? = some v := by
        have : (cs.drop off)[0]? = some v := by rw [hd]; rfl
        rw [List.getElem?_drop] at this; simpa using this
      have hlt : off < xs.size := by rw [← hl]; exact (List.getElem?_eq_some_iff.1 hc).1
      refine ⟨xs[off], ?_, hr off v _ hc (Array.getElem?_eq_getElem hlt)⟩
      simp [Array.getElem?_eq_getElem hlt]

theorem aField_sound (hT : TypesOk P T) {w : World} {I γ} {s : TypeId} {f : Nat} {x v : V} {vx : Value} (hx : Rd w I γ x vx) (h : aField T s x f = some v) :
    ∃ r, (Instr.field s vx f).run P w = .ok r w ∧ Rd w I γ v r := by
  unfold aField at h
  split at h
  · rename_i off ti hf
    obtain ⟨fs, fd, hd, hfd, ht, rfl⟩ := fieldOf_some hf
    split at h
    · cases hx with
      | agg _ _ xs hl hr =>
        obtain ⟨r, h1, h2⟩ := part_sound hT ht hl hr h
        refine ⟨r, ?_, h2⟩
        unfold Instr.field
        rw [Sem.run_bind, desc_under hT hd, Result.andThen_ok]
        simp only [hfd, Sem.run_bind, asAgg, Sem.run_pure, Result.andThen_ok, h1]
    · cases h
  · cases h

theorem aIndexAddr_sound (hT : TypesOk P T) {w0 w : World} {ex I γ g} (hi : Inv w0 ex I γ g w) {t : TypeId} {x ix v : V} {vx vi : Value} (hx : Rd w I γ x vx) (hix : Rd w I γ ix vi) (h : aIndexAddr T g t x ix = some v) :
    ∃ r, (Instr.indexAt t vx vi).run P w = .ok r w ∧ Rd w I γ v r := by
  have key : ∀ e (n : Nat) (k : IntKind) (i : Int) (a : Addr) (len cap : Nat), descOf T t = some (.slice e) → sizeT T e = some n → 0 ≤ i → i < len →
      (Instr.indexAt t (.slice (some a) len cap) (.int k i)).run P w = .ok (.pointer (some (a.add (i.toNat * n)))) w := by
    intro e n k i a len cap hd hs h0 h1
    unfold Instr.indexAt
    simp only [asIntOf, Sem.run_bind, Sem.run_pure, Result.andThen_ok, desc_under hT hd]
    rw [if_pos ⟨h0, h1⟩]
    simp only [Sem.run_bind, run_sizeT hT hs w, Result.andThen_ok, Sem.run_pure]
  unfold aIndexAddr at h
  split at h
  · rename_i e tg sz es k i hd
    cases hix
    split at h
    · rename_i hc
      cases he : es[i.toNat]? with
      | none => rw [he] at h; cases h
      | some row =>
        rw [he] at h; cases h
        have hlt := (List.getElem?_eq_some_iff.1 he).1
        cases hx with
        | nil => simp at hlt
        | sl _ _ _ _ a n c xs h0 h1 hlen hnc hcm hes hcel hcell hr =>
          refine ⟨_, key e sz k i a n c hd hc.2 hc.1 (by omega), ?_⟩
          refine .pp _ _ _ (fun j => xs i.toNat j) (fun j u hu => ?_) (fun j u hu => hr _ _ _ (cellAt_mk he hu))
          obtain ⟨q1, q2⟩ := hcell _ _ _ (cellAt_mk he hu)
          exact ⟨by rw [add_block]; exact q1, by rw [add_add]; exact q2⟩
    · cases h
  · rename_i e nm off n k i hd
    cases hix
    split at h
    · rename_i o hg
      split at h
      · rename_i hc
        cases h
        cases hx with
        | own _ _ _ _ c oo gi hγ hnn hcap hn hcm ho =>
          obtain ⟨cur, fr, ha⟩ := hi.at_own hg hc.2.2.2 hγ hnn
          refine ⟨_, key e o.es k i _ n c hd hc.2.2.1 hc.1 hc.2.1, ?_⟩
          rw [add_lit, ho (by have := hc.2.1; omega), ha.es, ← Nat.add_mul, ← ha.es]
          exact .ptr _ _ _ 0 gi hγ hnn
        | ownnil => exfalso; have := hc.1; have := hc.2.1; omega
      · cases h
    · cases h
  · cases h

theorem aIndex_sound (hT : TypesOk P T) {w : World} {I γ} {t : TypeId} {x ix v : V} {vx vi : Value} (hx : Rd w I γ x vx) (hix : Rd w I γ ix vi) (h : aIndex T t x ix = some v) :
    ∃ r, (Instr.index t vx vi).run P w = .ok r w ∧ Rd w I γ v r := by
  unfold aIndex at h
  split at h
  · rename_i s k i hd
    cases hx; cases hix
    split at h
    · rename_i h0
      cases hb : s.data.toList[i.toNat]? with
      | none => rw [hb] at h; cases h
      | some b =>
        rw [hb] at h; cases h
        refine ⟨_, ?_, .int _ _ _⟩
        have hb' : s[i.toNat]? = some b := by
          rw [Array.getElem?_toList] at hb
          obtain ⟨hlt, hv⟩ := Array.getElem?_eq_some_iff.1 hb
          rw [getElem?_pos s i.toNat hlt]
          exact congrArg some hv
        unfold Instr.index
        simp only [asIntOf, Sem.run_bind, Sem.run_pure, Result.andThen_ok, desc_under hT hd, if_pos h0, hb']
    · cases h
  · cases h

/-- Storing a row of values into a block. -/
theorem run_storeCells_row (g o : Nat) (t : TypeId) (fr : Nat × Nat) : ∀ (vs : List Value) (i : Nat) (cur : Array Value) (w : World), w.heap[g]? = some (.cells cur t fr) → (fr.2 ≤ fr.1 ∨ cur.size ≤ fr.1) → o + i + vs.length ≤ cur.size → (∀ v ∈ vs, v.oneCell' = true) →
    ∃ w' cur', (storeCells ⟨g, o, none⟩ vs i).run P w = .ok () w' ∧ (∀ b, w'.heap[b]? = if b = g then some (.cells cur' t fr) else w.heap[b]?) ∧ w'.heap.size = w.heap.size ∧ (w'.os = w.os ∧ w'.tape = w.tape ∧ w'.output = w.output) ∧
      cur'.size = cur.size ∧ (∀ k, cur'[k]? = if o + i ≤ k ∧ k < o + i + vs.length then vs[k - (o + i)]? else cur[k]?)
  | [], i, cur, w, hg, _, _, _ => ⟨w, cur, rfl, fun b => by
      by_cases e : b = g
      · rw [if_pos e, e]; exact hg
      · rw [if_neg e], rfl, ⟨rfl, rfl, rfl⟩, rfl, fun k => by rw [if_neg (by simp)]⟩
  | v :: vs, i, cur, w, hg, hf, hl, h1 => by
    have hlt : o + i < cur.size := by simp at hl; omega
    have hcell : w.cell? ⟨g, o + i, none⟩ = some cur[o + i] := by rw [cell_of_row w g _ cur t fr hg]; exact Array.getElem?_eq_getElem hlt
    have hfz : w.frozen? ⟨g, o + i, none⟩ = false := by
      simp only [World.frozen?, hg]
      rcases hf with hf | hf
      · simp; omega
      · simp; omega
    have hset : ∀ b, (w.setCell ⟨g, o + i, none⟩ v).heap[b]? = if b = g then some (.cells (cur.setIfInBounds (o + i) v) t fr) else w.heap[b]? := by
      intro b
      simp only [World.setCell, Array.getElem?_modify]
      by_cases e : b = g
      · subst e; rw [if_pos rfl, hg]; simp
      · rw [if_neg (fun h => e h.symm), if_neg e]
    obtain ⟨w', cur', k1, k2, k3, k4, k5, k6⟩ := run_storeCells_row g o t fr vs (i + 1) (cur.setIfInBounds (o + i) v) (w.setCell ⟨g, o + i, none⟩ v) (by rw [hset, if_pos rfl]) (by simpa using hf) (by simp at hl ⊢; omega) (fun u hu => h1 u (List.mem_cons_of_mem _ hu))
    refine ⟨w', cur', ?_, ?_, ?_, ?_, ?_, ?_⟩
    · show (store ((⟨g, o, none⟩ : Addr).add i) v >>= fun _ => storeCells ⟨g, o, none⟩ vs (i + 1)).run P w = _
      rw [Sem.run_bind, add_lit, run_store P w _ v _ (h1 v (List.mem_cons_self ..)), hcell]
      simp only [hfz, Bool.false_eq_true, if_false, Result.andThen_ok]
      exact k1
    · intro b
      rw [k2, hset]
      by_cases e : b = g
      · rw [if_pos e, if_pos e]
      · rw [if_neg e, if_neg e, if_neg e]
    · rw [k3]; simp [World.setCell]
    · exact k4
    · rw [k5]; simp
    · intro k
      rw [k6]
      simp only [List.length_cons]
      by_cases c1 : o + (i + 1) ≤ k ∧ k < o + (i + 1) + vs.length
      · rw [if_pos c1, if_pos (by omega), show k - (o + i) = (k - (o + (i + 1))) + 1 by omega, List.getElem?_cons_succ]
      · rw [if_neg c1]
        by_cases c2 : k = o + i
        · subst c2
          rw [if_pos (by omega)]
          simp [hlt]
        · rw [if_neg (by omega), Array.getElem?_setIfInBounds_ne (fun h => c2 h.symm)]

theorem Rd.oneCell' {w : World} {I γ} {v : V} {x : Value} (h : Rd w I γ v x) (hc : v.cellular = true) : x.oneCell' = true := by
  cases h <;> simp [V.cellular] at hc <;> rfl

theorem cellularAll_get : ∀ {cs : List V}, cellularAll cs = true → ∀ (j : Nat) (u : V), cs[j]? = some u → u.cellular = true
  | [], _, j, u, h => by simp at h
  | c :: cs, hc, j, u, h => by
    simp only [cellularAll, Bool.and_eq_true] at hc
    cases j with
    | zero => simp at h; subst h; exact hc.1
    | succ j => exact cellularAll_get hc.2 j u (by simpa using h)

/-- A value's cells read as its data's cells. -/
theorem Rd.cells {w : World} {I γ} {v : V} {x : Value} (h : Rd w I γ v x) (hj : v ≠ .junk) : v.cells.length = x.cells.size ∧ ∀ (j : Nat) (u : V) (y : Value), v.cells[j]? = some u → x.cells[j]? = some y → Rd w I γ u y := by
  cases h with
  | agg _ cs xs hl hr => exact ⟨hl, hr⟩
  | junk => exact absurd rfl hj
  | tup _ cs xs hl hr =>
    refine ⟨rfl, fun j u y hu hy => ?_⟩
    cases j with
    | zero => simp [V.cells, Value.cells] at hu hy; subst hu; subst hy; exact .tup _ cs xs hl hr
    | succ j => simp [V.cells] at hu
  | _ =>
    refine ⟨rfl, fun j u y hu hy => ?_⟩
    cases j with
    | zero => simp [V.cells, Value.cells] at hu hy; subst hu; subst hy; constructor <;> assumption
    | succ j => simp [V.cells] at hu

theorem flOf_closed {cs : List V} {n : Nat} (h : flOf cs = n) (hn : n ≠ 0) : V.closed.closedAll cs = true := by
  unfold flOf at h
  split at h
  · assumption
  · exact absurd h.symm hn
theorem flOf_scalar {cs : List V} (h : 2 ≤ flOf cs) : V.closed.closedAll cs = true ∧ V.scalar.scalarAll cs = true := by
  unfold flOf at h
  split at h
  · split at h
    · exact ⟨by assumption, by assumption⟩
    · omega
  · omega

theorem splice_get {r cs : List V} {j k : Nat} {u : V} (hl : j + cs.length ≤ r.length) (h : (splice r j cs)[k]? = some u) :
    (j ≤ k ∧ k < j + cs.length ∧ cs[k - j]? = some u) ∨ ((k < j ∨ j + cs.length ≤ k) ∧ r[k]? = some u) := by
  unfold splice at h
  have hj : (r.take j).length = j := by rw [List.length_take]; omega
  by_cases c1 : k < j
  · rw [List.append_assoc, List.getElem?_append_left (by omega), List.getElem?_take, if_pos c1] at h
    exact .inr ⟨.inl c1, h⟩
  · rw [List.append_assoc, List.getElem?_append_right (by omega), hj] at h
    by_cases c2 : k - j < cs.length
    · rw [List.getElem?_append_left c2] at h
      exact .inl ⟨by omega, by omega, h⟩
    · rw [List.getElem?_append_right (by omega), List.getElem?_drop] at h
      exact .inr ⟨.inr (by omega), by rw [← h]; congr 1; omega⟩
theorem splice_length {r cs : List V} {j : Nat} (hl : j + cs.length ≤ r.length) : (splice r j cs).length = r.length := by
  unfold splice
  simp only [List.length_append, List.length_take, List.length_drop]
  omega

theorem aStore_sound (hT : TypesOk P T) {w0 w : World} {ex I γ g} (hi : Inv w0 ex I γ g w) {t : TypeId} {x v : V} {vx vv : Value} {e : Eff} (hx : Rd w I γ x vx) (hv : Rd w I γ v vv) (h : aStore T g t x v = some e) :
    e.v = .junk ∧ ∃ w', (Instr.storeAt t vx vv).run P w = .ok () w' ∧ Inv w0 ex I γ (setAll g e.wr) w' ∧ Ext I γ w I γ w' := by
  unfold aStore at h
  split at h
  · rename_i ti nm i j ht
    split at h
    · rename_i o hg
      split at h
      · rename_i hmd
        split at h
        · rename_i r hr
          split at h
          · rename_i hc
            obtain ⟨hc1, hc2, hc3⟩ := hc
            cases h
            refine ⟨rfl, ?_⟩
            have hnj : v ≠ .junk := fun e => by subst e; simp [V.cells, cellularAll, V.cellular] at hc2
            obtain ⟨hcl, hcr⟩ := hv.cells hnj
            cases hx with
            | ptr _ _ _ _ gi hγ hnn =>
              obtain ⟨cur, fr, ha⟩ := hi.at_own hg (by rw [hmd]; decide) hγ hnn
              have hob := hi.obj nm o hg (by rw [hmd]; decide)
              have hrl : r.length = o.es := hob.rows r (List.mem_of_getElem? hr)
              have hil : i < o.elems.length := (List.getElem?_eq_some_iff.1 hr).1
              have hfit : i * gi.es + j + 0 + vv.cells.toList.length ≤ cur.size := by
                rw [ha.size, ha.es, Array.length_toList, ← hcl]
                have : (i + 1) * o.es ≤ gi.cap * o.es := Nat.mul_le_mul_right _ (Nat.le_trans hil ha.le)
                rw [Nat.add_mul] at this
                omega
              have hone : ∀ y ∈ vv.cells.toList, y.oneCell' = true := by
                intro y hy
                obtain ⟨k, hk, hky⟩ := List.mem_iff_getElem.1 hy
                have hk' : k < v.cells.length := by rw [hcl]; simpa using hk
                have hyy : vv.cells[k]? = some y := by rw [← Array.getElem?_toList]; exact hky ▸ List.getElem?_eq_getElem hk
                exact (hcr k _ y (List.getElem?_eq_getElem hk') hyy).oneCell' (cellularAll_get hc2 k _ (List.getElem?_eq_getElem hk'))
              obtain ⟨w', cur', k1, k2, k3, k4, k5, k6⟩ := run_storeCells_row (P := P) gi.blk (i * gi.es + j) o.et fr vv.cells.toList 0 cur w ha.heap ha.frz hfit hone
              refine ⟨w', ?_, ?_⟩
              · unfold Instr.storeAt storeVar
                simp only [Instr.sureAddr, Sem.run_bind, Sem.run_pure, Result.andThen_ok, (hT t ti ht).run_size w]
                rw [if_neg (by rw [← hcl, hc1]; exact fun h => h rfl)]
                exact k1
              · refine hi.write hg hmd hγ ha rfl rfl hmd k5 k2 k3 k4 ?_ ?_ ?_ ?_ ?_ ?_ ?_
                · simp only [List.length_set]; exact ha.le
                · intro ht; simp only [List.length_set]; exact ha.tight ht
                · intro r' hr'
                  rcases List.mem_or_eq_of_mem_set hr' with h1 | h1
                  · exact hob.rows r' h1
                  · rw [h1, splice_length hc3, hrl]
                · intro i' j' u hu
                  obtain ⟨r', h1, h2⟩ := cellAt_some hu
                  rw [List.getElem?_set] at h1
                  split at h1
                  · cases h1
                    rcases splice_get hc3 h2 with ⟨_, _, h3⟩ | ⟨_, h3⟩
                    · exact cellularAll_get hc2 _ u h3
                    · exact hob.cel _ _ u (cellAt_mk hr h3)
                  · exact hob.cel _ _ u (cellAt_mk h1 h2)
                · intro hfl i' j' u hu
                  obtain ⟨r', h1, h2⟩ := cellAt_some hu
                  have hf1 : o.fl ≠ 0 := by intro e; apply hfl; show min o.fl _ = 0; rw [e]; exact Nat.zero_min _
                  have hf2 : flOf v.cells ≠ 0 := by intro e; apply hfl; show min o.fl _ = 0; rw [e]; exact Nat.min_zero _
                  rw [List.getElem?_set] at h1
                  split at h1
                  · cases h1
                    rcases splice_get hc3 h2 with ⟨_, _, h3⟩ | ⟨_, h3⟩
                    · exact V.closedAll_get (flOf_closed rfl hf2) _ u h3
                    · exact hob.closed hf1 _ _ u (cellAt_mk hr h3)
                  · exact hob.closed hf1 _ _ u (cellAt_mk h1 h2)
                · intro hfl i' j' u hu
                  obtain ⟨r', h1, h2⟩ := cellAt_some hu
                  have hfl' : 2 ≤ min o.fl (flOf v.cells) := hfl
                  have hf1 : 2 ≤ o.fl := by omega
                  have hf2 : 2 ≤ flOf v.cells := by omega
                  rw [List.getElem?_set] at h1
                  split at h1
                  · cases h1
                    rcases splice_get hc3 h2 with ⟨_, _, h3⟩ | ⟨_, h3⟩
                    · exact V.scalarAll_get (flOf_scalar hf2).2 _ u h3
                    · exact hob.scalar hf1 _ _ u (cellAt_mk hr h3)
                  · exact hob.scalar hf1 _ _ u (cellAt_mk h1 h2)
                · intro i' j' u hu
                  obtain ⟨r', h1, h2⟩ := cellAt_some hu
                  have hrow : ∀ r0, o.elems[i']? = some r0 → j' < r0.length → j' < o.es := fun r0 h0 hlt => by rw [← hob.rows r0 (List.mem_of_getElem? h0)]; exact hlt
                  rw [k6]
                  simp only [Nat.add_zero, Array.length_toList, ha.es]
                  rw [List.getElem?_set] at h1
                  split at h1
                  · rename_i hii
                    subst hii
                    cases h1
                    rcases splice_get hc3 h2 with ⟨q1, q2, h3⟩ | ⟨q1, h3⟩
                    · rw [if_pos (by rw [← hcl]; omega), show i * o.es + j' - (i * o.es + j) = j' - j by omega]
                      have hlt : j' - j < vv.cells.size := by rw [← hcl]; omega
                      refine ⟨vv.cells[j' - j], by rw [Array.getElem?_toList]; exact Array.getElem?_eq_getElem hlt, hcr _ u _ h3 (Array.getElem?_eq_getElem hlt)⟩
                    · rw [if_neg (by rw [← hcl]; omega)]
                      exact ha.cells _ _ u (cellAt_mk hr h3)
                  · rename_i hii
                    have hj' : j' < o.es := hrow r' h1 (List.getElem?_eq_some_iff.1 h2).1
                    rw [if_neg]
                    · exact ha.cells _ _ u (cellAt_mk h1 h2)
                    · intro hcon
                      rw [← hcl] at hcon
                      rcases Nat.lt_or_gt_of_ne hii with hlt | hgt
                      · have : (i + 1) * o.es ≤ i' * o.es := Nat.mul_le_mul_right _ hlt
                        rw [Nat.add_mul] at this; omega
                      · have : (i' + 1) * o.es ≤ i * o.es := Nat.mul_le_mul_right _ hgt
                        rw [Nat.add_mul] at this; omega
          · cases h
        · cases h
      · cases h
    · cases h
  · cases h
end
end Go.Lift
