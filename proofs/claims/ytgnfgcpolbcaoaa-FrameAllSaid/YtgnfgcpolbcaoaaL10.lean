/-
  Slice literals; len, min, max, append as they are called; one operation that is no call of a Go function.
-/
import Derived.Test.YtgnfgcpolbcaoaaL9
namespace Go.Lift

section
variable {P : Program} {T : TypeId → Option TI}

theorem flatten_replicate_get (z : List V) : ∀ (n k : Nat), k < n * z.length → ((List.replicate n z).flatten)[k]? = z[k % z.length]?
  | 0, k, h => by simp at h
  | n + 1, k, h => by
    rw [List.replicate_succ, List.flatten_cons]
    by_cases hk : k < z.length
    · rw [List.getElem?_append_left hk, Nat.mod_eq_of_lt hk]
    · rw [List.getElem?_append_right (by omega), flatten_replicate_get z n (k - z.length) (by rw [Nat.add_mul] at h; omega)]
      congr 1
      rw [← Nat.mod_eq_sub_mod (by omega)]

theorem rowsOf_length (es : Nat) : ∀ (n : Nat) (cs : List V), (rowsOf es n cs).length = n
  | 0, _ => rfl
  | n + 1, cs => by simp [rowsOf, rowsOf_length es n]
theorem rowsOf_rows (es : Nat) : ∀ (n : Nat) (cs : List V), n * es ≤ cs.length → ∀ r ∈ rowsOf es n cs, r.length = es
  | 0, _, _, r, h => by simp [rowsOf] at h
  | n + 1, cs, hl, r, h => by
    rw [Nat.add_mul] at hl
    simp only [rowsOf, List.mem_cons] at h
    rcases h with rfl | h
    · rw [List.length_take]; omega
    · exact rowsOf_rows es n _ (by rw [List.length_drop]; omega) r h
theorem rowsOf_cell (es : Nat) : ∀ (n : Nat) (cs : List V) (i j : Nat) (u : V), cellAt (rowsOf es n cs) i j = some u → cs[i * es + j]? = some u
  | 0, _, i, j, u, h => by simp [rowsOf, cellAt] at h
  | n + 1, cs, i, j, u, h => by
    obtain ⟨r, h1, h2⟩ := cellAt_some h
    cases i with
    | zero =>
      simp [rowsOf] at h1; subst h1
      rw [List.getElem?_take] at h2
      split at h2
      · simpa using h2
      · cases h2
    | succ i =>
      simp [rowsOf] at h1
      have := rowsOf_cell es n (cs.drop es) i j u (cellAt_mk h1 h2)
      rw [List.getElem?_drop] at this
      rw [← this]; congr 1; rw [Nat.add_mul]; omega

theorem aBuildSlice_sound (hT : TypesOk P T) {w0 w : World} {ex I γ g} (hi : Inv w0 ex I γ g w) {nm : Nat} {t : TypeId} {len : Nat} {partsV : List (Nat × V)} {parts : Array (Nat × Value)} {e : Eff} (hl : parts.toList.length = partsV.length)
    (hp : ∀ (k : Nat) (i i' : Nat) (v : V) (x : Value), partsV[k]? = some (i, v) → parts.toList[k]? = some (i', x) → i = i' ∧ Rd w I γ v x) (h : aBuildSlice T g nm t len partsV = some e) :
    ∃ r w' γ', (Instr.buildSlice t len parts).run P w = .ok r w' ∧ Rd w' I γ' e.v r ∧ Inv w0 ex I γ' (setAll g e.wr) w' ∧ Ext I γ w I γ' w' := by
  unfold aBuildSlice at h
  split at h
  · rename_i el hd
    split at h
    · rename_i ei hei
      split at h
      · rename_i hc
        obtain ⟨c1, c2, c3⟩ := hc
        split at h
        · rename_i cs hf
          split at h
          · rename_i hcel
            obtain ⟨hn, hv, hwr⟩ := fresh_some h
            obtain ⟨z, z1, z2, z3⟩ := (hT el ei hei).run_zero w
            have hzl : ei.zero.length = ei.size := by rw [← z3]; simp [z2]
            have hfl : (List.replicate len ei.zero).flatten.length = len * ei.size := by simp [hzl]
            obtain ⟨xs, x1, x2, x3, x4⟩ := fillV_sound (w := w) (I := I) (γ := γ) (place := fun i => some (i * ei.size, ei.size)) (fun i p hpl => hpl) partsV parts.toList (List.replicate len ei.zero).flatten cs
              ((Array.range (len * ei.size)).map (z.cells[· % z.cells.size]!)) hl hp (by rw [hfl]; simp) (fun j u x hu hx => by
                have hj : j < len * ei.size := by rw [← hfl]; exact (List.getElem?_eq_some_iff.1 hu).1
                rw [flatten_replicate_get _ _ _ (by rw [hzl]; exact hj), hzl] at hu
                rw [Array.getElem?_map] at hx
                have hm : j % ei.size < z.cells.size := by rw [z2]; exact Nat.mod_lt _ c3
                simp only [Array.getElem?_range, hj, if_true, Option.map_some, Option.some.injEq, z2] at hx
                rw [getElem!_pos z.cells _ hm] at hx
                subst hx
                exact zero_cells z3 hu (Array.getElem?_eq_getElem hm)) hf
            have hA := hi.alloc (w' := w.alloc (.cells xs el)) hn (cur := xs) (fr := (0, 0)) (o := ⟨el, ei.size, rowsOf ei.size len cs, true, flOf cs, .rw⟩) (cap := len) rfl ⟨rfl, rfl, rfl⟩ (.inl (Nat.le_refl _)) (by rw [← x2, x3, hfl]) (by simp [rowsOf_length]) (fun _ => rowsOf_length _ _ _) (by simp [maxLen]; omega)
              (rowsOf_rows _ _ _ (by rw [x3, hfl]; exact Nat.le_refl _)) (fun i j u hu => cellularAll_get hcel _ u (rowsOf_cell _ _ _ _ _ _ hu)) (fun hf i j u hu => (flOf_one rfl (rowsOf_cell _ _ _ _ _ _ hu)).1 hf) (fun hf i j u hu => (flOf_one rfl (rowsOf_cell _ _ _ _ _ _ hu)).2 hf)
              (fun i j u hu => by
                have hu' := rowsOf_cell _ _ _ _ _ _ hu
                have hlt : i * ei.size + j < xs.size := by rw [← x2]; exact (List.getElem?_eq_some_iff.1 hu').1
                exact ⟨xs[i * ei.size + j], Array.getElem?_eq_getElem hlt, x4 _ u _ hu' (Array.getElem?_eq_getElem hlt)⟩) rfl
            rw [hwr, setAll_one, hv]
            refine ⟨.slice (some ⟨w.heap.size, 0, none⟩) len len, _, _, ?_, ?_, hA.1, hA.2⟩
            · unfold Instr.buildSlice
              simp only [Sem.run_bind, desc_under hT hd, Result.andThen_ok, (hT el ei hei).run_size w]
              rw [if_neg (by omega)]
              by_cases h0 : len * ei.size = 0
              · have hlen0 : len = 0 := by rcases Nat.mul_eq_zero.1 h0 with h | h <;> omega
                subst hlen0
                simp only [Nat.zero_mul, if_true, Sem.run_bind, Sem.run_pure, Result.andThen_ok]
                have hx1 : Instr.fill (fun i => some (i * ei.size, ei.size)) ((Array.range 0).map fun x => (#[] : Array Value)[x % (#[] : Array Value).size]!) parts.toList = some xs := by
                  rw [← x1]; congr 1; simp
                rw [hx1]; rfl
              · rw [if_neg h0]
                simp only [Sem.run_bind, z1, Result.andThen_ok, Sem.run_pure, x1]
                rfl
            · exact .own _ _ _ _ _ _ ⟨w.heap.size, len, ei.size, false⟩ (by simp [gUp]) rfl (by simp) (Nat.le_refl _) (by simp [maxLen]; omega) (fun _ => by simp)
          · cases h
        · cases h
      · cases h
    · cases h
  · cases h

theorem scalarRows_get : ∀ {rs : List (List V)}, scalarRows rs = true → ∀ r ∈ rs, V.scalar.scalarAll r = true
  | [], _, r, h => by cases h
  | x :: rs, hs, r, h => by
    simp only [scalarRows, Bool.and_eq_true] at hs
    rcases List.mem_cons.1 h with rfl | h
    · exact hs.1
    · exact scalarRows_get hs.2 r h

/-- The elements of a slice as a source. -/
theorem src_of (hT : TypesOk P T) {w0 w : World} {ex I γ g} (hi : Inv w0 ex I γ g w) {y : V} {vy : Value} {es : List (List V)} {rd : List Nat} (hy : Rd w I γ y vy) (he : elemsOf g y = some (es, rd)) {tx e' : TypeId} (hd : descOf T tx = some (.slice e')) {size : Nat} (hsz : ∀ r ∈ es, r.length = size) :
    Src P w I γ size tx vy es (flOfSrc g y) := by
  obtain ⟨ti, t1, t2⟩ := descOf_some hd
  have hu : P.underlying tx = some (.slice e') := by rw [← t2]; exact (hT tx ti t1).under
  unfold elemsOf at he
  split at he
  · cases he
    cases hy with
    | nil => exact .ofSlice hu _ _ _ rfl (by simp) (by simp [cellAt]) (by simp [cellAt]) (by simp [cellAt]) (by simp [cellAt])
    | sl _ _ _ _ a n c xs h0 h1' hlen hnc hcm hes hcel hcell hr =>
      refine .ofSlice hu _ _ _ hlen hsz hcel (fun _ i j u hu => (hr i j u hu).closed_of_noG rfl) (fun hf i j u hu => ?_) (fun i j u hu => ⟨a, xs i j, rfl, ?_, (hr i j u hu).closed ((hr i j u hu).closed_of_noG rfl) γ⟩)
      · simp only [flOfSrc] at hf
        split at hf
        · rename_i hsc
          obtain ⟨r, h1, h2⟩ := cellAt_some hu
          exact V.scalarAll_get (scalarRows_get hsc r (List.mem_of_getElem? h1)) j u h2
        · omega
      · obtain ⟨r, hr1, _⟩ := cellAt_some hu
        have : size = _ := (hsz r (List.mem_of_getElem? hr1)).symm.trans (hes r (List.mem_of_getElem? hr1))
        rw [this]; exact (hcell i j u hu).2
  · rename_i nm off n
    split at he
    · rename_i o hg
      split at he
      · rename_i hcond
        obtain ⟨hmd, hle⟩ := hcond
        cases he
        have hob := hi.obj nm o hg hmd
        have hlen : ((o.elems.drop off).take n).length = n := by rw [List.length_take, List.length_drop]; omega
        have hfl : flOfSrc g (.own nm off n) = o.fl := by simp [flOfSrc, hg]
        rw [hfl]
        have mk : ∀ A c, (∀ i j u, cellAt ((o.elems.drop off).take n) i j = some u → ∃ a y, A = some a ∧ w.cell? (a.add (i * size + j)) = some y ∧ Rd w I γ u y) → Src P w I γ size tx (.slice A n c) ((o.elems.drop off).take n) o.fl := fun A c hc =>
          .ofSlice hu A n c hlen hsz (fun i j u hu => hob.cel _ _ u (cellAt_cut hu)) (fun hf i j u hu => hob.closed hf _ _ u (cellAt_cut hu)) (fun hf i j u hu => hob.scalar hf _ _ u (cellAt_cut hu)) hc
        cases hy with
        | ownnil => exact mk _ _ (fun i j u hu => by simp [cellAt] at hu)
        | own _ _ _ _ c oo gi hγ hnn hcap hnc hcm ho =>
          obtain ⟨cur, fr, ha⟩ := hi.at_own hg hmd hγ hnn
          refine mk _ _ (fun i j u hu => ?_)
          obtain ⟨q1, q2⟩ := cellAt_lt hsz hu
          rw [hlen] at q1
          obtain ⟨r, hr1, _⟩ := cellAt_some hu
          have hrm := List.mem_of_getElem? hr1
          have e1 : size = o.es := (hsz r hrm).symm.trans (hob.rows r (List.mem_of_mem_drop (List.mem_of_mem_take hrm)))
          obtain ⟨y, y1, y2⟩ := ha.cells _ _ _ (cellAt_cut hu)
          refine ⟨_, y, rfl, ?_, y2⟩
          rw [add_lit, cell_of_row w gi.blk _ cur o.et fr ha.heap, ho (by omega), ha.es, e1, ← Nat.add_assoc, ← Nat.add_mul]
          exact y1
      · cases he
    · cases he
  · cases he
end
end Go.Lift
