/-
  Conversions, literals, len, min, max.
-/
import Derived.Test.YtgnfgcpolbcaoaaL8
import Derived.Laws.BytesArg
namespace Go.Lift

section
variable {P : Program} {T : TypeId → Option TI}

theorem isByte_some (hT : TypesOk P T) {e : TypeId} (h : isByte T e = true) : P.underlying e = some (.int .u8) ∧ ∃ ei, T e = some ei ∧ ei.size = 1 := by
  unfold isByte at h
  split at h
  · rename_i ti ht
    split at h
    · rename_i hd
      exact ⟨by rw [← hd]; exact (hT e ti ht).under, ti, ht, by simpa using h⟩
    · cases h
  · cases h

theorem bytesOf_some : ∀ {es : List (List V)} {l : List UInt8}, bytesOf es = some l → ∃ ns : List Int, ns.length = es.length ∧ l = ns.map (fun n => UInt8.ofNat n.toNat) ∧ ∀ i, (h : i < ns.length) → es[i]? = some [.int .u8 ns[i]]
  | [], l, h => by cases h; exact ⟨[], rfl, rfl, fun i h => absurd h (by simp)⟩
  | e :: es, l, h => by
    simp only [bytesOf] at h
    split at h
    · rename_i n l' hl'
      cases h
      obtain ⟨ns, h1, h2, h3⟩ := bytesOf_some hl'
      refine ⟨n :: ns, by simp [h1], by simp [h2], fun i hi => ?_⟩
      cases i with
      | zero => rfl
      | succ i => simpa using h3 i (by simpa using hi)
    · cases h

/-- The elements of a slice of bytes, loaded. -/
theorem elems_bytes {w0 w : World} {ex I γ g} (hi : Inv w0 ex I γ g w) {x : V} {vx : Value} {es : List (List V)} {rd : List Nat} (hx : Rd w I γ x vx) (he : elemsOf g x = some (es, rd)) {l : List UInt8} (hl : bytesOf es = some l) :
    ∃ A n c, vx = .slice A n c ∧ ((A = none ∧ es = []) ∨ ∃ (a : Addr) (ns : List Int), A = some a ∧ l = ns.map (fun m => UInt8.ofNat m.toNat) ∧ (loadCells a n).run P w = .ok (ns.map (Value.int .u8)).toArray w) := by
  obtain ⟨ns, h1, h2, h3⟩ := bytesOf_some hl
  have fin : ∀ (a : Addr), (∀ i j u, cellAt es i j = some u → ∀ sz, (∀ r ∈ es, r.length = sz) → ∃ y, w.cell? (a.add (i * sz + j)) = some y ∧ Rd w I γ u y) → (loadCells a es.length).run P w = .ok (ns.map (Value.int .u8)).toArray w := by
    intro a hc
    have hsz : ∀ r ∈ es, r.length = 1 := by
      intro r hr
      obtain ⟨k, hk, hkr⟩ := List.mem_iff_getElem.1 hr
      have := h3 k (by omega)
      rw [List.getElem?_eq_getElem hk, hkr] at this
      cases this; rfl
    have := run_loadCells_list (P := P) w a (ns.map (Value.int .u8)) (fun j v hv => by
      rw [List.getElem?_map] at hv
      cases hn : ns[j]? with
      | none => rw [hn] at hv; cases hv
      | some n =>
        rw [hn] at hv
        cases hv
        obtain ⟨hj, hjn⟩ := List.getElem?_eq_some_iff.1 hn
        have h4 := h3 j hj
        rw [hjn] at h4
        obtain ⟨y, y1, y2⟩ := hc j 0 _ (cellAt_mk h4 rfl) 1 hsz
        cases y2
        rw [Nat.mul_one, Nat.add_zero] at y1
        exact y1)
    rw [List.length_map, h1] at this
    exact this
  unfold elemsOf at he
  split at he
  · cases he
    cases hx with
    | nil => exact ⟨none, 0, 0, rfl, .inl ⟨rfl, rfl⟩⟩
    | sl _ _ _ _ a n c xs h0 h1' hlen hnc hcm hes hcel hcell hr =>
      refine ⟨some a, n, c, rfl, .inr ⟨a, ns, rfl, h2, ?_⟩⟩
      rw [← hlen]
      refine fin a fun i j u hu sz hsz => ⟨xs i j, ?_, (hr i j u hu).closed ((hr i j u hu).closed_of_noG rfl) γ⟩
      obtain ⟨r, hr1, _⟩ := cellAt_some hu
      have : sz = _ := (hsz r (List.mem_of_getElem? hr1)).symm.trans (hes r (List.mem_of_getElem? hr1))
      rw [this]; exact (hcell i j u hu).2
  · rename_i nm off n
    split at he
    · rename_i o hg
      split at he
      · rename_i hcond
        obtain ⟨hmd, hle⟩ := hcond
        cases he
        cases hx with
        | ownnil _ _ A gi hγ hnn =>
          cases A with
          | none => exact ⟨none, 0, 0, rfl, .inl ⟨rfl, by simp⟩⟩
          | some a =>
            refine ⟨some a, 0, 0, rfl, .inr ⟨a, ns, rfl, h2, ?_⟩⟩
            have := fin a (fun i j u hu => by simp [cellAt] at hu)
            simpa using this
        | own _ _ _ _ c oo gi hγ hnn hcap hnc hcm ho =>
          obtain ⟨cur, fr, ha⟩ := hi.at_own hg hmd hγ hnn
          have hob := hi.obj nm o hg hmd
          have hlen : ((o.elems.drop off).take n).length = n := by rw [List.length_take, List.length_drop]; omega
          refine ⟨some ⟨gi.blk, oo, none⟩, n, c, rfl, .inr ⟨_, ns, rfl, h2, ?_⟩⟩
          rw [hlen] at fin
          refine fin _ fun i j u hu sz hsz => ?_
          obtain ⟨q1, q2⟩ := cellAt_lt hsz hu
          rw [hlen] at q1
          obtain ⟨r, hr1, _⟩ := cellAt_some hu
          have hrm := List.mem_of_getElem? hr1
          have e1 : sz = o.es := (hsz r hrm).symm.trans (hob.rows r (List.mem_of_mem_drop (List.mem_of_mem_take hrm)))
          obtain ⟨y, y1, y2⟩ := ha.cells _ _ _ (cellAt_cut hu)
          refine ⟨y, ?_, y2⟩
          rw [add_lit, cell_of_row w gi.blk _ cur o.et fr ha.heap, ho (by omega), ha.es, e1, ← Nat.add_assoc, ← Nat.add_mul]
          exact y1
      · cases he
    · cases he
  · cases he

theorem aConv_sound (hT : TypesOk P T) {w0 w : World} {ex I γ g} (hi : Inv w0 ex I γ g w) {nm : Nat} {src dst : TypeId} {x : V} {vx : Value} {e : Eff} (hx : Rd w I γ x vx) (h : aConv T g nm src dst x = some e) :
    ∃ r w' γ', (convert src dst vx).run P w = .ok r w' ∧ Rd w' I γ' e.v r ∧ Inv w0 ex I γ' (setAll g e.wr) w' ∧ Ext I γ w I γ' w' := by
  unfold aConv at h
  split at h
  · rename_i d k _ n hd1 hd2
    cases h; cases hx
    refine ⟨_, w, γ, ?_, .int _ _ _, hi, Ext.refl _ _ _⟩
    unfold convert
    rw [Sem.run_bind, desc_under hT hd1, Result.andThen_ok, Sem.run_bind, desc_under hT hd2, Result.andThen_ok]
    cases d <;> rfl
  · rename_i d s hd1 hd2
    cases h; cases hx
    refine ⟨_, w, γ, ?_, .str _ _, hi, Ext.refl _ _ _⟩
    unfold convert
    rw [Sem.run_bind, desc_under hT hd1, Result.andThen_ok, Sem.run_bind, desc_under hT hd2, Result.andThen_ok]
    cases d <;> rfl
  · rename_i el hd1 hd2 _
    split at h
    · rename_i hb
      obtain ⟨hb1, ei, hb2, _⟩ := isByte_some hT hb
      split at h
      · rename_i es rd he
        cases hl : bytesOf es with
        | none => rw [hl] at h; cases h
        | some l =>
          rw [hl] at h; cases h
          obtain ⟨A, n, c, rfl, hor⟩ := elems_bytes (P := P) hi hx he hl
          obtain ⟨t1, s1, s2⟩ := descOf_some hd1
          obtain ⟨t2, s3, s4⟩ := descOf_some hd2
          have hu1 : P.underlying src = some (.slice el) := by rw [← s2]; exact (hT src t1 s1).under
          have hu2 : P.underlying dst = some .string := by rw [← s4]; exact (hT dst t2 s3).under
          rw [run_convert_bytes_string w src dst el A n c hu1 hb1 hu2]
          rcases hor with ⟨rfl, rfl⟩ | ⟨a, ns, rfl, h2, h3⟩
          · cases hl
            exact ⟨_, w, γ, rfl, .str _ _, hi, Ext.refl _ _ _⟩
          · refine ⟨_, w, γ, run_bytesToString (P := P) w a n c ns h3, ?_, hi, Ext.refl _ _ _⟩
            rw [foldl_push_bytes, h2]
            have : (⟨ByteArray.empty.data ++ (ns.map fun n => UInt8.ofNat n.toNat).toArray⟩ : ByteArray) = ⟨(ns.map fun n => UInt8.ofNat n.toNat).toArray⟩ := by
              rw [show ByteArray.empty.data = #[] from rfl]; simp
            rw [this]; exact .str _ _
      · cases h
    · cases h
  · rename_i el s hd1 hd2
    split at h
    · rename_i hb
      simp only [Bool.and_eq_true, decide_eq_true_eq] at hb
      obtain ⟨hb0, hsz⟩ := hb
      obtain ⟨hb1, ei, hb2, _⟩ := isByte_some hT hb0
      obtain ⟨hn, hv, hwr⟩ := fresh_some h
      cases hx
      rw [hwr, setAll_one, hv]
      have hge := grownCap_ge w s.size 0 el
      have hcm := grownCap_le_maxLen w s.size 0 el hsz
      have hcs : ((s.data.map fun b => Value.int .u8 b.toNat) ++ Array.replicate (grownCap w s.size 0 el - s.size) (Value.int .u8 0)).size = grownCap w s.size 0 el := by
        simp only [Array.size_append, Array.size_map, Array.size_replicate]
        show s.size + _ = _
        omega
      have hrun : (convert src dst (.string s)).run P w = .ok (.slice (some ⟨w.heap.size, 0, none⟩) s.size (grownCap w s.size 0 el))
          (((w.drew.alloc (.cells ((s.data.map fun b => Value.int .u8 b.toNat) ++ Array.replicate (grownCap w s.size 0 el - s.size) (.int .u8 0)) el))).freeze ⟨w.heap.size, grownCap w s.size 0 el, none⟩ 1) := by
        unfold convert
        rw [Sem.run_bind, desc_under hT hd1, Result.andThen_ok, Sem.run_bind, desc_under hT hd2, Result.andThen_ok]
        simp only [Sem.run_bind, run_underlying hb1, Result.andThen_ok]
        unfold Conv.stringToBytes
        have hsh : ((w.drew.alloc (.cells ((s.data.map fun b => Value.int .u8 b.toNat) ++ Array.replicate (grownCap w s.size 0 el - s.size) (.int .u8 0)) el))).shape? w.heap.size = some (el, grownCap w s.size 0 el) := by
          simp only [World.shape?, World.alloc]
          rw [show w.drew.heap = w.heap from rfl, Array.getElem?_push, if_pos rfl]
          simp only [hcs]
        simp only [Sem.run_bind, run_choose, Question.forced, Bool.false_eq_true, if_false, Result.andThen_ok, newRow, run_newObj, markStringish, run_shape, Sem.run_pure]
        show (Result.andThen (Sem.run P (match (World.shape? (w.drew.alloc (.cells ((s.data.map fun b => Value.int .u8 b.toNat) ++ Array.replicate (grownCap w s.size 0 el - s.size) (.int .u8 0)) el)) w.heap.size) with
            | some (_, n) => Go.freeze { block := w.heap.size, off := n } 1
            | _ => pure ()) (w.drew.alloc (.cells ((s.data.map fun b => Value.int .u8 b.toNat) ++ Array.replicate (grownCap w s.size 0 el - s.size) (.int .u8 0)) el))) _) = _
        rw [hsh]
        rfl
      have hA := hi.alloc (w' := ((w.drew.alloc (.cells ((s.data.map fun b => Value.int .u8 b.toNat) ++ Array.replicate (grownCap w s.size 0 el - s.size) (.int .u8 0)) el))).freeze ⟨w.heap.size, grownCap w s.size 0 el, none⟩ 1) hn
        (cur := (s.data.map fun b => Value.int .u8 b.toNat) ++ Array.replicate (grownCap w s.size 0 el - s.size) (.int .u8 0)) (fr := (grownCap w s.size 0 el, grownCap w s.size 0 el + 1)) (o := ⟨el, 1, byteRow s.data.toList, false, 2, .rw⟩) (cap := grownCap w s.size 0 el)
        (by
          simp only [World.freeze, World.alloc, World.drew]
          rw [if_neg (by decide)]
          apply Array.ext_getElem?
          intro b
          rw [Array.getElem?_modify]
          by_cases e : w.heap.size = b
          · subst e
            rw [if_pos rfl, Array.getElem?_push, if_pos rfl, Array.getElem?_push, if_pos rfl]
            simp
          · rw [if_neg e, Array.getElem?_push, Array.getElem?_push, if_neg (fun h => e h.symm), if_neg (fun h => e h.symm)])
        ⟨by simp only [World.freeze]; split <;> rfl, by simp only [World.freeze]; split <;> rfl, by simp only [World.freeze]; split <;> rfl⟩ (.inr (by rw [hcs]; exact Nat.le_refl _)) (by rw [hcs, Nat.mul_one])
        (by simp only [byteRow, List.length_map, Array.length_toList]; exact hge) (fun h => by cases h) hcm
        (fun r hr => by
          obtain ⟨b, _, rfl⟩ := List.mem_map.1 hr
          rfl)
        (fun i j u hu => by obtain ⟨b, _, _, rfl⟩ := byteRow_get hu; rfl) (fun _ i j u hu => by obtain ⟨b, _, _, rfl⟩ := byteRow_get hu; rfl) (fun _ i j u hu => by obtain ⟨b, _, _, rfl⟩ := byteRow_get hu; rfl)
        (fun i j u hu => by
          obtain ⟨b, hb, rfl, rfl⟩ := byteRow_get hu
          refine ⟨.int .u8 b.toNat, ?_, .int _ _ _⟩
          rw [Array.getElem?_toList] at hb
          have hlt : i < s.data.size := (Array.getElem?_eq_some_iff.1 hb).1
          rw [Nat.mul_one, Nat.add_zero, Array.getElem?_append_left (by simpa using hlt), Array.getElem?_map, hb]; rfl) rfl
      refine ⟨_, _, _, hrun, ?_, hA.1, hA.2⟩
      exact .own _ _ _ _ _ _ ⟨w.heap.size, grownCap w s.size 0 el, 1, false⟩ (by simp [gUp]) rfl (by simp) hge hcm (fun _ => by simp)
    · cases h
  · cases h

theorem mapM_run {α β : Type} (f : α → Sem β) (f' : α → β) (w : World) : ∀ l : List α, (∀ x ∈ l, (f x).run P w = .ok (f' x) w) → (l.mapM f).run P w = .ok (l.map f') w
  | [], _ => by simp
  | x :: l, h => by
    simp only [List.mapM_cons, Sem.run_bind, h x (List.mem_cons_self ..), Result.andThen_ok, mapM_run f f' w l (fun y hy => h y (List.mem_cons_of_mem _ hy)), Sem.run_pure, List.map_cons]

theorem fold_set : ∀ (xs : List Value) (s off : Nat) (cells : Array Value), off + s + xs.length ≤ cells.size →
    ((xs.zipIdx s).foldl (fun cs (c, j) => cs.setIfInBounds (off + j) c) cells).size = cells.size ∧
    ∀ k, ((xs.zipIdx s).foldl (fun cs (c, j) => cs.setIfInBounds (off + j) c) cells)[k]? = if off + s ≤ k ∧ k < off + s + xs.length then xs[k - (off + s)]? else cells[k]?
  | [], s, off, cells, _ => ⟨rfl, fun k => by rw [if_neg (by simp)]; rfl⟩
  | x :: xs, s, off, cells, h => by
    simp only [List.length_cons] at h
    obtain ⟨h1, h2⟩ := fold_set xs (s + 1) off (cells.setIfInBounds (off + s) x) (by simp; omega)
    simp only [List.zipIdx_cons, List.foldl_cons]
    refine ⟨by rw [h1]; simp, fun k => ?_⟩
    rw [h2]
    simp only [List.length_cons]
    by_cases c1 : off + (s + 1) ≤ k ∧ k < off + (s + 1) + xs.length
    · rw [if_pos c1, if_pos (by omega), show k - (off + s) = (k - (off + (s + 1))) + 1 by omega, List.getElem?_cons_succ]
    · rw [if_neg c1]
      by_cases c2 : k = off + s
      · subst c2
        rw [if_pos (by omega)]
        simp [show off + s < cells.size by omega]
      · rw [if_neg (by omega), Array.getElem?_setIfInBounds_ne (fun h => c2 h.symm)]

theorem fillV_sound {w : World} {I γ} {placeV place : Nat → Option (Nat × Nat)} (hp : ∀ i p, placeV i = some p → place i = some p) : ∀ (partsV : List (Nat × V)) (parts : List (Nat × Value)) (cs cs' : List V) (xs : Array Value), parts.length = partsV.length →
    (∀ (k : Nat) (i i' : Nat) (v : V) (x : Value), partsV[k]? = some (i, v) → parts[k]? = some (i', x) → i = i' ∧ Rd w I γ v x) → cs.length = xs.size → (∀ (j : Nat) (u : V) (x : Value), cs[j]? = some u → xs[j]? = some x → Rd w I γ u x) →
    fillV placeV cs partsV = some cs' → ∃ xs', Instr.fill place xs parts = some xs' ∧ cs'.length = xs'.size ∧ cs'.length = cs.length ∧ (∀ (j : Nat) (u : V) (x : Value), cs'[j]? = some u → xs'[j]? = some x → Rd w I γ u x)
  | [], parts, cs, cs', xs, hl, _, hlen, hr, h => by
    cases List.eq_nil_of_length_eq_zero hl
    cases h
    exact ⟨xs, rfl, hlen, rfl, hr⟩
  | (i, v) :: pv, parts, cs, cs', xs, hl, hpr, hlen, hr, h => by
    cases parts with
    | nil => simp at hl
    | cons p ps =>
      obtain ⟨i', x⟩ := p
      obtain ⟨rfl, hvx⟩ := hpr 0 i i' v x rfl rfl
      simp only [fillV] at h
      split at h
      · cases h
      · rename_i off size hpl
        split at h
        · rename_i hc
          obtain ⟨c1, c2, c3⟩ := hc
          have hnj : v ≠ .junk := fun e => by subst e; simp [V.isJunk] at c3
          obtain ⟨q1, q2⟩ := hvx.cells hnj
          have hf := fold_set x.cells.toList 0 off xs (by rw [Array.length_toList, ← q1, ← hlen]; omega)
          have hfold : x.cells.zipIdx.foldl (fun cs (c, j) => cs.setIfInBounds (off + j) c) xs = (x.cells.toList.zipIdx 0).foldl (fun cs (c, j) => cs.setIfInBounds (off + j) c) xs := by
            rw [← Array.foldl_toList, Array.toList_zipIdx]
          rw [← hfold] at hf
          obtain ⟨f1, f2⟩ := hf
          have hspl := splice_length (r := cs) (cs := v.cells) (j := off) c2
          obtain ⟨xs', r1, r2, r3, r4⟩ := fillV_sound hp pv ps (splice cs off v.cells) cs' _ (by simpa using hl) (fun k i i' v x h1 h2 => hpr (k + 1) i i' v x (by simpa using h1) (by simpa using h2)) (by rw [hspl, f1, hlen]) (fun j u y hu hy => by
            rw [f2] at hy
            rcases splice_get c2 hu with ⟨s1, s2, s3⟩ | ⟨s1, s3⟩
            · rw [if_pos (by rw [Array.length_toList, ← q1]; omega), Array.getElem?_toList, Nat.add_zero] at hy
              exact q2 _ u y s3 hy
            · rw [if_neg (by rw [Array.length_toList, ← q1]; omega)] at hy
              exact hr j u y s3 hy) h
          refine ⟨xs', ?_, r2, r3.trans hspl, r4⟩
          simp only [Instr.fill, hp _ _ hpl]
          have hcnd : (decide (x.cells.size ≠ size) || decide (off + x.cells.size > xs.size)) = false := by
            simp only [Bool.or_eq_false_iff, decide_eq_false_iff_not, Decidable.not_not]
            exact ⟨q1.symm.trans c1, by rw [← q1, ← hlen]; omega⟩
          rw [if_neg (by rw [hcnd]; decide)]
          exact r1
        · cases h

theorem aBuild_sound (hT : TypesOk P T) {w : World} {I γ} {t : TypeId} {partsV : List (Nat × V)} {parts : Array (Nat × Value)} {v : V} (hl : parts.toList.length = partsV.length)
    (hp : ∀ (k : Nat) (i i' : Nat) (v : V) (x : Value), partsV[k]? = some (i, v) → parts.toList[k]? = some (i', x) → i = i' ∧ Rd w I γ v x) (h : aBuild T t partsV = some v) :
    ∃ r, (Instr.build t parts).run P w = .ok r w ∧ Rd w I γ v r := by
  unfold aBuild at h
  split at h
  · rename_i fs sz by_ zero ag ht
    split at h
    · rename_i hall
      have ht' := hT t _ ht
      obtain ⟨z, z1, z2, z3⟩ := ht'.run_zero w
      have hu := ht'.run_under w
      have hm : (fs.mapM fun f : Field => do pure (f.offset, ← sizeOf f.type)).run P w = .ok (fs.map fun f : Field => (f.offset, ((T f.type).map (·.size)).getD 0)) w := by
        rw [Array.mapM_eq_mapM_toList]
        simp only [Sem.run_map]
        rw [mapM_run (P := P) _ (fun f : Field => (f.offset, ((T f.type).map (·.size)).getD 0)) w fs.toList]
        · simp [← Array.toList_map]
        · intro f hf
          have hs : (T f.type).isSome = true := by
            have := Array.all_eq_true_iff_forall_mem.1 hall f (Array.mem_toList_iff.1 hf); exact this
          cases hft : T f.type with
          | none => rw [hft] at hs; cases hs
          | some fi => simp only [Sem.run_bind, (hT _ _ hft).run_size w, Result.andThen_ok, Sem.run_pure, Option.map_some, Option.getD_some]
      cases hf : fillV (placeOf T fs) zero partsV with
      | none => rw [hf] at h; cases h
      | some cs =>
        rw [hf] at h; cases h
        obtain ⟨xs, x1, x2, _, x4⟩ := fillV_sound (w := w) (I := I) (γ := γ) (place := ((fs.map fun f : Field => (f.offset, ((T f.type).map (·.size)).getD 0))[·]?)) (fun i p hpl => by
          rw [Array.getElem?_map]
          unfold placeOf at hpl
          cases hfi : fs[i]? with
          | none => rw [hfi] at hpl; cases hpl
          | some f =>
            rw [hfi] at hpl
            cases hft : T f.type with
            | none => simp only [hft] at hpl; cases hpl
            | some fi => simp only [hft, Option.map_some, Option.some.injEq] at hpl ⊢; subst hpl; simp) partsV parts.toList zero cs z.cells hl hp (by have := congrArg List.length z3; simpa using this.symm) (fun j u x hu hx => zero_cells z3 hu hx) hf
        refine ⟨.agg xs, ?_, .agg _ _ _ x2 x4⟩
        unfold Instr.build
        simp only [Sem.run_bind, z1, hu, Result.andThen_ok, hm, x1, Sem.run_pure]
    · cases h
  · cases h
end
end Go.Lift
