/-
  The operations that make memory: new variables, literals, make, append.
-/
import Derived.Test.YtgnfgcpolbcaoaaL6
import Derived.Laws.MakeOwn
namespace Go.Lift

section
variable {P : Program} {T : TypeId → Option TI}

theorem setAll_one (g : Nat → Option AObj) (n : Nat) (o : AObj) : setAll g [(n, o)] = upd g n (some o) := rfl

theorem fresh_some {nm : Nat} {o : AObj} {v : V} {rd : List Nat} {g : Nat → Option AObj} {e : Eff} (h : fresh nm o v rd g = some e) : g nm = none ∧ e.v = v ∧ e.wr = [(nm, o)] := by
  unfold fresh at h
  split at h
  · cases h; exact ⟨by assumption, rfl, rfl⟩
  · cases h

/-- A new block: what the world is behind. -/
theorem alloc_heap (w : World) (o : Obj) : (w.alloc o).heap = w.heap.push o := rfl

theorem flOf_one {cs : List V} {n : Nat} (h : flOf cs = n) {j : Nat} {u : V} (hu : cs[j]? = some u) : (n ≠ 0 → u.closed = true) ∧ (2 ≤ n → u.scalar = true) :=
  ⟨fun hn => V.closedAll_get (flOf_closed h hn) j u hu, fun hn => V.scalarAll_get (flOf_scalar (by omega)).2 j u hu⟩

theorem cellAt_one {cs : List V} {i j : Nat} {u : V} (h : cellAt [cs] i j = some u) : i = 0 ∧ cs[j]? = some u := by
  obtain ⟨e, he, hu⟩ := cellAt_some h
  cases i with
  | zero => simp at he; subst he; exact ⟨rfl, hu⟩
  | succ i => simp at he

/-- A new variable. -/
theorem newVar_sound {w0 w : World} {ex I γ g} (hi : Inv w0 ex I γ g w) {nm : Nat} (hn : g nm = none) (t : TypeId) (x : Value) (cs : List V) (hl : cs.length = x.cells.size) (hc : cellularAll cs = true)
    (hr : ∀ (j : Nat) (u : V) (y : Value), cs[j]? = some u → x.cells[j]? = some y → Rd w I γ u y) :
    ∃ a w' γ', (newVar t x).run P w = .ok a w' ∧ Rd w' I γ' (.ptr nm 0 0) (.pointer (some a)) ∧ Inv w0 ex I γ' (upd g nm (some ⟨t, cs.length, [cs], true, flOf cs, .rw⟩)) w' ∧ Ext I γ w I γ' w' := by
  have hA := hi.alloc (w' := w.alloc (.cells x.cells t)) hn (cur := x.cells) (fr := (0, 0)) (o := ⟨t, cs.length, [cs], true, flOf cs, .rw⟩) (cap := 1) rfl ⟨rfl, rfl, rfl⟩ (.inl (Nat.le_refl _)) (by simp [hl]) (by simp) (fun _ => rfl) (by simp [maxLen])
    (by simp) (fun i j u hu => cellularAll_get hc j u (cellAt_one hu).2) (fun hf i j u hu => (flOf_one rfl (cellAt_one hu).2).1 hf) (fun hf i j u hu => (flOf_one rfl (cellAt_one hu).2).2 hf)
    (fun i j u hu => by
      obtain ⟨rfl, hu⟩ := cellAt_one hu
      have hlt : j < x.cells.size := by rw [← hl]; exact (List.getElem?_eq_some_iff.1 hu).1
      exact ⟨x.cells[j], by simp, hr j u _ hu (Array.getElem?_eq_getElem hlt)⟩) rfl
  refine ⟨_, _, _, rfl, ?_, hA.1, hA.2⟩
  have := Rd.ptr (w := w.alloc (.cells x.cells t)) (I := I) (gUp γ nm ⟨w.heap.size, 1, cs.length, false⟩) nm 0 0 ⟨w.heap.size, 1, cs.length, false⟩ (by simp [gUp]) rfl
  rw [Nat.zero_mul] at this
  exact this

theorem zero_cells {w : World} {I γ} {ti : TI} {z : Value} (h : z.cells.toList.map ofCell = ti.zero) {j : Nat} {u : V} {y : Value} (hu : ti.zero[j]? = some u) (hy : z.cells[j]? = some y) : Rd w I γ u y := by
  rw [← h, List.getElem?_map, Array.getElem?_toList, hy] at hu
  simp at hu
  subst hu
  exact Rd.ofCell w I γ y

theorem aMake_sound (hT : TypesOk P T) {w0 w : World} {ex I γ g} (hi : Inv w0 ex I γ g w) {nm : Nat} {t : TypeId} {l c : V} {vl vc : Value} {e : Eff} (hl : Rd w I γ l vl) (hc : Rd w I γ c vc) (h : aMake T g nm t l c = some e) :
    ∃ r w' γ', (Instr.makeSlice t vl vc).run P w = .ok r w' ∧ Rd w' I γ' e.v r ∧ Inv w0 ex I γ' (setAll g e.wr) w' ∧ Ext I γ w I γ' w' := by
  unfold aMake at h
  split at h
  · rename_i el kl l kc c hd
    cases hl; cases hc
    split at h
    · rename_i ei hei
      split at h
      · rename_i hcond
        obtain ⟨c1, c2, c3, c4, c5⟩ := hcond
        obtain ⟨hn, hv, hwr⟩ := fresh_some h
        obtain ⟨i, z, hinfo, hsz, hby, hz, hzs, hzc⟩ := (hT el ei hei).info
        obtain ⟨ti, ht1, ht2⟩ := descOf_some hd
        have hu : P.underlying t = some (.slice el) := by rw [← ht2]; exact (hT t ti ht1).under
        have hrun := run_make (P := P) w t el i z hu hinfo hz kl kc l c c1 c2 (by rw [hby]; omega) (by omega)
        have hzl : ei.zero.length = ei.size := by rw [← hzc]; simp [hzs]
        have hcell : ∀ i' j u, cellAt (List.replicate l.toNat ei.zero) i' j = some u → ei.zero[j]? = some u ∧ i' < l.toNat ∧ j < ei.size := by
          intro i' j u hu
          obtain ⟨r, h1, h2⟩ := cellAt_some hu
          rw [List.getElem?_replicate] at h1
          split at h1
          · cases h1; exact ⟨h2, by assumption, by rw [← hzl]; exact (List.getElem?_eq_some_iff.1 h2).1⟩
          · cases h1
        have hA := hi.alloc (w' := w.alloc (.cells (madeCells z.cells (c.toNat * i.size)) el)) hn (cur := madeCells z.cells (c.toNat * i.size)) (fr := (0, 0))
          (o := ⟨el, ei.size, List.replicate l.toNat ei.zero, decide (l = c), flOf ei.zero, .rw⟩) (cap := c.toNat) rfl ⟨rfl, rfl, rfl⟩ (.inl (Nat.le_refl _)) (by rw [size_madeCells, hsz]) (by simp; omega)
          (fun h => by simp at h; simp [h]) (by simp [maxLen]; omega) (fun r hr => by rw [List.eq_of_mem_replicate hr, hzl]) (fun i' j u hu => cellularAll_get c5 j u (hcell i' j u hu).1)
          (fun hf i' j u hu => (flOf_one rfl (hcell i' j u hu).1).1 hf) (fun hf i' j u hu => (flOf_one rfl (hcell i' j u hu).1).2 hf)
          (fun i' j u hu => by
            obtain ⟨q1, q2, q3⟩ := hcell i' j u hu
            have hlt : j < z.cells.size := by rw [hzs]; exact q3
            have hidx : i' * ei.size + j < c.toNat * i.size := by
              rw [hsz]
              have : (i' + 1) * ei.size ≤ c.toNat * ei.size := Nat.mul_le_mul_right _ (by omega)
              rw [Nat.add_mul] at this; omega
            refine ⟨z.cells[j], ?_, zero_cells hzc q1 (Array.getElem?_eq_getElem hlt)⟩
            have hmod : (i' * ei.size + j) % z.cells.size = j := by rw [hzs, Nat.mul_comm, Nat.mul_add_mod, Nat.mod_eq_of_lt q3]
            simp only [madeCells, Array.getElem?_map, Array.getElem?_range, hidx, if_true, Option.map_some, hmod]
            simp [hlt]) rfl
        rw [hwr, setAll_one, hv]
        refine ⟨_, _, _, hrun, ?_, hA.1, hA.2⟩
        refine .own _ _ _ _ _ _ ⟨w.heap.size, c.toNat, ei.size, false⟩ (by simp [gUp]) rfl (by simp) (by omega) (by simp [maxLen]; omega) (fun _ => by simp)
      · cases h
    · cases h
  · cases h

/-- A source of cells to be appended. -/
structure Src (P : Program) (w : World) (I : Nat → Prop) (γ : Nat → Option GI) (size : Nat) (tx : TypeId) (x : Value) (src : List (List V)) (fl : Nat) : Prop where
  noInt : ∃ d, P.underlying tx = some d ∧ (∀ k, d ≠ .int k)
  len : ∀ w', (Builtin.lenOf x).run P w' = .ok src.length w'
  rows : ∀ r ∈ src, r.length = size
  cel : ∀ i j u, cellAt src i j = some u → u.cellular = true
  closed : fl ≠ 0 → ∀ i j u, cellAt src i j = some u → u.closed = true
  scalar : 2 ≤ fl → ∀ i j u, cellAt src i j = some u → u.scalar = true
  cells : ∃ arr : Array Value, arr.size = src.length * size ∧ (∀ w', w'.heap = w.heap → (Builtin.firstCells size src.length x).run P w' = .ok arr w') ∧ (∀ i j u, cellAt src i j = some u → ∃ y, arr[i * size + j]? = some y ∧ Rd w I γ u y)

theorem cellAt_full {rows : List (List V)} {size k : Nat} (hr : ∀ r ∈ rows, r.length = size) (hk : k < rows.length * size) : ∃ u, cellAt rows (k / size) (k % size) = some u ∧ k / size * size + k % size = k := by
  have hs : 0 < size := by
    rcases Nat.eq_zero_or_pos size with h | h
    · subst h; omega
    · exact h
  have h1 : k / size < rows.length := (Nat.div_lt_iff_lt_mul hs).2 hk
  have h2 : k % size < rows[k / size].length := by rw [hr _ (List.getElem_mem h1)]; exact Nat.mod_lt _ hs
  exact ⟨_, cellAt_mk (List.getElem?_eq_getElem h1) (List.getElem?_eq_getElem h2), by rw [Nat.mul_comm]; exact Nat.div_add_mod k size⟩

theorem Src.ofSlice {w : World} {I γ} {size : Nat} {tx e' : TypeId} {src : List (List V)} {fl : Nat} (hk : P.underlying tx = some (.slice e')) (A : Option Addr) (n c : Nat) (hlen : src.length = n) (hrows : ∀ r ∈ src, r.length = size)
    (hcel : ∀ i j u, cellAt src i j = some u → u.cellular = true) (hcl : fl ≠ 0 → ∀ i j u, cellAt src i j = some u → u.closed = true) (hsc : 2 ≤ fl → ∀ i j u, cellAt src i j = some u → u.scalar = true)
    (hcells : ∀ i j u, cellAt src i j = some u → ∃ a y, A = some a ∧ w.cell? (a.add (i * size + j)) = some y ∧ Rd w I γ u y) : Src P w I γ size tx (.slice A n c) src fl := by
  refine ⟨⟨_, hk, fun k h => by cases h⟩, fun w' => by rw [hlen]; rfl, hrows, hcel, hcl, hsc, ?_⟩
  cases A with
  | none =>
    have h0 : src.length * size = 0 := by
      rcases Nat.eq_zero_or_pos (src.length * size) with h | h
      · exact h
      · obtain ⟨u, hu, _⟩ := cellAt_full hrows h
        obtain ⟨a, y, h1, _⟩ := hcells _ _ _ hu
        cases h1
    exact ⟨#[], by rw [h0]; rfl, fun w' _ => rfl, fun i j u hu => by
      obtain ⟨a, y, h1, _⟩ := hcells _ _ _ hu
      cases h1⟩
  | some a =>
    have hcell : ∀ k, k < src.length * size → ∃ y, w.cell? (a.add k) = some y := by
      intro k hk
      obtain ⟨u, hu, he⟩ := cellAt_full hrows hk
      obtain ⟨a', y, h1, h2, _⟩ := hcells _ _ _ hu
      cases h1
      rw [he] at h2
      exact ⟨y, h2⟩
    refine ⟨((List.range (src.length * size)).map fun k => (w.cell? (a.add k)).getD undef).toArray, by simp, fun w' hh => ?_, fun i j u hu => ?_⟩
    · show (loadCells a (src.length * size)).run P w' = _
      refine run_loadCells (P := P) w' a _ _ fun k hk => ?_
      obtain ⟨y, hy⟩ := hcell k hk
      rw [World.cell?_of_block (w := w) (by rw [hh]), hy]; rfl
    · obtain ⟨a', y, h1, h2, h3⟩ := hcells _ _ _ hu
      cases h1
      refine ⟨y, ?_, h3⟩
      obtain ⟨r, hr1, hr2⟩ := cellAt_some hu
      have hlt1 := (List.getElem?_eq_some_iff.1 hr1).1
      have hlt2 : j < size := by rw [← hrows r (List.mem_of_getElem? hr1)]; exact (List.getElem?_eq_some_iff.1 hr2).1
      have hlt : i * size + j < src.length * size := by
        have : (i + 1) * size ≤ src.length * size := Nat.mul_le_mul_right _ hlt1
        rw [Nat.add_mul] at this; omega
      simp [hlt, h2]

theorem byteRow_get {l : List UInt8} {i j : Nat} {u : V} (h : cellAt (byteRow l) i j = some u) : ∃ b, l[i]? = some b ∧ j = 0 ∧ u = .int .u8 b.toNat := by
  obtain ⟨r, h1, h2⟩ := cellAt_some h
  unfold byteRow at h1
  rw [List.getElem?_map] at h1
  cases hb : l[i]? with
  | none => rw [hb] at h1; cases h1
  | some b =>
    rw [hb] at h1
    simp at h1
    subst h1
    cases j with
    | zero => simp at h2; exact ⟨b, rfl, rfl, h2.symm⟩
    | succ j => simp at h2

theorem Src.ofString {w : World} {I γ} {tx : TypeId} (hk : P.underlying tx = some .string) (s : ByteArray) : Src P w I γ 1 tx (.string s) (byteRow s.data.toList) 2 := by
  refine ⟨⟨_, hk, fun k h => by cases h⟩, fun w' => by show Result.ok s.size w' = _; simp [byteRow], fun r hr => ?_, fun i j u hu => ?_, fun _ i j u hu => ?_, fun _ i j u hu => ?_, ?_⟩
  · unfold byteRow at hr
    obtain ⟨b, _, rfl⟩ := List.mem_map.1 hr
    rfl
  · obtain ⟨b, _, _, rfl⟩ := byteRow_get hu; rfl
  · obtain ⟨b, _, _, rfl⟩ := byteRow_get hu; rfl
  · obtain ⟨b, _, _, rfl⟩ := byteRow_get hu; rfl
  · refine ⟨s.data.map fun b => .int .u8 b.toNat, by simp [byteRow], fun w' _ => ?_, fun i j u hu => ?_⟩
    · show (pure ((s.extract 0 (byteRow s.data.toList).length).data.map fun b => .int .u8 b.toNat) : Sem (Array Value)).run P w' = _
      have : (byteRow s.data.toList).length = s.size := by simp [byteRow]
      rw [this]
      have : s.extract 0 s.size = s := by simp
      rw [this]; rfl
    · obtain ⟨b, hb, rfl, rfl⟩ := byteRow_get hu
      refine ⟨.int .u8 b.toNat, ?_, .int _ _ _⟩
      rw [Array.getElem?_toList] at hb
      simp [hb]

/-- Appending where there is room. -/
theorem run_append_fit {w : World} {I γ} {t tx ty e : TypeId} {i : TypeInfo} {size : Nat} (ht : P.underlying t = some (.slice e)) (hi : P.info? e = some i) (hs : i.size = size) {A : Option Addr} {n c : Nat} {x : Value} {src : List (List V)} {fl : Nat} (hx : Src P w I γ size tx x src fl)
    (hroom : n + src.length ≤ c) {arr : Array Value} (ha : (Builtin.firstCells size src.length x).run P w = .ok arr w) :
    (Builtin.append_ #[t, tx] ty #[.slice A n c, x]).run P w = ((match A with | some a => storeCells (a.add (n * size)) arr.toList | none => pure ()).run P w).andThen fun _ w' => .ok (.slice A (n + src.length) c) w' := by
  obtain ⟨d, hd, hni⟩ := hx.noInt
  have hz : (match d with | .int _ => true | _ => false) = false := by cases d <;> first | rfl | exact absurd rfl (hni _)
  unfold Builtin.append_
  simp only [List.getElem?_toArray, List.getElem?_cons_zero, List.getElem?_cons_succ, Sem.run_bind, run_underlying ht, run_underlying hd, Result.andThen_ok, sizeOf, typeInfo, run_program, hi, Sem.run_pure, hs]
  simp only [Bool.false_eq_true, if_false, hroom, if_true, Sem.run_bind, hx.len w, Result.andThen_ok, Bool.not_false, ha]
  cases A <;> simp

theorem run_append_more {w : World} {I γ} {t tx ty e : TypeId} {i : TypeInfo} {z : Value} {size : Nat} (ht : P.underlying t = some (.slice e)) (hi : P.info? e = some i) (hs : i.size = size) (hz : i.zero = some z) {A : Option Addr} {n c : Nat} {x : Value} {src : List (List V)} {fl : Nat} (hx : Src P w I γ size tx x src fl)
    (hroom : c < n + src.length) (hb : (n + src.length) * i.bytes ≤ 140737488355328) (hm : n + src.length ≤ maxLen) {olds arr : Array Value}
    (ho : ∀ w', w'.heap = w.heap → (Builtin.firstCells size n (.slice A n c)).run P w' = .ok olds w') (ha : ∀ w', w'.heap = w.heap → (Builtin.firstCells size src.length x).run P w' = .ok arr w') :
    (Builtin.append_ #[t, tx] ty #[.slice A n c, x]).run P w = .ok (.slice (some ⟨w.heap.size, 0, none⟩) (n + src.length) (grownCap w (n + src.length) c e))
      (w.drew.alloc (.cells (olds ++ arr ++ Builtin.zeroCells z.cells (grownCap w (n + src.length) c e - (n + src.length))) e)) := by
  obtain ⟨d, hd, hni⟩ := hx.noInt
  have hzz : (match d with | .int _ => true | _ => false) = false := by cases d <;> first | rfl | exact absurd rfl (hni _)
  have h63 : ¬ (9223372036854775807 < ((n : Int) + (src.length : Int))) := by simp only [maxLen] at hm; omega
  have h48 : ¬ (281474976710656 < Builtin.nextslicecap (n + src.length) c * i.bytes) := by have := growslice_fits hroom hb; omega
  have hno : ¬ (n + src.length ≤ c) := by omega
  have ho' := ho w.drew rfl
  have ha' := ha w.drew rfl
  unfold Builtin.append_
  simp only [List.getElem?_toArray, List.getElem?_cons_zero, List.getElem?_cons_succ, Sem.run_bind, run_underlying ht, run_underlying hd, Result.andThen_ok, sizeOf, typeInfo, run_program, hi, Sem.run_pure, hs]
  simp [hno, h63, h48, Question.forced, hx.len w, ho', ha', zeroValue, typeInfo, hi, hz, newRow, grownCap]

theorem run_append_zeros {w : World} {t tx ty e : TypeId} {i : TypeInfo} {z : Value} (ht : P.underlying t = some (.slice e)) (htx : P.underlying tx = some (.int .i64)) (hi : P.info? e = some i) (hz : i.zero = some z) {n : Int}
    (h0 : 0 < n) (hn : n ≤ 140737488355328) (hb : n * i.bytes ≤ 140737488355328) :
    (Builtin.append_ #[t, tx] ty #[.slice none 0 0, .int .i64 n]).run P w = .ok (.slice (some ⟨w.heap.size, 0, none⟩) n.toNat (grownCap w n.toNat 0 e))
      (w.drew.alloc (.cells ((if n.toNat * i.size = 0 then #[] else Builtin.zeroCells z.cells n.toNat) ++ Builtin.zeroCells z.cells (grownCap w n.toNat 0 e - n.toNat)) e)) := by
  obtain ⟨m, rfl⟩ : ∃ m : Nat, n = m := ⟨n.toNat, by omega⟩
  have hw : IntKind.i64.wrap (m : Int) = m := by simp [IntKind.wrap, IntKind.bits, IntKind.signed]; omega
  have hm : (0 : Nat) < m := by omega
  have h1 : ¬ ((m : Int) < 0) := by omega
  have h2 : ¬ (281474976710656 < (m : Int) * i.bytes) := by omega
  have h63 : ¬ (9223372036854775807 < (m : Int)) := by omega
  have hmb : m * i.bytes ≤ 140737488355328 := by
    have : ((m * i.bytes : Nat) : Int) ≤ 140737488355328 := by rw [Int.natCast_mul]; exact hb
    omega
  have h48 : ¬ (281474976710656 < Builtin.nextslicecap m 0 * i.bytes) := by
    have : Builtin.nextslicecap m 0 = m := by unfold Builtin.nextslicecap; rw [if_pos (by omega)]
    rw [this]; omega
  have hno : ¬ (m ≤ 0) := by omega
  have hai : ∀ w' : World, (asIntOf (.int .i64 (m : Int))).run P w' = .ok (.i64, (m : Int)) w' := fun _ => rfl
  have h63' : ¬ (9223372036854775807 < max (m : Int) 0) := by omega
  have hmx : max (m : Int) 0 = (m : Int) := by omega
  unfold Builtin.append_
  simp only [List.getElem?_toArray, List.getElem?_cons_zero, List.getElem?_cons_succ, Sem.run_bind, run_underlying ht, run_underlying htx, Result.andThen_ok, sizeOf, typeInfo, run_program, hi, Sem.run_pure]
  by_cases hs : m * i.size = 0
  · simp [asInt, hai, hw, h1, h2, h63, h48, hmx, hs, Question.forced, Builtin.firstCells, zeroValue, typeInfo, hi, hz, newRow, grownCap]
    omega
  · simp [asInt, hai, hw, h1, h2, h63, h48, hmx, hs, Question.forced, Builtin.firstCells, zeroValue, typeInfo, hi, hz, newRow, grownCap]
    omega

theorem aZeros_sound (hT : TypesOk P T) {w0 w : World} {ex I γ g} (hi : Inv w0 ex I γ g w) {nm : Nat} {t tx ty e : TypeId} (ht : P.underlying t = some (.slice e)) (htx : P.underlying tx = some (.int .i64)) {n : Int} {eff : Eff} (h : aZeros T g nm e n = some eff) :
    ∃ r w' γ', (Builtin.append_ #[t, tx] ty #[.slice none 0 0, .int .i64 n]).run P w = .ok r w' ∧ Rd w' I γ' eff.v r ∧ Inv w0 ex I γ' (setAll g eff.wr) w' ∧ Ext I γ w I γ' w' := by
  unfold aZeros at h
  split at h
  · rename_i ei hei
    split at h
    · rename_i hc
      obtain ⟨c1, c2, c3, c4⟩ := hc
      obtain ⟨hn, hv, hwr⟩ := fresh_some h
      obtain ⟨i, z, hinfo, hsz, hby, hz, hzs, hzc⟩ := (hT e ei hei).info
      have hrun := run_append_zeros (P := P) (w := w) (ty := ty) ht htx hinfo hz c1 c2 (by rw [hby]; exact c3)
      have hzl : ei.zero.length = ei.size := by rw [← hzc]; simp [hzs]
      have hge := grownCap_ge w n.toNat 0 e
      have hcm := grownCap_le_maxLen w n.toNat 0 e (by simp [maxLen]; omega)
      have hcell : ∀ i' j u, cellAt (List.replicate n.toNat ei.zero) i' j = some u → ei.zero[j]? = some u ∧ i' < n.toNat ∧ j < ei.size := by
        intro i' j u hu
        obtain ⟨r, h1, h2⟩ := cellAt_some hu
        rw [List.getElem?_replicate] at h1
        split at h1
        · cases h1; exact ⟨h2, by assumption, by rw [← hzl]; exact (List.getElem?_eq_some_iff.1 h2).1⟩
        · cases h1
      have hsz1 : (if n.toNat * i.size = 0 then #[] else Builtin.zeroCells z.cells n.toNat).size = n.toNat * ei.size := by
        rw [hsz]
        split
        · rename_i h0; rw [h0]; rfl
        · rw [size_zeroCells, hzs]
      have hA := hi.alloc (w' := w.drew.alloc (.cells ((if n.toNat * i.size = 0 then #[] else Builtin.zeroCells z.cells n.toNat) ++ Builtin.zeroCells z.cells (grownCap w n.toNat 0 e - n.toNat)) e)) hn
        (cur := (if n.toNat * i.size = 0 then #[] else Builtin.zeroCells z.cells n.toNat) ++ Builtin.zeroCells z.cells (grownCap w n.toNat 0 e - n.toNat)) (fr := (0, 0))
        (o := ⟨e, ei.size, List.replicate n.toNat ei.zero, false, flOf ei.zero, .rw⟩) (cap := grownCap w n.toNat 0 e) rfl ⟨rfl, rfl, rfl⟩ (.inl (Nat.le_refl _)) (by rw [Array.size_append, hsz1, size_zeroCells, hzs, ← Nat.add_mul]; congr 1; omega) (by simpa using hge)
        (fun h => by cases h) hcm (fun r hr => by rw [List.eq_of_mem_replicate hr, hzl]) (fun i' j u hu => cellularAll_get c4 j u (hcell i' j u hu).1)
        (fun hf i' j u hu => (flOf_one rfl (hcell i' j u hu).1).1 hf) (fun hf i' j u hu => (flOf_one rfl (hcell i' j u hu).1).2 hf)
        (fun i' j u hu => by
          obtain ⟨q1, q2, q3⟩ := hcell i' j u hu
          have hlt : j < z.cells.size := by rw [hzs]; exact q3
          have hidx : i' * ei.size + j < n.toNat * ei.size := by
            have : (i' + 1) * ei.size ≤ n.toNat * ei.size := Nat.mul_le_mul_right _ (by omega)
            rw [Nat.add_mul] at this; omega
          refine ⟨z.cells[j], ?_, zero_cells hzc q1 (Array.getElem?_eq_getElem hlt)⟩
          have hmod : (i' * ei.size + j) % z.cells.size = j := by rw [hzs, Nat.mul_comm, Nat.mul_add_mod, Nat.mod_eq_of_lt q3]
          rw [Array.getElem?_append_left (by rw [hsz1]; exact hidx), if_neg (by rw [hsz]; omega)]
          have hidx' : i' * ei.size + j < n.toNat * z.cells.size := by rw [hzs]; exact hidx
          simp only [Builtin.zeroCells, Array.getElem?_map, Array.getElem?_range, hidx', if_true, Option.map_some, hmod]
          simp [hlt]) rfl
      rw [hwr, setAll_one, hv]
      refine ⟨_, _, _, hrun, ?_, hA.1, hA.2⟩
      refine .own _ _ _ _ _ _ ⟨w.heap.size, grownCap w n.toNat 0 e, ei.size, false⟩ (by simp [gUp]) rfl (by simp) hge hcm (fun _ => by simp)
    · cases h
  · cases h
end
end Go.Lift
