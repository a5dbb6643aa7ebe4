/-
  Objects come out of the cells that lead to them, and go into them, between the steps of a run.
-/
import Derived.Test.YtlelalnahlpcpaaGreatL29
set_option linter.unusedSimpArgs false
set_option linter.unusedVariables false
namespace Go.Lift

variable {P : Program} {T : TypeId → Option TI} {C : FuncId → List V → List AObj → Option CRes} {k : Nat}

/-- The object in a cell gets a name of its own: the state's next one. -/
def open1 (st : St) (n j : Nat) : St := match st.g n with
  | some o => match o.elems with
    | [row] => match row[j]? with
      | some (.tree sl et es rows tight fl) => match st.g st.c with
        | none => if o.md = .rw then { st with g := upd (upd st.g n (some { o with elems := [row.set j (handle sl st.c ⟨et, es, rows, tight, fl, .rw⟩)], fl := 0 })) st.c (some ⟨et, es, rows, tight, fl, .rw⟩), c := st.c + 1 } else st
        | some _ => st
      | _ => st
    | _ => st
  | none => st
def openL (st : St) : List (Nat × Nat) → St
  | [] => st
  | p :: l => openL (open1 st p.1 p.2) l

theorem weak_open1 (st : St) (n j : Nat) : Weak k st (open1 st n j) := by
  intro w0 ex N a w I γ hk hs
  unfold open1
  split
  · rename_i o hg
    split
    · rename_i row hrow
      split
      · rename_i sl et es rows tight fl hc
        split
        · rename_i hn
          split
          · rename_i hmd
            obtain ⟨γ', h1, h2, _⟩ := hs.inv.unfold (nm := st.c) (i := 0) (j := j) (r := row) hg hmd hn (by rw [hrow]; rfl) hc
            rw [hrow] at h1
            exact ⟨I, γ', hs.size, fun m => h2.rd (hs.slots m), h1, hs.defers, hs.glob⟩
          · exact ⟨I, γ, hs⟩
        · exact ⟨I, γ, hs⟩
      · exact ⟨I, γ, hs⟩
    · exact ⟨I, γ, hs⟩
  · exact ⟨I, γ, hs⟩
theorem weak_open : ∀ (l : List (Nat × Nat)) (st : St), Weak k st (openL st l)
  | [], st => Weak.refl k st
  | p :: l, st => (weak_open1 st p.1 p.2).trans (weak_open l _)

/-- The objects go into the cells of the named ones. -/
def closeSt (l : List Nat) (st : St) : St := { st with g := setAll st.g (closeL st.g l) }
theorem weak_close (l : List Nat) (st : St) : Weak k st (closeSt l st) := by
  intro w0 ex N a w I γ hk hs
  exact ⟨I, γ, hs.size, hs.slots, closeL_inv hs.inv l, hs.defers, hs.glob⟩

theorem spec_famO (l : List (Nat × Nat)) (hT : TypesOk P T) (hC : SpecsOk P C) (hm : P.follows .mixedOrders = true) {f : FuncId} {fn : Func} (hf : P.funcs[f]? = some fn) (hname : (fn.name == "runtime.NumGoroutine") = false) {c : Code} (hb : fn.body = some c) (hd : dstOk fn.ntmps c = true)
    {ι : Type} {A : ι → List V} {O : ι → List AObj} {ok : ι → Prop} {res : ι → CRes} {n : Nat} (hn : fn.ntmps = n) (h : ∀ i, ok i → (A i).length ≤ n ∧ ∀ r, r = res i → axwp T C (O i).length c (Ret T fn.results.toList r (O i).length) (openL (initSt (A i) (O i)) l)) : Spec P f (fam A O ok res) := by
  have hbc : bodyC fn = c := by unfold bodyC; rw [hb]; rfl
  refine spec_famS hf hname (by rw [hb, hbc]) (fun i hi => ⟨by rw [hn]; exact (h i hi).1, fun r hr => ?_⟩) hT
  have := SemWp.of_axwp (N := fn.ntmps) hT hC hm hd ((h i hi).2 r hr)
  have e : restC fn [] = c := by
    unfold restC; rw [hbc]; cases c <;> rfl
  rw [e]
  exact SemWp.weak (weak_open l _) this
/-- A name: itself, or the one in a slot. -/
def pick (st : St) : Nat ⊕ Nat → Nat
  | .inl n => n
  | .inr s => nmOf (st.s s)
/-- The nil slice in a cell as a slice of an object of the frame. -/
def nil1 (st : St) (m j : Nat) (et : TypeId) (es : Nat) : St := match st.g m with
  | some o => match o.elems with
    | [row] => match row[j]? with
      | some (.sl 0 _ []) => match st.g st.c with
        | none => { st with g := upd (upd st.g st.c (some ⟨et, es, [], false, 2, .rw⟩)) m (some { o with elems := [row.set j (.own st.c 0 0)], fl := 0 }), c := st.c + 1 }
        | some _ => st
      | _ => st
    | _ => st
  | none => st
def nilL (st : St) : List ((Nat ⊕ Nat) × Nat × TypeId × Nat) → St
  | [] => st
  | p :: l => nilL (nil1 st (pick st p.1) p.2.1 p.2.2.1 p.2.2.2) l
theorem weak_nil1 (st : St) (m j : Nat) (et : TypeId) (es : Nat) : Weak k st (nil1 st m j et es) := by
  intro w0 ex N a w I γ hk hs
  unfold nil1
  split
  · rename_i o hg
    split
    · rename_i row hrow
      split
      · rename_i sz hc
        split
        · rename_i hn
          have hne : m ≠ st.c := fun e => by rw [e, hn] at hg; cases hg
          obtain ⟨h1, h2⟩ := hs.inv.phantom hn (o := ⟨et, es, [], false, 2, .rw⟩) rfl
          have hj : j < row.length := (List.getElem?_eq_some_iff.1 hc).1
          refine ⟨I, _, hs.size, fun n => h2.rd (hs.slots n), h1.redo (o := o) (by rw [upd_ne _ _ hne]; exact hg) rfl (fun _ h => ?_) (fun i' j' u hu hut => ?_), hs.defers, hs.glob⟩
          · refine ⟨fun e he => ?_, fun i' j' u hu => ?_, fun h0 => absurd rfl h0, fun h0 => by simp at h0, ?_⟩
            · simp at he; subst he
              rw [List.length_set]; exact h.rows row (by rw [hrow]; simp)
            · rcases cellAt_set (rows := [row]) (i := 0) rfl hj hu with ⟨rfl, rfl, rfl⟩ | ⟨_, h6⟩
              · rfl
              · exact h.cel _ _ _ (by rw [hrow]; exact h6)
            · rcases h.at_ with ⟨he, _⟩ | ⟨gi, cur, fr, hγ, ha⟩
              · rw [hrow] at he; cases he
              · refine .inr ⟨gi, cur, fr, hγ, ha.nn, ha.es, ha.heap, ha.frz, ha.size, by have := ha.le; rw [hrow] at this; simpa using this, fun ht => by have := ha.tight ht; rw [hrow] at this; simpa using this, ha.max, fun i' j' u hu => ?_, ha.ro, ha.rw⟩
                rcases cellAt_set (rows := [row]) (i := 0) rfl hj hu with ⟨rfl, rfl, rfl⟩ | ⟨_, h6⟩
                · obtain ⟨x, x1, x2⟩ := ha.cells 0 j' (.sl 0 sz []) (by rw [hrow]; exact cellAt_mk rfl hc)
                  refine ⟨x, x1, ?_⟩
                  cases x2 with
                  | nil => exact .ownnil _ _ _ ⟨0, 0, 0, true⟩ (by simp [gUp]) rfl
                  | sl _ _ _ _ a n c xs h0 => exact absurd rfl h0
                · exact ha.cells _ _ _ (by rw [hrow]; exact h6)
          · rcases cellAt_set (rows := [row]) (i := 0) rfl hj hu with ⟨rfl, rfl, rfl⟩ | ⟨_, h6⟩
            · cases hut
            · rw [hrow]; exact h6
        · exact ⟨I, γ, hs⟩
      · exact ⟨I, γ, hs⟩
    · exact ⟨I, γ, hs⟩
  · exact ⟨I, γ, hs⟩
theorem weak_nils : ∀ (l : List ((Nat ⊕ Nat) × Nat × TypeId × Nat)) (st : St), Weak k st (nilL st l)
  | [], st => Weak.refl k st
  | p :: l, st => (weak_nil1 st _ _ _ _).trans (weak_nils l _)

def shutSt (nl : List ((Nat ⊕ Nat) × Nat × TypeId × Nat)) (cl : List (Nat ⊕ Nat)) (st : St) : St := closeSt (cl.map (pick st)) (nilL st nl)
theorem weak_shut (nl : List ((Nat ⊕ Nat) × Nat × TypeId × Nat)) (cl : List (Nat ⊕ Nat)) (st : St) : Weak k st (shutSt nl cl st) := (weak_nils nl st).trans (weak_close _ _)

/-- The end of a function: nil slices in cells have become objects, and the objects of the named ones have gone into their cells. -/
theorem retC {T : TypeId → Option TI} {res : List ResultVar} {k : Nat} {e : Exit} {st : St} {v : V} {os : List AObj} (nl : List ((Nat ⊕ Nat) × Nat × TypeId × Nat)) (cl : List (Nat ⊕ Nat)) (l : List (Nat ⊕ Nat)) (he : isEnd e = true)
    (h : retV T (shutSt nl cl st) res = some (v.ren (namesIn (shutSt nl cl st) l)) ∧ objsAt (namesIn (shutSt nl cl st) l) (shutSt nl cl st) 0 os ∧ k ≤ os.length ∧ (∀ j, j < k → namesIn (shutSt nl cl st) l j = j) ∧
      injL (namesIn (shutSt nl cl st) l) 0 os ∧ v.within (fun j => decide (j < os.length)) = true ∧ ∀ o ∈ os, o.within (fun j => decide (j < os.length)) = true) : Ret T res ⟨v, os⟩ k e st :=
  Ret.weak (ret_at l he h.1 h.2.1 h.2.2.1 h.2.2.2.1 h.2.2.2.2.1 h.2.2.2.2.2.1 h.2.2.2.2.2.2) (weak_shut nl cl st)
/-- The nil slice in a cell as an empty slice, perhaps nil. -/
def nilA (st : St) (m j es : Nat) : St := match st.g m with
  | some o => match o.elems with
    | [row] => match row[j]? with
      | some (.sl 0 _ []) => { st with g := upd st.g m (some { o with elems := [row.set j (.sl 2 es [])] }) }
      | _ => st
    | _ => st
  | none => st
theorem weak_nilA (st : St) (m j es : Nat) : Weak k st (nilA st m j es) := by
  intro w0 ex N a w I γ hk hs
  unfold nilA
  split
  · rename_i o hg
    split
    · rename_i row hrow
      split
      · rename_i sz hc
        have hj : j < row.length := (List.getElem?_eq_some_iff.1 hc).1
        have hcell : ∀ {i' j' u}, cellAt [row.set j (.sl 2 es [])] i' j' = some u → (i' = 0 ∧ j' = j ∧ u = .sl 2 es []) ∨ cellAt o.elems i' j' = some u := by
          intro i' j' u hu
          rcases cellAt_set (rows := [row]) (i := 0) rfl hj hu with ⟨h1, h2, h3⟩ | ⟨_, h6⟩
          · exact .inl ⟨h1, h2, h3⟩
          · exact .inr (by rw [hrow]; exact h6)
        refine ⟨I, γ, hs.size, hs.slots, hs.inv.redo hg rfl (fun _ h => ⟨fun e he => ?_, fun i' j' u hu => ?_, fun hf i' j' u hu => ?_, fun hf i' j' u hu => ?_, ?_⟩) (fun i' j' u hu hut => ?_), hs.defers, hs.glob⟩
        · simp at he; subst he
          rw [List.length_set]; exact h.rows row (by rw [hrow]; simp)
        · rcases hcell hu with ⟨_, _, rfl⟩ | h6
          · rfl
          · exact h.cel _ _ _ h6
        · rcases hcell hu with ⟨_, _, rfl⟩ | h6
          · rfl
          · exact h.closed hf _ _ _ h6
        · rcases hcell hu with ⟨_, _, rfl⟩ | h6
          · rfl
          · exact h.scalar hf _ _ _ h6
        · rcases h.at_ with ⟨he, _⟩ | ⟨gi, cur, fr, hγ, ha⟩
          · rw [hrow] at he; cases he
          · refine .inr ⟨gi, cur, fr, hγ, ha.nn, ha.es, ha.heap, ha.frz, ha.size, by have := ha.le; rw [hrow] at this; simpa using this, fun ht => by have := ha.tight ht; rw [hrow] at this; simpa using this, ha.max, fun i' j' u hu => ?_, ha.ro, ha.rw⟩
            rcases hcell hu with ⟨rfl, rfl, rfl⟩ | h6
            · obtain ⟨x, x1, x2⟩ := ha.cells 0 j' (.sl 0 sz []) (by rw [hrow]; exact cellAt_mk rfl hc)
              refine ⟨x, x1, ?_⟩
              cases x2 with
              | nil => exact .nil _ 2 es (by decide)
              | sl _ _ _ _ a n c xs h0 => exact absurd rfl h0
            · exact ha.cells _ _ _ h6
        · rcases hcell hu with ⟨_, _, rfl⟩ | h6
          · cases hut
          · exact h6
      · exact ⟨I, γ, hs⟩
    · exact ⟨I, γ, hs⟩
  · exact ⟨I, γ, hs⟩
def nilAt (st : St) (m : Nat ⊕ Nat) (j es : Nat) : St := nilA st (pick st m) j es
theorem weak_nilAt {st : St} (m : Nat ⊕ Nat) (j es : Nat) : Weak k st (nilAt st m j es) := weak_nilA _ _ _ _
attribute [simp] nilA nilAt
/-- Less is known of what the cells of an object hold: whether their slices are nil. -/
def tagO (o : AObj) : AObj := { o with elems := o.elems.map (·.map tagC) }
def tag1 (st : St) (m : Nat) : St := match st.g m with
  | some o => { st with g := upd st.g m (some (tagO o)) }
  | none => st
def tagL (st : St) : List (Nat ⊕ Nat) → St
  | [] => st
  | p :: l => tagL (tag1 st (pick st p)) l
theorem tagC_cases (v : V) : tagC v = v ∨ ∃ t es rows, v = .sl t es rows ∧ tagC v = .sl 2 es rows := by cases v <;> first | exact .inl rfl | exact .inr ⟨_, _, _, rfl, rfl⟩
theorem weak_tag1 (st : St) (m : Nat) : Weak k st (tag1 st m) := by
  intro w0 ex N a w I γ hk hs
  unfold tag1
  split
  · rename_i o hg
    have hcell : ∀ {i j u}, cellAt (tagO o).elems i j = some u → ∃ u0, cellAt o.elems i j = some u0 ∧ u = tagC u0 := by
      intro i j u h
      obtain ⟨r, h1, h2⟩ := cellAt_some h
      simp only [tagO, List.getElem?_map] at h1
      cases hr : o.elems[i]? with
      | none => rw [hr] at h1; cases h1
      | some r0 =>
        rw [hr] at h1; cases h1
        rw [List.getElem?_map] at h2
        cases hu : r0[j]? with
        | none => rw [hu] at h2; cases h2
        | some u0 => rw [hu] at h2; cases h2; exact ⟨u0, cellAt_mk hr hu, rfl⟩
    refine ⟨I, γ, hs.size, hs.slots, hs.inv.redo hg rfl (fun _ h => ⟨fun e he => ?_, fun i j u hu => ?_, fun hf i j u hu => ?_, fun hf i j u hu => ?_, ?_⟩) (fun i j u hu hut => ?_), hs.defers, hs.glob⟩
    · obtain ⟨e0, h1, rfl⟩ := List.mem_map.1 he
      rw [List.length_map]; exact h.rows e0 h1
    · obtain ⟨u0, h1, rfl⟩ := hcell hu
      have := h.cel _ _ _ h1
      rcases tagC_cases u0 with e | ⟨t, es, rows, _, e⟩ <;> rw [e]
      · exact this
      · rfl
    · obtain ⟨u0, h1, rfl⟩ := hcell hu
      have := h.closed hf _ _ _ h1
      rcases tagC_cases u0 with e | ⟨t, es, rows, _, e⟩ <;> rw [e]
      · exact this
      · rfl
    · obtain ⟨u0, h1, rfl⟩ := hcell hu
      have := h.scalar hf _ _ _ h1
      rcases tagC_cases u0 with e | ⟨t, es, rows, e0, e⟩ <;> rw [e]
      · exact this
      · rw [e0] at this; simpa using this
    · rcases h.at_ with ⟨he, gi, h1, h2⟩ | ⟨gi, cur, fr, hγ, ha⟩
      · exact .inl ⟨by simp [tagO, he], gi, h1, h2⟩
      · refine .inr ⟨gi, cur, fr, hγ, ha.nn, ha.es, ha.heap, ha.frz, ha.size, by simpa [tagO] using ha.le, by simpa [tagO] using ha.tight, ha.max, fun i j u hu => ?_, ha.ro, ha.rw⟩
        obtain ⟨u0, h1, rfl⟩ := hcell hu
        obtain ⟨x, x1, x2⟩ := ha.cells _ _ _ h1
        exact ⟨x, x1, tagC_rd x2⟩
    · obtain ⟨u0, h1, rfl⟩ := hcell hu
      rcases tagC_cases u0 with e | ⟨t, es, rows, _, e⟩
      · rw [e]; exact h1
      · rw [e] at hut; cases hut
  · exact ⟨I, γ, hs⟩
theorem weak_tags : ∀ (l : List (Nat ⊕ Nat)) (st : St), Weak k st (tagL st l)
  | [], st => Weak.refl k st
  | p :: l, st => (weak_tag1 st _).trans (weak_tags l _)
def aliveL (st : St) : List Nat → Bool
  | [] => true
  | n :: l => aliveG st n && aliveL st l
theorem aliveL_some {st : St} : ∀ {l : List Nat}, aliveL st l = true → ∀ n ∈ l, ∃ o, st.g n = some o ∧ o.md ≠ .dead ∧ o.fl ≠ 0
  | [], _, n, h => by simp at h
  | m :: l, h, n, hn => by
    simp only [aliveL, Bool.and_eq_true] at h
    rcases List.mem_cons.1 hn with rfl | hn
    · exact aliveG_some h.1
    · exact aliveL_some h.2 n hn
/-- The end of a function: the slices 'fz' have become data, of those in the cells of the objects 'tg' it is not known whether they are nil; and as retC. -/
def endSt (fz tg : List (Nat ⊕ Nat)) (nl : List ((Nat ⊕ Nat) × Nat × TypeId × Nat)) (cl : List (Nat ⊕ Nat)) (st : St) : St := shutSt nl cl (tagL (fzSt (fz.map (pick st)) st) tg)
theorem weak_end (fz tg : List (Nat ⊕ Nat)) (nl : List ((Nat ⊕ Nat) × Nat × TypeId × Nat)) (cl : List (Nat ⊕ Nat)) (st : St) (h : aliveL st (fz.map (pick st)) = true) : Weak k st (endSt fz tg nl cl st) :=
  (weak_fz _ (aliveL_some h)).trans ((weak_tags tg _).trans (weak_shut nl cl _))
theorem retE {T : TypeId → Option TI} {res : List ResultVar} {k : Nat} {e : Exit} {st : St} {v : V} {os : List AObj} (fz tg : List (Nat ⊕ Nat)) (nl : List ((Nat ⊕ Nat) × Nat × TypeId × Nat)) (cl : List (Nat ⊕ Nat)) (l : List (Nat ⊕ Nat)) (he : isEnd e = true)
    (h : aliveL st (fz.map (pick st)) = true ∧ retV T (endSt fz tg nl cl st) res = some (v.ren (namesIn (endSt fz tg nl cl st) l)) ∧ objsAt (namesIn (endSt fz tg nl cl st) l) (endSt fz tg nl cl st) 0 os ∧ k ≤ os.length ∧ (∀ j, j < k → namesIn (endSt fz tg nl cl st) l j = j) ∧
      injL (namesIn (endSt fz tg nl cl st) l) 0 os ∧ v.within (fun j => decide (j < os.length)) = true ∧ ∀ o ∈ os, o.within (fun j => decide (j < os.length)) = true) : Ret T res ⟨v, os⟩ k e st :=
  Ret.weak (ret_at l he h.2.1 h.2.2.1 h.2.2.2.1 h.2.2.2.2.1 h.2.2.2.2.2.1 h.2.2.2.2.2.2.1 h.2.2.2.2.2.2.2) (weak_end fz tg nl cl st h.1)
def flAt (st : St) (m : Nat ⊕ Nat) (f : Nat) : St := match st.g (pick st m) with
  | some o => if f ≤ o.fl then { st with g := upd st.g (pick st m) (some { o with fl := f }) } else st
  | none => st
theorem weak_flAt {st : St} (m : Nat ⊕ Nat) (f : Nat) : Weak k st (flAt st m f) := by
  unfold flAt
  split
  · rename_i o hg
    split
    · rename_i hf; exact weak_fl _ _ o hg hf
    · exact Weak.refl _ _
  · exact Weak.refl _ _
attribute [simp] flAt tagO tag1 tagL aliveL aliveG endSt
attribute [simp] open1 openL closeSt pick nil1 nilL shutSt AObj.within V.withinC V.within V.within.withinAll
end Go.Lift
