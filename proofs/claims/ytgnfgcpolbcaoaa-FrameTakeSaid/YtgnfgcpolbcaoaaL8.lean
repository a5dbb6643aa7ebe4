/-
  append.
-/
import Derived.Test.YtgnfgcpolbcaoaaL7
namespace Go.Lift

section
variable {P : Program} {T : TypeId → Option TI}

theorem cellAt_append {a b : List (List V)} {i j : Nat} {u : V} (h : cellAt (a ++ b) i j = some u) : (i < a.length ∧ cellAt a i j = some u) ∨ (a.length ≤ i ∧ cellAt b (i - a.length) j = some u) := by
  obtain ⟨r, h1, h2⟩ := cellAt_some h
  by_cases hlt : i < a.length
  · rw [List.getElem?_append_left hlt] at h1; exact .inl ⟨hlt, cellAt_mk h1 h2⟩
  · rw [List.getElem?_append_right (by omega)] at h1; exact .inr ⟨by omega, cellAt_mk h1 h2⟩

theorem cellAt_lt {rows : List (List V)} {size i j : Nat} {u : V} (hr : ∀ r ∈ rows, r.length = size) (h : cellAt rows i j = some u) : i < rows.length ∧ j < size := by
  obtain ⟨r, h1, h2⟩ := cellAt_some h
  exact ⟨(List.getElem?_eq_some_iff.1 h1).1, by rw [← hr r (List.mem_of_getElem? h1)]; exact (List.getElem?_eq_some_iff.1 h2).1⟩

/-- A new row, out of old cells and appended ones. -/
theorem grown_sound (hT : TypesOk P T) {w0 w : World} {ex I γ g} (hi : Inv w0 ex I γ g w) {nm : Nat} (hn : g nm = none) {t tx ty e : TypeId} {ei : TI} (ht : P.underlying t = some (.slice e)) (hei : T e = some ei) {A : Option Addr} {c : Nat} {vy : Value} {olds src : List (List V)} {ofl sfl : Nat}
    (hx : Src P w I γ ei.size tx vy src sfl) (hroom : c < olds.length + src.length) (hb : ((olds.length + src.length : Nat) : Int) * ei.bytes ≤ 140737488355328) (hm : olds.length + src.length ≤ maxLen)
    (orows : ∀ r ∈ olds, r.length = ei.size) (ocel : ∀ i j u, cellAt olds i j = some u → u.cellular = true) (ocl : ofl ≠ 0 → ∀ i j u, cellAt olds i j = some u → u.closed = true) (osc : 2 ≤ ofl → ∀ i j u, cellAt olds i j = some u → u.scalar = true)
    {oarr : Array Value} (osz : oarr.size = olds.length * ei.size) (orun : ∀ w', w'.heap = w.heap → (Builtin.firstCells ei.size olds.length (.slice A olds.length c)).run P w' = .ok oarr w')
    (ocells : ∀ i j u, cellAt olds i j = some u → ∃ y, oarr[i * ei.size + j]? = some y ∧ Rd w I γ u y) :
    ∃ r w' γ', (Builtin.append_ #[t, tx] ty #[.slice A olds.length c, vy]).run P w = .ok r w' ∧ Rd w' I γ' (.own nm 0 (olds.length + src.length)) r ∧
      Inv w0 ex I γ' (upd g nm (some ⟨e, ei.size, olds ++ src, false, min ofl sfl, .rw⟩)) w' ∧ Ext I γ w I γ' w' := by
  obtain ⟨i, z, hinfo, hsz, hby, hz, hzs, hzc⟩ := (hT e ei hei).info
  obtain ⟨arr, a1, a2, a3⟩ := hx.cells
  have hb' : (olds.length + src.length) * i.bytes ≤ 140737488355328 := by
    rw [hby]
    have : (((olds.length + src.length) * ei.bytes : Nat) : Int) ≤ 140737488355328 := by rw [Int.natCast_mul]; exact hb
    omega
  have hrun := run_append_more (ty := ty) ht hinfo hsz hz hx hroom hb' hm orun a2
  have hge := grownCap_ge w (olds.length + src.length) c e
  have hcm := grownCap_le_maxLen w (olds.length + src.length) c e hm
  have hA := hi.alloc (w' := w.drew.alloc (.cells (oarr ++ arr ++ Builtin.zeroCells z.cells (grownCap w (olds.length + src.length) c e - (olds.length + src.length))) e)) hn
    (cur := oarr ++ arr ++ Builtin.zeroCells z.cells (grownCap w (olds.length + src.length) c e - (olds.length + src.length))) (fr := (0, 0)) (o := ⟨e, ei.size, olds ++ src, false, min ofl sfl, .rw⟩) (cap := grownCap w (olds.length + src.length) c e)
    rfl ⟨rfl, rfl, rfl⟩ (.inl (Nat.le_refl _)) (by simp only [Array.size_append, size_zeroCells, osz, a1, hzs, ← Nat.add_mul]; congr 1; omega) (by simpa using hge) (fun h => by cases h) hcm
    (fun r hr => (List.mem_append.1 hr).elim (orows r) (hx.rows r))
    (fun i j u hu => (cellAt_append hu).elim (fun h => ocel _ _ u h.2) (fun h => hx.cel _ _ u h.2))
    (fun hf i j u hu => by
      have hf' : min ofl sfl ≠ 0 := hf
      exact (cellAt_append hu).elim (fun h => ocl (by omega) _ _ u h.2) (fun h => hx.closed (by omega) _ _ u h.2))
    (fun hf i j u hu => by
      have hf' : 2 ≤ min ofl sfl := hf
      exact (cellAt_append hu).elim (fun h => osc (by omega) _ _ u h.2) (fun h => hx.scalar (by omega) _ _ u h.2))
    (fun i j u hu => by
      rcases cellAt_append hu with ⟨h0, h⟩ | ⟨h0, h⟩
      · obtain ⟨y, y1, y2⟩ := ocells _ _ _ h
        refine ⟨y, ?_, y2⟩
        have hlt : i * ei.size + j < oarr.size := by
          have := (Array.getElem?_eq_some_iff.1 y1).1; exact this
        rw [Array.append_assoc, Array.getElem?_append_left hlt]; exact y1
      · obtain ⟨y, y1, y2⟩ := a3 _ _ _ h
        refine ⟨y, ?_, y2⟩
        have e1 : i * ei.size + j = oarr.size + ((i - olds.length) * ei.size + j) := by
          rw [osz, ← Nat.add_assoc, ← Nat.add_mul]; congr 2; omega
        have hlt := (Array.getElem?_eq_some_iff.1 y1).1
        rw [Array.append_assoc, e1, Array.getElem?_append_right (by omega), Nat.add_sub_cancel_left, Array.getElem?_append_left hlt]; exact y1) rfl
  refine ⟨_, _, _, hrun, ?_, hA.1, hA.2⟩
  exact .own _ _ _ _ _ _ ⟨w.heap.size, grownCap w (olds.length + src.length) c e, ei.size, false⟩ (by simp [gUp]) rfl (by simp) hge hcm (fun _ => by simp)

/-- Nothing is appended to an empty slice that has no room. -/
theorem run_append_none {w : World} {I γ} {t tx ty e : TypeId} {ei : TI} (hT : TypesOk P T) (ht : P.underlying t = some (.slice e)) (hei : T e = some ei) {A : Option Addr} {n c : Nat} {x : Value} {fl : Nat} (hx : Src P w I γ ei.size tx x [] fl) (hc : n ≤ c) :
    (Builtin.append_ #[t, tx] ty #[.slice A n c, x]).run P w = .ok (.slice A n c) w := by
  obtain ⟨i, z, hinfo, hsz, hby, hz, hzs, hzc⟩ := (hT e ei hei).info
  obtain ⟨arr, a1, a2, a3⟩ := hx.cells
  have h0 : arr = #[] := by apply Array.eq_empty_of_size_eq_zero; rw [a1]; simp
  rw [run_append_fit ht hinfo hsz hx (by simpa using hc) (a2 w rfl), h0]
  cases A <;> rfl

/-- What is known of an object may be forgotten from an element on. -/
theorem Inv.cut {w0 w : World} {ex I γ g} (hi : Inv w0 ex I γ g w) {m : Nat} {o : AObj} (hg : g m = some o) (n : Nat) : Inv w0 ex I γ (upd g m (some (cutO n o))) w := by
  have hct : ∀ {i j u}, cellAt (o.elems.take n) i j = some u → cellAt o.elems i j = some u := by
    intro i j u h
    have := cellAt_cut (l := 0) (es := o.elems) (n := n) (i := i) (j := j) (u := u) (by simpa using h)
    simpa using this
  have hmd : (cutO n o).md = o.md := by unfold cutO; split <;> rfl
  have hok : ObjOk w I γ m o → ObjOk w I γ m (cutO n o) := by
    intro h
    unfold cutO
    split
    · rename_i hlt
      refine ⟨fun e he => h.rows e (List.mem_of_mem_take he), fun i j u hu => h.cel _ _ _ (hct hu), fun hf i j u hu => h.closed hf _ _ _ (hct hu), fun hf i j u hu => h.scalar hf _ _ _ (hct hu), ?_⟩
      rcases h.at_ with ⟨he, _⟩ | ⟨gi, cur, fr, hγ, ha⟩
      · rw [he] at hlt; simp at hlt
      · exact .inr ⟨gi, cur, fr, hγ, ha.nn, ha.es, ha.heap, ha.frz, ha.size, by simp only [List.length_take]; have := ha.le; omega, (fun h => by cases h), ha.max, fun i j u hu => ha.cells _ _ _ (hct hu), ha.ro, ha.rw⟩
    · exact h
  have hup : ∀ x y, upd g m (some (cutO n o)) x = some y → ∃ y0, g x = some y0 ∧ y.md = y0.md := by
    intro x y h
    by_cases e : x = m
    · subst e; rw [upd_same] at h; cases h; exact ⟨o, hg, hmd⟩
    · rw [upd_ne _ _ e] at h; exact ⟨y, h, rfl⟩
  refine ⟨fun x y hx hm => ?_, ?_, ?_, ?_, hi.lt, hi.keep, hi.fix, hi.back, hi.frame, hi.os, hi.tape, hi.output, hi.size⟩
  · by_cases e : x = m
    · subst e; rw [upd_same] at hx; cases hx; exact hok (hi.obj _ _ hg (by rw [hmd] at hm; exact hm))
    · rw [upd_ne _ _ e] at hx; exact hi.obj _ _ hx hm
  · intro a b o1 o2 gi gi' h1 h2 d1 d2
    obtain ⟨p1, a1, a2⟩ := hup a o1 h1
    obtain ⟨p2, b1, b2⟩ := hup b o2 h2
    exact hi.inj a b p1 p2 gi gi' a1 b1 (by rw [← a2]; exact d1) (by rw [← b2]; exact d2)
  · intro a o1 gi h1 d1
    obtain ⟨p1, a1, a2⟩ := hup a o1 h1
    exact hi.own a p1 gi a1 (by rw [← a2]; exact d1)
  · intro a gi h1 h2
    by_cases e : a = m
    · subst e; rw [upd_same] at h2; cases h2
    · rw [upd_ne _ _ e] at h2; exact hi.dom a gi h1 h2

/-- 'append' to an object all of whose elements are known. -/
def aAppendC (T : TypeId → Option TI) (g : Nat → Option AObj) (nm : Nat) (e : TypeId) (x : V) (src : List (List V)) (sfl : Nat) (rd : List Nat) : Option Eff :=
  match T e with
  | none => none
  | some ei =>
    if ei.size = 0 then none else
    match x with
    | .sl tg _ [] => if (tg = 0 ∨ tg = 1 ∨ tg = 3) ∧ (src.length : Int) * ei.bytes ≤ 140737488355328 ∧ (src.length : Int) ≤ 140737488355328 then fresh nm ⟨e, ei.size, src, false, sfl, .rw⟩ (.own nm 0 src.length) rd g else none
    | .own m off n => match g m with
      | some o =>
        if o.et ≠ e ∨ o.es ≠ ei.size ∨ o.md ≠ .rw ∨ off ≠ 0 ∨ n ≠ o.elems.length then none else
        if ((n + src.length : Nat) : Int) * ei.bytes ≤ 140737488355328 ∧ ((n + src.length : Nat) : Int) ≤ 140737488355328 then
          match g nm with
          | none => some ⟨.own nm 0 (n + src.length), [(m, kill o), (nm, ⟨e, ei.size, o.elems ++ src, false, min o.fl sfl, .rw⟩)], m :: rd⟩
          | some _ => none
        else none
      | none => none
    | _ => none

theorem aAppend_soundC (hT : TypesOk P T) {w0 w : World} {ex I γ g} (hi : Inv w0 ex I γ g w) {nm : Nat} {t tx ty e : TypeId} (hd : descOf T t = some (.slice e)) {x : V} {vx vy : Value} {src : List (List V)} {sfl : Nat} {rd : List Nat} {eff : Eff}
    (hx : Rd w I γ x vx) (hs : ∀ ei, T e = some ei → Src P w I γ ei.size tx vy src sfl) (h : aAppendC T g nm e x src sfl rd = some eff) :
    ∃ r w' γ', (Builtin.append_ #[t, tx] ty #[vx, vy]).run P w = .ok r w' ∧ Rd w' I γ' eff.v r ∧ Inv w0 ex I γ' (setAll g eff.wr) w' ∧ Ext I γ w I γ' w' := by
  obtain ⟨tti, ht1, ht2⟩ := descOf_some hd
  have ht : P.underlying t = some (.slice e) := by rw [← ht2]; exact (hT t tti ht1).under
  unfold aAppendC at h
  split at h
  · cases h
  · rename_i ei hei
    have hsrc := hs ei hei
    split at h
    · cases h
    · rename_i hsz0
      split at h
      · -- a slice that has neither elements nor room
        rename_i tg sz
        split at h
        · rename_i hc
          obtain ⟨hc1, hc2, hc3⟩ := hc
          obtain ⟨hn, hv, hwr⟩ := fresh_some h
          have hform : ∃ A, vx = .slice A 0 0 := by
            cases hx with
            | nil => exact ⟨none, rfl⟩
            | sl _ _ _ _ a n c xs h0 h1 hlen hnc hcm hes hcel hcell hr =>
              have : n = 0 := by simpa using hlen.symm
              subst this
              rcases hc1 with h | h | h
              · exact absurd h h0
              · rw [h1 (.inl h)]; exact ⟨_, rfl⟩
              · rw [h1 (.inr h)]; exact ⟨_, rfl⟩
          obtain ⟨A, rfl⟩ := hform
          rw [hwr, setAll_one, hv]
          cases hsl : src with
          | nil =>
            subst hsl
            have hp := hi.phantom hn (o := ⟨e, ei.size, [], false, sfl, .rw⟩) rfl
            exact ⟨_, _, _, run_append_none hT ht hei hsrc (Nat.le_refl _), .ownnil _ _ _ _ (by simp [gUp]; rfl) rfl, hp.1, hp.2⟩
          | cons r0 rs =>
            rw [← hsl]
            have hlen : 0 < src.length := by rw [hsl]; simp
            have := grown_sound (ty := ty) (c := 0) (A := A) (olds := []) (ofl := sfl) (oarr := #[]) hT hi hn ht hei hsrc (by simpa using hlen) (by simpa using hc2) (by simp [maxLen]; omega) (by simp) (by simp [cellAt]) (by simp [cellAt]) (by simp [cellAt]) (by simp)
              (fun w' _ => by cases A <;> simp [Builtin.firstCells, loadCells, loadCellsFrom]) (by simp [cellAt])
            simpa using this
        · cases h
      · -- a slice of an object of the frame
        rename_i m off n
        split at h
        · rename_i o hg
          split at h
          · cases h
          · rename_i hcond
            simp only [not_or, Decidable.not_not] at hcond
            obtain ⟨c1, ces, c2, c3, c4⟩ := hcond
            split at h
            · rename_i hc
              obtain ⟨hc2, hc3⟩ := hc
              split at h
              · rename_i hn
                cases h
                subst c3
                have hmd : o.md ≠ .dead := by rw [c2]; decide
                have hob := hi.obj m o hg hmd
                have hne : nm ≠ m := fun e => by subst e; rw [hg] at hn; cases hn
                have hset : setAll g [(m, kill o), (nm, (⟨e, ei.size, o.elems ++ src, false, min o.fl sfl, .rw⟩ : AObj))] = upd (upd g m (some (kill o))) nm (some ⟨e, ei.size, o.elems ++ src, false, min o.fl sfl, .rw⟩) := rfl
                rw [hset]
                have hk := hi.kill hg
                have hkn : upd g m (some (kill o)) nm = none := by rw [upd_ne _ _ hne]; exact hn
                cases hx with
                | ownnil _ _ A gi hγ hnn =>
                  have he : o.elems = [] := List.eq_nil_of_length_eq_zero c4.symm
                  cases hsl : src with
                  | nil =>
                    subst hsl
                    have hp := hk.phantom hkn (o := ⟨e, ei.size, o.elems ++ [], false, min o.fl sfl, .rw⟩) (by simp [he])
                    exact ⟨_, _, _, run_append_none hT ht hei hsrc (Nat.le_refl _), .ownnil _ _ _ _ (by simp [gUp]; rfl) rfl, hp.1, hp.2⟩
                  | cons r0 rs =>
                    rw [← hsl]
                    have hlen : 0 < src.length := by rw [hsl]; simp
                    have := grown_sound (ty := ty) (c := 0) (A := A) (olds := []) (ofl := o.fl) (oarr := #[]) hT hk hkn ht hei hsrc (by simpa using hlen) (by simpa using hc2) (by simp [maxLen]; omega) (by simp) (by simp [cellAt]) (by simp [cellAt]) (by simp [cellAt]) (by simp)
                      (fun w' _ => by cases A <;> simp [Builtin.firstCells, loadCells, loadCellsFrom]) (by simp [cellAt])
                    simpa [he] using this
                | own _ _ _ _ c oo gi hγ hnn hcap hnc hcm ho =>
                  obtain ⟨cur, fr, ha⟩ := hi.at_own hg hmd hγ hnn
                  obtain ⟨i, z, hinfo, hsz, hby, hz, hzs, hzc⟩ := (hT e ei hei).info
                  obtain ⟨arr, a1, a2, a3⟩ := hsrc.cells
                  have hcsz : cur.size = c * ei.size := by rw [ha.size, ha.es, ces, ← hcap, Nat.zero_add]
                  by_cases hroom : n + src.length ≤ c
                  · -- in place
                    obtain ⟨hr1, hr2⟩ := hi.rename hg hmd hγ hn
                    have hrun := run_append_fit (ty := ty) ht hinfo hsz hsrc hroom (a2 w rfl) (A := some ⟨gi.blk, oo, none⟩)
                    have harr : ∀ y ∈ arr.toList, y.oneCell' = true := by
                      intro y hy
                      obtain ⟨k, hk1, hk2⟩ := List.mem_iff_getElem.1 hy
                      have hk3 : k < src.length * ei.size := by rw [← a1]; simpa using hk1
                      obtain ⟨u, hu, hku⟩ := cellAt_full hsrc.rows hk3
                      obtain ⟨y', y1, y2⟩ := a3 _ _ _ hu
                      rw [hku, ← Array.getElem?_toList, List.getElem?_eq_getElem hk1, hk2] at y1
                      cases y1
                      exact y2.oneCell' (hsrc.cel _ _ u hu)
                    have hst : ∃ w' cur', (storeCells ((⟨gi.blk, oo, none⟩ : Addr).add (n * ei.size)) arr.toList).run P w = .ok () w' ∧ (∀ b, w'.heap[b]? = if b = gi.blk then some (.cells cur' o.et fr) else w.heap[b]?) ∧ w'.heap.size = w.heap.size ∧ (w'.os = w.os ∧ w'.tape = w.tape ∧ w'.output = w.output) ∧
                        cur'.size = cur.size ∧ (∀ k, cur'[k]? = if n * ei.size ≤ k ∧ k < n * ei.size + arr.size then arr[k - n * ei.size]? else cur[k]?) := by
                      by_cases hc0 : c = 0
                      · have h0 : arr = #[] := by
                          apply Array.eq_empty_of_size_eq_zero; rw [a1]
                          have : src.length = 0 := by omega
                          rw [this, Nat.zero_mul]
                        subst h0
                        exact ⟨w, cur, rfl, fun b => by
                          by_cases e : b = gi.blk
                          · rw [if_pos e, e]; exact ha.heap
                          · rw [if_neg e], rfl, ⟨rfl, rfl, rfl⟩, rfl, fun k => by rw [if_neg (by simp)]⟩
                      · have hoo := ho hc0
                        rw [Nat.zero_mul] at hoo
                        subst hoo
                        have hfit : 0 + n * ei.size + 0 + arr.toList.length ≤ cur.size := by
                          rw [Array.length_toList, a1, hcsz, Nat.zero_add, Nat.add_zero, ← Nat.add_mul]; exact Nat.mul_le_mul_right _ hroom
                        obtain ⟨w', cur', k1, k2, k3, k4, k5, k6⟩ := run_storeCells_row (P := P) gi.blk (0 + n * ei.size) o.et fr arr.toList 0 cur w ha.heap ha.frz hfit harr
                        exact ⟨w', cur', by rw [add_lit]; exact k1, k2, k3, k4, k5, fun k => by rw [k6]; simp⟩
                    obtain ⟨w', cur', k1, k2, k3, k4, k5, k6⟩ := hst
                    have ha' : ObjAt w I (gUp γ nm gi) o gi cur fr := ha.ext hr2 rfl ha.rw
                    have hob' := hob
                    have hW := hr1.write (w' := w') (nm := nm) (o := o) (o' := ⟨e, ei.size, o.elems ++ src, false, min o.fl sfl, .rw⟩) (by simp) c2 (by simp [gUp]) ha' c1.symm ces.symm rfl k5 k2 k3 k4
                      (by simp only [List.length_append]; omega) (fun h => by cases h)
                      (fun r hr => (List.mem_append.1 hr).elim (fun h => (hob.rows r h).trans ces) (hsrc.rows r))
                      (fun i j u hu => (cellAt_append hu).elim (fun h => hob.cel _ _ u h.2) (fun h => hsrc.cel _ _ u h.2))
                      (fun hf i j u hu => by
                        have hf' : min o.fl sfl ≠ 0 := hf
                        exact (cellAt_append hu).elim (fun h => hob.closed (by omega) _ _ u h.2) (fun h => hsrc.closed (by omega) _ _ u h.2))
                      (fun hf i j u hu => by
                        have hf' : 2 ≤ min o.fl sfl := hf
                        exact (cellAt_append hu).elim (fun h => hob.scalar (by omega) _ _ u h.2) (fun h => hsrc.scalar (by omega) _ _ u h.2))
                      (fun i j u hu => by
                        rw [ces, k6]
                        rcases cellAt_append hu with ⟨h0, h1⟩ | ⟨h0, h1⟩
                        · obtain ⟨y, y1, y2⟩ := ha'.cells _ _ _ h1
                          rw [ces] at y1
                          have hj := (cellAt_lt hob.rows h1).2
                          rw [ces] at hj
                          have : (i + 1) * ei.size ≤ n * ei.size := Nat.mul_le_mul_right _ (by omega)
                          rw [Nat.add_mul] at this
                          rw [if_neg (by omega)]
                          exact ⟨y, y1, y2⟩
                        · obtain ⟨y, y1, y2⟩ := a3 _ _ _ h1
                          have hlt := (Array.getElem?_eq_some_iff.1 y1).1
                          have e1 : i * ei.size + j = n * ei.size + ((i - o.elems.length) * ei.size + j) := by
                            rw [c4, ← Nat.add_assoc, ← Nat.add_mul]; congr 2; omega
                          rw [e1, if_pos ⟨by omega, by omega⟩, Nat.add_sub_cancel_left]
                          exact ⟨y, y1, hr2.rd y2⟩)
                    have hupd : upd (upd (upd g m (some (kill o))) nm (some o)) nm (some (⟨e, ei.size, o.elems ++ src, false, min o.fl sfl, .rw⟩ : AObj)) = upd (upd g m (some (kill o))) nm (some ⟨e, ei.size, o.elems ++ src, false, min o.fl sfl, .rw⟩) := by
                      funext k; unfold upd; split <;> rfl
                    rw [hupd] at hW
                    refine ⟨.slice (some ⟨gi.blk, oo, none⟩) (n + src.length) c, w', gUp γ nm gi, ?_, ?_, hW.1, hr2.trans hW.2⟩
                    · rw [hrun]
                      simp only [k1, Result.andThen_ok]
                    · exact .own _ _ _ _ _ _ gi (by simp [gUp]) hnn hcap hroom hcm ho
                  · -- a new block
                    have hlo : ∀ k, k < n * ei.size → w.cell? ((⟨gi.blk, oo, none⟩ : Addr).add k) = some (cur[k]?.getD undef) := by
                      intro k hk
                      have hn0 : n ≠ 0 := fun h => by rw [h, Nat.zero_mul] at hk; omega
                      have hoo := ho (by omega)
                      rw [Nat.zero_mul] at hoo
                      subst hoo
                      have hlt : k < cur.size := by rw [hcsz]; exact Nat.lt_of_lt_of_le hk (Nat.mul_le_mul_right _ hnc)
                      rw [add_lit, Nat.zero_add, cell_of_row w gi.blk k cur o.et fr ha.heap, Array.getElem?_eq_getElem hlt]; rfl
                    have := grown_sound (ty := ty) (c := c) (A := some ⟨gi.blk, oo, none⟩) (olds := o.elems) (ofl := o.fl) (oarr := ((List.range (o.elems.length * ei.size)).map fun k => cur[k]?.getD undef).toArray) hT hk hkn ht hei hsrc (by omega) (by rw [← c4]; exact hc2) (by simp only [maxLen]; omega)
                      (fun r hr => (hob.rows r hr).trans ces) hob.cel hob.closed hob.scalar (by simp)
                      (fun w' hh => run_loadCells (P := P) w' _ _ _ fun k hk => by rw [World.cell?_of_block (w := w) (by rw [hh])]; exact hlo k (by rw [c4]; exact hk))
                      (fun i j u hu => by
                        obtain ⟨y, y1, y2⟩ := ha.cells _ _ _ hu
                        rw [ces] at y1
                        obtain ⟨q1, q2⟩ := cellAt_lt hob.rows hu
                        rw [ces] at q2
                        have : (i + 1) * ei.size ≤ o.elems.length * ei.size := Nat.mul_le_mul_right _ q1
                        rw [Nat.add_mul] at this
                        refine ⟨y, ?_, y2⟩
                        simp [show i * ei.size + j < o.elems.length * ei.size by omega, y1])
                    rw [← c4] at this
                    exact this
              · cases h
            · cases h
        · cases h
      · cases h

theorem aAppend_own {g : Nat → Option AObj} {nm : Nat} {e : TypeId} {m off n : Nat} {src : List (List V)} {sfl : Nat} {rd : List Nat} {eff : Eff} (h : aAppend T g nm e (.own m off n) src sfl rd = some eff) :
    ∃ o, g m = some o ∧ aAppendC T (upd g m (some (cutO n o))) nm e (.own m off n) src sfl rd = some eff ∧ ∃ a b, eff.wr = [(m, a), (nm, b)] := by
  unfold aAppend at h
  split at h
  · cases h
  · rename_i ei hei
    split at h
    · cases h
    · rename_i hz
      simp only at h
      split at h
      · rename_i o hg
        cases hgm : g m with
        | none => rw [hgm] at hg; cases hg
        | some o0 =>
          rw [hgm] at hg
          simp only [Option.map_some, Option.some.injEq] at hg
          subst hg
          split at h
          · cases h
          · rename_i hc
            split at h
            · rename_i hb
              split at h
              · rename_i hn
                cases h
                have hne : nm ≠ m := fun e => by subst e; rw [hgm] at hn; cases hn
                refine ⟨o0, rfl, ?_, _, _, rfl⟩
                unfold aAppendC
                simp only [hei, if_neg hz, upd_same, if_neg hc, if_pos hb, upd_ne _ _ hne, hn]
              · cases h
            · cases h
      · cases h

theorem aAppend_sound (hT : TypesOk P T) {w0 w : World} {ex I γ g} (hi : Inv w0 ex I γ g w) {nm : Nat} {t tx ty e : TypeId} (hd : descOf T t = some (.slice e)) {x : V} {vx vy : Value} {src : List (List V)} {sfl : Nat} {rd : List Nat} {eff : Eff}
    (hx : Rd w I γ x vx) (hs : ∀ ei, T e = some ei → Src P w I γ ei.size tx vy src sfl) (h : aAppend T g nm e x src sfl rd = some eff) :
    ∃ r w' γ', (Builtin.append_ #[t, tx] ty #[vx, vy]).run P w = .ok r w' ∧ Rd w' I γ' eff.v r ∧ Inv w0 ex I γ' (setAll g eff.wr) w' ∧ Ext I γ w I γ' w' := by
  by_cases hown : ∃ m off n, x = .own m off n
  · obtain ⟨m, off, n, rfl⟩ := hown
    obtain ⟨o, hg, h1, a, b, hwr⟩ := aAppend_own h
    obtain ⟨r, w', γ', k1, k2, k3, k4⟩ := aAppend_soundC (ty := ty) hT (hi.cut hg n) hd hx hs h1
    refine ⟨r, w', γ', k1, k2, ?_, k4⟩
    have e : setAll (upd g m (some (cutO n o))) eff.wr = setAll g eff.wr := by
      rw [hwr]
      funext k
      simp only [setAll, upd]
      split
      · rfl
      · split <;> rfl
    rw [← e]; exact k3
  · refine aAppend_soundC (nm := nm) (rd := rd) (ty := ty) hT hi hd hx hs ?_
    rw [← h]
    unfold aAppendC aAppend
    cases x with
    | own m off n => exact absurd ⟨_, _, _, rfl⟩ hown
    | sl a b c => cases c <;> rfl
    | _ => rfl
end
end Go.Lift
