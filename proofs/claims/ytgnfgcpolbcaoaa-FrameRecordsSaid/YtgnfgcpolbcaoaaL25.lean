/-
  Slices of one's own that nobody writes any more become data.
-/
import Derived.Test.YtgnfgcpolbcaoaaL24
namespace Go.Lift

variable {w0 w : World} {ex : Ex} {I : Nat → Prop} {γ : Nat → Option GI} {g : Nat → Option AObj}

theorem freeze_one (hi : Inv w0 ex I γ g w) {n : Nat} {o : AObj} (hg : g n = some o) (hm : o.md ≠ .dead) : Inv w0 ex (Ic I γ [n]) γ (upd g n (some { o with md := .ro })) w := by
  have hI : ∀ b, I b → Ic I γ [n] b := fun b h => .inl h
  have hup : ∀ x y, upd g n (some { o with md := .ro }) x = some y → ∃ y0, g x = some y0 ∧ (y0.md = .dead → y.md = .dead) := by
    intro x y h
    by_cases e : x = n
    · subst e; exact ⟨o, hg, fun h => absurd h hm⟩
    · rw [upd_ne _ _ e] at h; exact ⟨y, h, id⟩
  have hblk : ∀ b, Ic I γ [n] b → ¬ I b → ∃ gi, γ n = some gi ∧ gi.nil = false ∧ gi.blk = b := by
    rintro b (h | ⟨m, gi, h1, h2, h3, h4⟩) hn
    · exact absurd h hn
    · simp at h1; subst h1; exact ⟨gi, h2, h3, h4⟩
  refine ⟨fun x y hx hd => ?_, ?_, ?_, ?_, fun b hb => ?_, fun b hb => hI _ (hi.keep b hb), hi.fix, fun b hb => ?_, hi.frame, hi.os, hi.tape, hi.output, hi.size⟩
  · by_cases e : x = n
    · subst e
      rw [upd_same] at hx; cases hx
      have ho := hi.obj x o hg hm
      refine ⟨ho.rows, ho.cel, ho.closed, ho.scalar, ?_⟩
      rcases ho.at_ with h | ⟨gi, cur, fr, hγ, ha⟩
      · exact .inl h
      · refine .inr ⟨gi, cur, fr, hγ, ha.nn, ha.es, ha.heap, ha.frz, ha.size, ha.le, ha.tight, ha.max, fun i j u hu => ?_, fun _ => .inr ⟨x, gi, by simp, hγ, ha.nn, rfl⟩, (fun h => by cases h)⟩
        obtain ⟨y, y1, y2⟩ := ha.cells _ _ _ hu
        exact ⟨y, y1, y2.wider hI⟩
    · rw [upd_ne _ _ e] at hx
      have ho := hi.obj x y hx hd
      refine ⟨ho.rows, ho.cel, ho.closed, ho.scalar, ?_⟩
      rcases ho.at_ with h | ⟨gi, cur, fr, hγ, ha⟩
      · exact .inl h
      · refine .inr ⟨gi, cur, fr, hγ, ha.nn, ha.es, ha.heap, ha.frz, ha.size, ha.le, ha.tight, ha.max, fun i j u hu => ?_, fun h => hI _ (ha.ro h), fun h hb => ?_⟩
        · obtain ⟨y, y1, y2⟩ := ha.cells _ _ _ hu
          exact ⟨y, y1, y2.wider hI⟩
        · obtain ⟨gi', q1, q2, q3⟩ := hblk _ hb (ha.rw h)
          exact e (hi.inj x n y o gi gi' hx hg hd hm hγ q1 ha.nn q2 q3.symm)
  · intro a b o1 o2 gi gi' h1 h2 d1 d2
    obtain ⟨p1, a1, a2⟩ := hup a o1 h1
    obtain ⟨p2, b1, b2⟩ := hup b o2 h2
    exact hi.inj a b p1 p2 gi gi' a1 b1 (fun h => d1 (a2 h)) (fun h => d2 (b2 h))
  · intro a o1 gi h1 d1
    obtain ⟨p1, a1, a2⟩ := hup a o1 h1
    exact hi.own a p1 gi a1 (fun h => d1 (a2 h))
  · intro a gi h1 h2
    by_cases e : a = n
    · subst e; rw [upd_same] at h2; cases h2
    · rw [upd_ne _ _ e] at h2; exact hi.dom a gi h1 h2
  · by_cases h : I b
    · exact hi.lt b h
    · obtain ⟨gi, q1, q2, rfl⟩ := hblk b hb h
      obtain ⟨cur, fr, ha⟩ := hi.at_own hg hm q1 q2
      exact (Array.getElem?_eq_some_iff.1 ha.heap).1
  · by_cases h : I b
    · exact hi.back b h
    · obtain ⟨gi, q1, q2, rfl⟩ := hblk b hb h
      exact .inr (hi.own n o gi hg hm q1 q2)

theorem freeze_list : ∀ {L : List (Nat × AObj)} {I : Nat → Prop} {g : Nat → Option AObj}, Inv w0 ex I γ g w → (∀ p ∈ L, ∃ o, g p.1 = some o ∧ o.md ≠ .dead ∧ p.2 = { o with md := .ro }) →
    ∃ I', (∀ b, I b → I' b) ∧ Inv w0 ex I' γ (setAll g L) w
  | [], I, g, hi, _ => ⟨I, fun _ h => h, hi⟩
  | (n, o') :: L, I, g, hi, h => by
    obtain ⟨o, h1, h2, h3⟩ := h (n, o') (List.mem_cons_self ..)
    replace h3 : o' = { o with md := .ro } := h3
    subst h3
    obtain ⟨I', q1, q2⟩ := freeze_list (L := L) (freeze_one hi h1 h2) (fun p hp => by
      obtain ⟨o1, k1, k2, k3⟩ := h p (List.mem_cons_of_mem _ hp)
      by_cases e : p.1 = n
      · rw [e] at k1 ⊢
        replace h1 : g n = some o := h1
        rw [h1] at k1; cases k1
        exact ⟨_, upd_same .., (by simp), k3⟩
      · exact ⟨o1, by rw [upd_ne _ _ e]; exact k1, k2, k3⟩)
    exact ⟨I', fun b hb => q1 b (.inl hb), q2⟩

def closedRows : List (List V) → Bool
  | [] => true
  | r :: rs => V.closed.closedAll r && closedRows rs
theorem closedRows_get : ∀ {l : List (List V)}, closedRows l = true → ∀ r ∈ l, V.closed.closedAll r = true
  | [], _, r, h => by cases h
  | x :: l, h, r, hr => by
    simp only [closedRows, Bool.and_eq_true] at h
    rcases List.mem_cons.1 hr with rfl | hr
    · exact h.1
    · exact closedRows_get h.2 r hr
theorem closedRows_append : ∀ (a b : List (List V)), closedRows (a ++ b) = (closedRows a && closedRows b)
  | [], b => rfl
  | x :: a, b => by simp [closedRows, closedRows_append a b, Bool.and_assoc]

/-- A value in which slices of the named objects have become data. -/
def fzV (g : Nat → Option AObj) (F : List Nat) : V → V
  | .own nm off n => match g nm with
    | some o => if F.contains nm = true ∧ off + n ≤ o.elems.length then .sl 2 o.es ((o.elems.drop off).take n) else .own nm off n
    | none => .own nm off n
  | .agg cs => .agg (all cs)
  | v => v
where all : List V → List V
  | [] => []
  | c :: cs => fzV g F c :: all cs

theorem fzV.all_eq (g : Nat → Option AObj) (F : List Nat) : ∀ cs : List V, fzV.all g F cs = cs.map (fzV g F)
  | [] => rfl
  | c :: cs => by simp [fzV.all, fzV.all_eq g F cs]
theorem fzV_cellular (g : Nat → Option AObj) (F : List Nat) (v : V) (h : v.cellular = true) : (fzV g F v).cellular = true := by
  cases v <;> simp [V.cellular] at h <;> simp only [fzV] <;> try rfl
  split
  · split <;> rfl
  · rfl
def fzO (g : Nat → Option AObj) (F : List Nat) (o : AObj) : AObj :=
  if o.fl ≠ 0 then o else { o with elems := o.elems.map (·.map (fzV g F)), fl := if closedRows (o.elems.map (·.map (fzV g F))) then 1 else 0 }
def fzSt (F : List Nat) (st : St) : St := { s := fun n => fzV st.g F (st.s n), g := fun n => (setAll st.g (freeze st.g F) n).map (fzO st.g F), c := st.c }

theorem fzV_rd {g1 : Nat → Option AObj} (hi : Inv w0 ex I γ g1 w) {F : List Nat} (hF : ∀ n o, n ∈ F → g n = some o → o.fl ≠ 0 ∧ g1 n = some { o with md := .ro }) : ∀ {v : V} {x : Value}, Rd w I γ v x → Rd w I γ (fzV g F v) x := by
  have own : ∀ {nm off n : Nat} {x : Value}, Rd w I γ (.own nm off n) x → Rd w I γ (fzV g F (.own nm off n)) x := by
    intro nm off n x hx
    simp only [fzV]
    split
    · rename_i o hg
      split
      · rename_i hc
        obtain ⟨h1, h2⟩ := hF nm o (by simpa using hc.1) hg
        have h3 := argOne_rd hi (refs := []) (γc := γ) (fun k n h => by simp at h) hx (v' := .sl 2 o.es ((o.elems.drop off).take n)) (bs := [nm]) (BS := [nm]) (by simp [argOne, posOf, h1, h2, hc.2]) (fun n h => h)
        refine h3.wider fun b hb => ?_
        rcases hb with hb | ⟨m, gi, q1, q2, q3, q4⟩
        · exact hb
        · simp at q1; subst q1
          obtain ⟨cur, fr, ha⟩ := hi.at_own h2 (by simp) q2 q3
          rw [← q4]; exact ha.ro rfl
      · exact hx
    · exact hx
  have key : ∀ (k : Nat) (v : V) (x : Value), SizeOf.sizeOf v ≤ k → Rd w I γ v x → Rd w I γ (fzV g F v) x := by
    intro k
    induction k with
    | zero => intro v x hs; cases v <;> simp at hs
    | succ k ih =>
      intro v x hs hx
      cases v with
      | own nm off n => exact own hx
      | agg cs =>
        simp only [fzV]
        rw [fzV.all_eq]
        cases hx with
        | agg _ _ xs hl hr =>
          refine .agg _ _ _ (by simpa using hl) fun j u x hu hx => ?_
          rw [List.getElem?_map] at hu
          cases hc : cs[j]? with
          | none => rw [hc] at hu; cases hu
          | some c =>
            rw [hc] at hu; cases hu
            refine ih c x ?_ (hr j c x hc hx)
            have := List.sizeOf_lt_of_mem (List.mem_of_getElem? hc)
            simp at hs
            omega
      | _ => exact hx
  exact fun {v x} hx => key _ v x (Nat.le_refl _) hx

theorem weak_fz {k : Nat} {st : St} (F : List Nat) (hF : ∀ n ∈ F, ∃ o, st.g n = some o ∧ o.md ≠ .dead ∧ o.fl ≠ 0) : Weak k st (fzSt F st) := by
  intro w0 ex N a w I γ _ hs
  obtain ⟨I', hI, hi⟩ := freeze_list (L := freeze st.g F) hs.inv (fun p hp => by
    obtain ⟨n, o'⟩ := p
    obtain ⟨h1, o0, h2, h3⟩ := freeze_mem hp
    obtain ⟨o, k1, k2, k3⟩ := hF n h1
    rw [h2] at k1; cases k1
    exact ⟨o0, h2, k2, h3⟩)
  have hg1 : ∀ n o, n ∈ F → st.g n = some o → o.fl ≠ 0 ∧ setAll st.g (freeze st.g F) n = some { o with md := .ro } := by
    intro n o hn hg
    obtain ⟨o', k1, _, k3⟩ := hF n hn
    rw [hg] at k1; cases k1
    refine ⟨k3, ?_⟩
    rcases setAll_spec (freeze st.g F) st.g n with ⟨o', h1, h2⟩ | ⟨h1, h2⟩
    · obtain ⟨_, o0, q2, q3⟩ := freeze_mem h1
      rw [hg] at q2; cases q2
      rw [h2, q3]
    · exact absurd (mem_freeze hn hg) (h1 _)
  have hrd : ∀ {v : V} {x : Value}, Rd w I' γ v x → Rd w I' γ (fzV st.g F v) x := fun hx => fzV_rd hi hg1 hx
  have hmd : ∀ o : AObj, (fzO st.g F o).md = o.md := by intro o; unfold fzO; split <;> rfl
  have hup : ∀ x y, (setAll st.g (freeze st.g F) x).map (fzO st.g F) = some y → ∃ y0, setAll st.g (freeze st.g F) x = some y0 ∧ y = fzO st.g F y0 := by
    intro x y h
    cases hx : setAll st.g (freeze st.g F) x with
    | none => rw [hx] at h; cases h
    | some y0 => rw [hx] at h; cases h; exact ⟨y0, rfl, rfl⟩
  have hcell : ∀ {rows : List (List V)} {i j : Nat} {u : V}, cellAt (rows.map (·.map (fzV st.g F))) i j = some u → ∃ u0, cellAt rows i j = some u0 ∧ u = fzV st.g F u0 := by
    intro rows i j u h
    obtain ⟨r, h1, h2⟩ := cellAt_some h
    rw [List.getElem?_map] at h1
    cases hr : rows[i]? with
    | none => rw [hr] at h1; cases h1
    | some r0 =>
      rw [hr] at h1; cases h1
      rw [List.getElem?_map] at h2
      cases hu : r0[j]? with
      | none => rw [hu] at h2; cases h2
      | some u0 => rw [hu] at h2; cases h2; exact ⟨u0, cellAt_mk hr hu, rfl⟩
  refine ⟨I', γ, hs.size, fun n => hrd ((hs.slots n).wider hI), ⟨fun x y hx hd => ?_, ?_, ?_, ?_, hi.lt, hi.keep, hi.fix, hi.back, hi.frame, hi.os, hi.tape, hi.output, hi.size⟩, hs.defers⟩
  · obtain ⟨y0, h1, rfl⟩ := hup x y hx
    rw [hmd] at hd
    have ho := hi.obj x y0 h1 hd
    unfold fzO
    split
    · exact ho
    · rename_i hfl
      have hfl : y0.fl = 0 := by simpa using hfl
      refine ⟨fun e he => ?_, fun i j u hu => ?_, fun hf i j u hu => ?_, fun hf i j u hu => ?_, ?_⟩
      · obtain ⟨e0, k1, rfl⟩ := List.mem_map.1 he
        simpa using ho.rows e0 k1
      · obtain ⟨u0, k1, rfl⟩ := hcell hu
        exact fzV_cellular _ _ _ (ho.cel _ _ _ k1)
      · simp only at hf hu
        split at hf
        · rename_i hc
          obtain ⟨r, r1, r2⟩ := cellAt_some hu
          exact V.closedAll_get (closedRows_get hc r (List.mem_of_getElem? r1)) j u r2
        · exact absurd rfl hf
      · simp only at hf
        split at hf <;> omega
      · rcases ho.at_ with ⟨he, gi, q1, q2⟩ | ⟨gi, cur, fr, hγ, ha⟩
        · exact .inl ⟨by simp [he], gi, q1, q2⟩
        · refine .inr ⟨gi, cur, fr, hγ, ha.nn, ha.es, ha.heap, ha.frz, ha.size, by simpa using ha.le, by simpa using ha.tight, ha.max, fun i j u hu => ?_, ha.ro, ha.rw⟩
          obtain ⟨u0, k1, rfl⟩ := hcell hu
          obtain ⟨z, z1, z2⟩ := ha.cells _ _ _ k1
          exact ⟨z, z1, hrd z2⟩
  · intro p q o1 o2 gi gi' h1 h2 d1 d2
    obtain ⟨p1, a1, rfl⟩ := hup p o1 h1
    obtain ⟨p2, b1, rfl⟩ := hup q o2 h2
    rw [hmd] at d1 d2
    exact hi.inj p q p1 p2 gi gi' a1 b1 d1 d2
  · intro p o1 gi h1 d1
    obtain ⟨p1, a1, rfl⟩ := hup p o1 h1
    rw [hmd] at d1
    exact hi.own p p1 gi a1 d1
  · intro p gi h1 h2
    refine hi.dom p gi h1 ?_
    replace h2 : (setAll st.g (freeze st.g F) p).map (fzO st.g F) = none := h2
    cases hx : setAll st.g (freeze st.g F) p with
    | none => rfl
    | some y => rw [hx] at h2; cases h2

theorem weak_cut {k : Nat} {st : St} (n m : Nat) (o : AObj) (hg : st.g m = some o) : Weak k st { st with g := upd st.g m (some (cutO n o)) } := by
  intro w0 ex N a w I γ _ hs
  exact ⟨I, γ, hs.size, hs.slots, hs.inv.cut hg n, hs.defers⟩

/-- The slices in the named slots become data. -/
theorem weak_fzS {k : Nat} {st : St} (l : List Nat) (hF : ∀ n ∈ l.map (fun s => nmOf (st.s s)), ∃ o, st.g n = some o ∧ o.md ≠ .dead ∧ o.fl ≠ 0) : Weak k st (fzSt (l.map fun s => nmOf (st.s s)) st) := weak_fz _ hF
attribute [simp] fzSt fzV fzV.all fzO closedRows closedRows_append

@[simp] theorem scalarRows_nil : scalarRows [] = true := rfl
@[simp] theorem wrap_zero (k : IntKind) : k.wrap 0 = 0 := by cases k <;> decide
@[simp] theorem wrap_one (k : IntKind) : k.wrap 1 = 1 := by cases k <;> decide
/-- What the tag of a nil slice says. -/
def NilOk {α : Type} (t : Nat) (l : List α) : Prop := t = 0 → l = []
theorem nilOk_ne {α : Type} {t : Nat} {l : List α} (h : t ≠ 0) : NilOk t l := fun e => absurd e h
@[simp] theorem nilOk_1 {α : Type} (l : List α) : NilOk 1 l := nilOk_ne (by decide)
@[simp] theorem nilOk_2 {α : Type} (l : List α) : NilOk 2 l := nilOk_ne (by decide)
@[simp] theorem nilOk_3 {α : Type} (l : List α) : NilOk 3 l := nilOk_ne (by decide)
@[simp] theorem nilOk_4 {α : Type} (l : List α) : NilOk 4 l := nilOk_ne (by decide)
theorem nilOk_cut {α : Type} {t : Nat} {b : Bool} {l : List α} (h : t ≠ 0) : NilOk (cutTag t b) l := nilOk_ne (fun e => h (cutTag_ne.1 e))
@[simp] theorem nilOk_nil {α : Type} (t : Nat) : NilOk t ([] : List α) := fun _ => rfl
@[simp] theorem wrap_i64_lit (n : Nat) (h : n ≤ 9223372036854775807) : IntKind.i64.wrap (no_index (OfNat.ofNat n : Int)) = OfNat.ofNat n := wrap_i64_in (show (-9223372036854775808 : Int) ≤ ((n : Nat) : Int) by omega) (show ((n : Nat) : Int) ≤ 9223372036854775807 by omega)
@[simp] theorem wrap_u64_lit (n : Nat) (h : n ≤ 18446744073709551615) : IntKind.u64.wrap (no_index (OfNat.ofNat n : Int)) = OfNat.ofNat n := wrap_u64_in (show (0 : Int) ≤ ((n : Nat) : Int) by omega) (show ((n : Nat) : Int) ≤ 18446744073709551615 by omega)
@[simp] theorem wrap_u8_lit (n : Nat) (h : n ≤ 255) : IntKind.u8.wrap (no_index (OfNat.ofNat n : Int)) = OfNat.ofNat n := wrap_u8_in (show (0 : Int) ≤ ((n : Nat) : Int) by omega) (show ((n : Nat) : Int) ≤ 255 by omega)
@[simp] theorem wrap_i64_neglit (n : Nat) (h : n ≤ 9223372036854775808) : IntKind.i64.wrap (-(no_index (OfNat.ofNat n : Int))) = -(OfNat.ofNat n) := wrap_i64_in (show (-9223372036854775808 : Int) ≤ -((n : Nat) : Int) by omega) (show -((n : Nat) : Int) ≤ 9223372036854775807 by omega)
/-! Rows of byte slices. -/
def listRow (ls : List (List UInt8)) : List (List V) := ls.map fun l => [.sl 2 1 (byteRow l)]
@[simp] theorem listRow_length (l : List (List UInt8)) : (listRow l).length = l.length := by simp [listRow]
@[simp] theorem listRow_nil : listRow [] = [] := rfl
theorem listRow_append (a b : List (List UInt8)) : listRow (a ++ b) = listRow a ++ listRow b := by simp [listRow]
@[simp] theorem listRow_append' (a b : List (List UInt8)) : listRow a ++ listRow b = listRow (a ++ b) := (listRow_append a b).symm
theorem listRow_one (l : List UInt8) : [[V.sl 2 1 (byteRow l)]] = listRow [l] := rfl
@[simp] theorem listRow_get (l : List (List UInt8)) (n : Nat) : (listRow l)[n]? = (l[n]?).map fun b => [V.sl 2 1 (byteRow b)] := by simp [listRow]
@[simp] theorem listRow_getElem (l : List (List UInt8)) (n : Nat) (h : n < (listRow l).length) : (listRow l)[n] = [V.sl 2 1 (byteRow (l[n]'(by simpa using h)))] := by simp [listRow]
@[simp] theorem listRow_isEmpty (l : List (List UInt8)) : (listRow l).isEmpty = l.isEmpty := by cases l <;> rfl
@[simp] theorem listRow_take (l : List (List UInt8)) (n : Nat) : (listRow l).take n = listRow (l.take n) := by simp [listRow, List.map_take]
@[simp] theorem listRow_drop (l : List (List UInt8)) (n : Nat) : (listRow l).drop n = listRow (l.drop n) := by simp [listRow, List.map_drop]
@[simp] theorem listRow_closed : ∀ l : List (List UInt8), closedRows (listRow l) = true
  | [] => rfl
  | b :: l => by
    have := listRow_closed l
    simp only [listRow, List.map_cons] at this ⊢
    simp [closedRows, this]
@[simp] theorem listRow_fz (g : Nat → Option AObj) (F : List Nat) (l : List (List UInt8)) : (listRow l).map (·.map (fzV g F)) = listRow l := by
  simp [listRow]
theorem listRow_inj {a b : List (List UInt8)} (h : listRow a = listRow b) : a = b := by
  induction a generalizing b with
  | nil => cases b with
    | nil => rfl
    | cons => cases h
  | cons x a ih => cases b with
    | nil => cases h
    | cons y b =>
      simp only [listRow, List.map_cons, List.cons.injEq] at h
      obtain ⟨h1, h2⟩ := h
      simp at h1
      rw [h1, ih h2]
@[simp] theorem listRow_eq {a b : List (List UInt8)} : listRow a = listRow b ↔ a = b := ⟨listRow_inj, fun h => by rw [h]⟩
theorem mem_le_sum : ∀ {l : List Nat} {x : Nat}, x ∈ l → x ≤ l.sum
  | [], _, h => by cases h
  | a :: l, x, h => by
    rw [List.sum_cons]
    rcases List.mem_cons.1 h with rfl | h
    · omega
    · have := mem_le_sum h; omega
theorem rd_list {w : World} {I : Nat → Prop} {γ : Nat → Option GI} {t es : Nat} {ls : List (List UInt8)} {v : Value} (h : Rd w I γ (.sl t es (listRow ls)) v) : ∀ x ∈ ls, x.length ≤ 9223372036854775807 := by
  intro x hx
  obtain ⟨i, hi⟩ := List.getElem?_of_mem hx
  generalize hr : listRow ls = rows at h
  cases h with
  | nil => have := listRow_inj (b := []) hr; rw [this] at hi; simp at hi
  | sl _ _ _ _ _ n c _ _ _ hlen hnc hcm hes hcel hc hrr =>
    have := hrr i 0 (.sl 2 1 (byteRow x)) (by rw [← hr]; simp [cellAt, hi])
    simpa using Rd.sl_len this
end Go.Lift
