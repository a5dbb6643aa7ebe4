/-
  What an operation looks at: it comes to the same where that is the same.
-/
import Derived.Test.YtgnfgcpolbcaoaaL14
namespace Go.Lift

variable {T : TypeId → Option TI} {C : FuncId → List V → List AObj → Option CRes}

def Agree (g g' : Nat → Option AObj) (l : List Nat) : Prop := ∀ n ∈ l, g' n = g n

theorem Agree.left {g g' : Nat → Option AObj} {a b : List Nat} (h : Agree g g' (a ++ b)) : Agree g g' a := fun n hn => h n (List.mem_append_left _ hn)
theorem Agree.right {g g' : Nat → Option AObj} {a b : List Nat} (h : Agree g g' (a ++ b)) : Agree g g' b := fun n hn => h n (List.mem_append_right _ hn)

theorem fresh_loc {g g' : Nat → Option AObj} {nm : Nat} {o : AObj} {v : V} {rd : List Nat} {e : Eff} (h : fresh nm o v rd g = some e) (ha : Agree g g' (e.rd ++ e.wr.map (·.1))) : fresh nm o v rd g' = some e := by
  obtain ⟨h1, h2, h3⟩ := fresh_some h
  have : g' nm = g nm := ha.right nm (by rw [h3]; simp)
  unfold fresh at h ⊢
  rw [this]
  exact h

theorem elemsOf_loc {g g' : Nat → Option AObj} {x : V} {es : List (List V)} {rd : List Nat} (h : elemsOf g x = some (es, rd)) (ha : Agree g g' rd) : elemsOf g' x = some (es, rd) ∧ flOfSrc g' x = flOfSrc g x ∧ szOf g' x = szOf g x := by
  unfold elemsOf at h
  split at h
  · cases h; exact ⟨rfl, rfl, rfl⟩
  · rename_i nm off n
    split at h
    · rename_i o hg
      split at h
      · rename_i hc
        cases h
        have : g' nm = some o := by rw [ha nm (by simp)]; exact hg
        refine ⟨by simp only [elemsOf, this, if_pos hc], ?_, ?_⟩ <;> simp [flOfSrc, szOf, this, hg]
      · cases h
    · cases h
  · cases h

theorem ownRd_loc {g g' : Nat → Option AObj} {x : V} (ha : Agree g g' (ownRd x)) : ∀ nm off n, x = .own nm off n → g' nm = g nm := by
  intro nm off n hx
  subst hx
  exact ha nm (by simp [ownRd])

theorem aAppend_loc {g g' : Nat → Option AObj} {nm : Nat} {e : TypeId} {x : V} {src : List (List V)} {sfl : Nat} {rd : List Nat} {eff : Eff} (h : aAppend T g nm e x src sfl rd = some eff) (ha : Agree g g' (eff.rd ++ eff.wr.map (·.1))) : aAppend T g' nm e x src sfl rd = some eff := by
  unfold aAppend at h ⊢
  split at h
  · cases h
  · rename_i ei hei
    try simp only
    split at h
    · cases h
    · rename_i hsz
      rw [if_neg hsz]
      split at h
      · split at h
        · rename_i hc
          rw [if_pos hc]
          exact fresh_loc h ha
        · cases h
      · rename_i m off n
        try simp only
        split at h
        · rename_i o hg
          split at h
          · cases h
          · rename_i hc
            split at h
            · rename_i hc2
              split at h
              · rename_i hn
                cases h
                have e1 : (g' m).map (cutO n) = some o := by rw [ha m (by simp)]; exact hg
                have e2 : g' nm = none := by rw [ha nm (by simp)]; exact hn
                simp only [e1, if_neg hc, if_pos hc2, e2]
              · cases h
            · cases h
        · cases h
      · cases h

theorem deepCells_loc {F F' : V → Option (V × List Nat)} : ∀ {cs : List V}, (∀ c ∈ cs, F' c = F c) → deepCells F' cs = deepCells F cs
  | [], _ => rfl
  | c :: cs, h => by
    simp only [deepCells]
    rw [h c (List.mem_cons_self ..), deepCells_loc (cs := cs) (fun x hx => h x (List.mem_cons_of_mem _ hx))]
theorem deepRows_loc {F F' : V → Option (V × List Nat)} : ∀ {cs : List (List V)}, (∀ r ∈ cs, ∀ c ∈ r, F' c = F c) → deepRows F' cs = deepRows F cs
  | [], _ => rfl
  | c :: cs, h => by
    simp only [deepRows]
    rw [deepCells_loc (h c (List.mem_cons_self ..)), deepRows_loc (cs := cs) (fun x hx => h x (List.mem_cons_of_mem _ hx))]
theorem deepV_loc {g g' : Nat → Option AObj} {refs : List Nat} : ∀ (k : Nat) {v : V}, Agree g g' (deepNm g k v) → deepV g' refs k v = deepV g refs k v := by
  intro k
  induction k with
  | zero => intro v _; cases v <;> rfl
  | succ k ih =>
    intro v ha
    by_cases hown : ∃ nm off n, v = .own nm off n
    · obtain ⟨nm, off, n, rfl⟩ := hown
      simp only [deepNm] at ha
      simp only [deepV]
      rw [ha nm (List.mem_cons_self ..)]
      cases hg : g nm with
      | none => rfl
      | some o =>
        rw [hg] at ha
        simp only at ha ⊢
        by_cases hf : o.fl = 0
        · have e : deepRows (deepV g' refs k) ((o.elems.drop off).take n) = deepRows (deepV g refs k) ((o.elems.drop off).take n) := by
            refine deepRows_loc fun r hr c hc => ih fun x hx => ha x (List.mem_cons_of_mem _ ?_)
            rw [if_neg (by simp [hf])]
            exact List.mem_flatMap.2 ⟨r, List.mem_of_mem_drop (List.mem_of_mem_take hr), List.mem_flatMap.2 ⟨c, hc, hx⟩⟩
          simp only [e]
        · simp only [if_pos (show o.fl ≠ 0 from hf)]
    · cases v <;> first | rfl | exact absurd ⟨_, _, _, rfl⟩ hown
theorem deepNm_loc {g g' : Nat → Option AObj} : ∀ (k : Nat) {v : V}, Agree g g' (deepNm g k v) → deepNm g' k v = deepNm g k v := by
  intro k
  induction k with
  | zero => intro v _; cases v <;> rfl
  | succ k ih =>
    intro v ha
    by_cases hown : ∃ nm off n, v = .own nm off n
    · obtain ⟨nm, off, n, rfl⟩ := hown
      simp only [deepNm] at ha ⊢
      rw [ha nm (List.mem_cons_self ..)]
      cases hg : g nm with
      | none => rfl
      | some o =>
        rw [hg] at ha
        simp only at ha ⊢
        by_cases hf : o.fl = 0
        · rw [if_neg (by simp [hf]), if_neg (by simp [hf])]
          congr 1
          rw [if_neg (by simp [hf])] at ha
          have key : ∀ (l : List (List V)), (∀ r ∈ l, ∀ c ∈ r, deepNm g' k c = deepNm g k c) → (l.flatMap fun r => r.flatMap (deepNm g' k)) = l.flatMap fun r => r.flatMap (deepNm g k) := by
            intro l
            induction l with
            | nil => intro _; rfl
            | cons r l ihl =>
              intro h
              rw [List.flatMap_cons, List.flatMap_cons, ihl (fun x hx => h x (List.mem_cons_of_mem _ hx))]
              congr 1
              have h1 := h r (List.mem_cons_self ..)
              clear h
              induction r with
              | nil => rfl
              | cons c r ihr => rw [List.flatMap_cons, List.flatMap_cons, h1 c (List.mem_cons_self ..), ihr (fun x hx => h1 x (List.mem_cons_of_mem _ hx))]
          exact key _ fun r hr c hc => ih fun x hx => ha x (List.mem_cons_of_mem _ (List.mem_flatMap.2 ⟨r, hr, List.mem_flatMap.2 ⟨c, hc, hx⟩⟩))
        · rw [if_pos hf, if_pos hf]
    · cases v <;> first | rfl | exact absurd ⟨_, _, _, rfl⟩ hown
theorem argNms_loc {g g' : Nat → Option AObj} : ∀ {cs : List V}, Agree g g' (argNms g cs) → argNms g' cs = argNms g cs := by
  have cells : ∀ {cs : List V}, Agree g g' (cs.flatMap (deepNm g 3)) → cs.flatMap (deepNm g' 3) = cs.flatMap (deepNm g 3) := by
    intro cs
    induction cs with
    | nil => intro _; rfl
    | cons c cs ih =>
      intro ha
      rw [List.flatMap_cons] at ha
      rw [List.flatMap_cons, List.flatMap_cons, deepNm_loc 3 (fun n hn => ha n (List.mem_append_left _ hn)), ih (fun n hn => ha n (List.mem_append_right _ hn))]
  intro cs
  induction cs with
  | nil => intro _; rfl
  | cons c cs ih =>
    intro ha
    simp only [argNms, List.flatMap_cons] at ha ih ⊢
    rw [ih (fun n hn => ha n (List.mem_append_right _ hn))]
    congr 1
    have ha1 : Agree g g' (argNm g c) := fun n hn => ha n (List.mem_append_left _ hn)
    cases c <;> first | exact deepNm_loc 3 ha1 | exact cells ha1
theorem deepV_bs {g : Nat → Option AObj} {refs : List Nat} : ∀ (k : Nat) {v v' : V} {bs : List Nat}, deepV g refs k v = some (v', bs) → ∀ n ∈ bs, n ∈ deepNm g k v := by
  have base : ∀ {v v' : V} {bs : List Nat} {l : List Nat}, (if v.closed then some (v, ([] : List Nat)) else none) = some (v', bs) → ∀ n ∈ bs, n ∈ l := by
    intro v v' bs l h
    split at h
    · cases h; intro n hn; cases hn
    · cases h
  have cells : ∀ {F : V → Option (V × List Nat)} {G : V → List Nat}, (∀ u v b, F u = some (v, b) → ∀ n ∈ b, n ∈ G u) → ∀ {cs cs' : List V} {bs : List Nat}, deepCells F cs = some (cs', bs) → ∀ n ∈ bs, n ∈ cs.flatMap G := by
    intro F Q hF cs
    induction cs with
    | nil => intro cs' bs h n hn; cases h; cases hn
    | cons c cs ih =>
      intro cs' bs h n hn
      simp only [deepCells] at h
      split at h
      · rename_i h1 h2
        cases h
        rw [List.flatMap_cons]
        exact (List.mem_append.1 hn).elim (fun h => List.mem_append_left _ (hF _ _ _ h1 n h)) (fun h => List.mem_append_right _ (ih h2 n h))
      · cases h
  have rows : ∀ {F : V → Option (V × List Nat)} {G : V → List Nat}, (∀ u v b, F u = some (v, b) → ∀ n ∈ b, n ∈ G u) → ∀ {cs cs' : List (List V)} {bs : List Nat}, deepRows F cs = some (cs', bs) → ∀ n ∈ bs, n ∈ cs.flatMap fun r => r.flatMap G := by
    intro F Q hF cs
    induction cs with
    | nil => intro cs' bs h n hn; cases h; cases hn
    | cons c cs ih =>
      intro cs' bs h n hn
      simp only [deepRows] at h
      split at h
      · rename_i h1 h2
        cases h
        rw [List.flatMap_cons]
        exact (List.mem_append.1 hn).elim (fun h => List.mem_append_left _ (cells hF h1 n h)) (fun h => List.mem_append_right _ (ih h2 n h))
      · cases h
  intro k
  induction k with
  | zero =>
    intro v v' bs h
    refine base (v := v) (v' := v') (bs := bs) ?_
    rw [← h]; cases v <;> rfl
  | succ k ih =>
    intro v v' bs h
    by_cases hown : ∃ nm off n, v = .own nm off n
    · obtain ⟨nm, off, n, rfl⟩ := hown
      simp only [deepV] at h
      simp only [deepNm]
      split at h
      · cases h
      · split at h
        · rename_i o hg
          split at h
          · split at h
            · rename_i rows' bs' hrows
              cases h
              intro x hx
              rcases List.mem_cons.1 hx with rfl | hx
              · exact List.mem_cons_self ..
              · refine List.mem_cons_of_mem _ ?_
                try rw [hg]
                try simp only
                split at hrows
                · cases hrows; cases hx
                · rename_i hf
                  rw [if_neg hf]
                  have := rows (G := deepNm g k) (fun u v b hu => ih hu) hrows x hx
                  obtain ⟨r, hr, hx⟩ := List.mem_flatMap.1 this
                  exact List.mem_flatMap.2 ⟨r, List.mem_of_mem_drop (List.mem_of_mem_take hr), hx⟩
            · cases h
          · cases h
        · cases h
    · refine base (v := v) (v' := v') (bs := bs) ?_
      rw [← h]
      cases v <;> first | rfl | exact absurd ⟨_, _, _, rfl⟩ hown

theorem argOne_loc {g g' : Nat → Option AObj} {refs : List Nat} {v : V} (ha : Agree g g' (deepNm g 3 v)) : argOne g' refs v = argOne g refs v := by
  unfold argOne
  cases v <;> try rfl
  rename_i nm off n
  simp only [ha nm (by simp [deepNm]), deepV_loc 3 ha]
theorem argCells_loc {g g' : Nat → Option AObj} {refs : List Nat} : ∀ {cs : List V}, Agree g g' (cs.flatMap (deepNm g 3)) → argCells g' refs cs = argCells g refs cs
  | [], _ => rfl
  | c :: cs, ha => by
    simp only [argCells]
    rw [argOne_loc (v := c) (fun n hn => ha n (by simp only [List.flatMap_cons]; exact List.mem_append_left _ hn)), argCells_loc (cs := cs) (fun n hn => ha n (by simp only [List.flatMap_cons]; exact List.mem_append_right _ hn))]
theorem argV_loc {g g' : Nat → Option AObj} {refs : List Nat} {v : V} (ha : Agree g g' (argNm g v)) : argV g' refs v = argV g refs v := by
  unfold argV
  cases v <;> try (exact argOne_loc ha)
  simp only [argCells_loc ha]
theorem argVs_loc {g g' : Nat → Option AObj} {refs : List Nat} : ∀ {cs : List V}, Agree g g' (argNms g cs) → argVs g' refs cs = argVs g refs cs
  | [], _ => rfl
  | c :: cs, ha => by
    simp only [argVs]
    rw [argV_loc (v := c) (fun n hn => ha n (by simp only [argNms, List.flatMap_cons]; exact List.mem_append_left _ hn)), argVs_loc (cs := cs) (fun n hn => ha n (by simp only [argNms, List.flatMap_cons]; exact List.mem_append_right _ hn))]
theorem argVs_bs {g : Nat → Option AObj} {refs : List Nat} : ∀ {cs vs : List V} {bs : List Nat}, argVs g refs cs = some (vs, bs) → ∀ n ∈ bs, n ∈ argNms g cs := by
  have one : ∀ {v v' : V} {bs : List Nat}, argOne g refs v = some (v', bs) → ∀ n ∈ bs, n ∈ deepNm g 3 v := by
    intro v v' bs h n hn
    unfold argOne at h
    split at h
    · split at h
      · cases h; cases hn
      · split at h
        · split at h
          · cases h
            have : n = _ := List.mem_singleton.1 hn
            subst this
            exact List.mem_cons_self ..
          · split at h
            · exact deepV_bs 3 h n hn
            · cases h
        · cases h
    · split at h
      · cases h; cases hn
      · cases h
    · split at h
      · cases h; cases hn
      · cases h
  have cells : ∀ {cs vs : List V} {bs : List Nat}, argCells g refs cs = some (vs, bs) → ∀ n ∈ bs, n ∈ cs.flatMap (deepNm g 3) := by
    intro cs
    induction cs with
    | nil => intro vs bs h n hn; cases h; cases hn
    | cons c cs ih =>
      intro vs bs h n hn
      simp only [argCells] at h
      split at h
      · rename_i h1 h2
        cases h
        rw [List.flatMap_cons]
        exact (List.mem_append.1 hn).elim (fun h => List.mem_append_left _ (one h1 n h)) (fun h => List.mem_append_right _ (ih h2 n h))
      · cases h
  have val : ∀ {v v' : V} {bs : List Nat}, argV g refs v = some (v', bs) → ∀ n ∈ bs, n ∈ argNm g v := by
    intro v v' bs h n hn
    unfold argV at h
    split at h
    · rename_i cs
      cases hcs : argCells g refs cs with
      | none => rw [hcs] at h; cases h
      | some p => obtain ⟨a, b⟩ := p; rw [hcs] at h; cases h; exact cells hcs n hn
    · rename_i hne
      have := one h n hn
      cases v <;> first | exact this | exact absurd rfl (hne _)
  intro cs
  induction cs with
  | nil => intro vs bs h n hn; cases h; cases hn
  | cons c cs ih =>
    intro vs bs h n hn
    simp only [argVs] at h
    split at h
    · rename_i h1 h2
      cases h
      simp only [argNms]
      rw [List.flatMap_cons]
      exact (List.mem_append.1 hn).elim (fun h => List.mem_append_left _ (val h1 n h)) (fun h => List.mem_append_right _ (ih h2 n h))
    · cases h
theorem ptrNames_sub : ∀ {cs : List V}, ∀ n ∈ ptrNames cs, n ∈ cs.flatMap namesOf
  | [], n, h => by cases h
  | c :: cs, n, h => by
    rw [List.flatMap_cons]
    cases c <;> simp only [ptrNames] at h <;> try exact List.mem_append_right _ (ptrNames_sub n h)
    split at h
    · exact List.mem_append_right _ (ptrNames_sub n h)
    · rcases List.mem_cons.1 h with rfl | h
      · exact List.mem_append_left _ (by simp [namesOf, nameOf])
      · exact List.mem_append_right _ (ptrNames_sub n h)
theorem allNames_sub {cs : List V} : ∀ n ∈ allNames cs, n ∈ cs.flatMap namesOf := by
  have : ∀ (r l : List Nat) (n : Nat), n ∈ addNew l r → n ∈ l ∨ n ∈ r := by
    intro r
    induction r with
    | nil => intro l n h; exact .inl h
    | cons m r ih =>
      intro l n h
      simp only [addNew] at h
      split at h
      · exact (ih l n h).imp id (List.mem_cons_of_mem _)
      · rcases ih _ n h with h | h
        · rcases List.mem_cons.1 h with rfl | h
          · exact .inr (List.mem_cons_self ..)
          · exact .inl h
        · exact .inr (List.mem_cons_of_mem _ h)
  intro n hn
  rcases this _ _ n hn with h | h
  · cases h
  · exact h
theorem refObjs_loc {g g' : Nat → Option AObj} : ∀ {l : List Nat}, Agree g g' l → refObjs g' l = refObjs g l
  | [], _ => rfl
  | n :: l, ha => by
    simp only [refObjs]
    rw [ha n (by simp), refObjs_loc (l := l) (fun m hm => ha m (List.mem_cons_of_mem _ hm))]
theorem freshAll_loc {g g' : Nat → Option AObj} {nm : Nat} : ∀ {k : Nat}, (∀ j, j < k → g' (nm + j) = g (nm + j)) → freshAll g' nm k = freshAll g nm k
  | 0, _ => rfl
  | k + 1, h => by
    simp only [freshAll]
    rw [h k (by omega), freshAll_loc (k := k) (fun j hj => h j (by omega))]
theorem freeze_loc {g g' : Nat → Option AObj} : ∀ {l : List Nat}, Agree g g' l → freeze g' l = freeze g l
  | [], _ => rfl
  | n :: l, ha => by
    simp only [freeze]
    rw [ha n (by simp), freeze_loc (l := l) (fun m hm => ha m (List.mem_cons_of_mem _ hm))]

theorem aCallR_loc {g g' : Nat → Option AObj} {nm : Nat} {f : FuncId} {args : List V} {refs : List Nat} (hrefs : ∀ n ∈ refs, n ∈ args.flatMap namesOf) (ha0 : Agree g g' (args.flatMap namesOf)) (ha : Agree g g' (argNms g args)) (hf : ∀ j, j < 8 → g' (nm + j) = g (nm + j)) : aCallR C g' nm f args refs = aCallR C g nm f args refs := by
  unfold aCallR
  rw [argVs_loc ha, refObjs_loc (fun n hn => ha0 n (hrefs n hn)), freshAll_loc hf]
  split
  · rename_i vs bs os h1 h2
    rw [freeze_loc (l := bs) (fun n hn => ha n (argVs_bs h1 n hn))]
  · rfl

theorem aCall_loc {g g' : Nat → Option AObj} {nm : Nat} {f : FuncId} {args : List V} {e : Eff} (h : aCall C g nm f args = some e) (ha : Agree g g' (e.rd ++ e.wr.map (·.1))) : aCall C g' nm f args = some e := by
  have hrd : ∀ {refs : List Nat} {e1 : Eff}, aCallR C g nm f args refs = some e1 → ∀ j, j < 8 → nm + j ∈ e1.rd := by
    intro refs e1 h1 j hj
    unfold aCallR at h1
    split at h1
    · split at h1
      · split at h1
        · simp only at h1
          split at h1
          · cases h1
            exact List.mem_append_right _ (List.mem_map.2 ⟨j, List.mem_range.2 hj, rfl⟩)
          · cases h1
        · cases h1
      · cases h1
    · cases h1
  have key : ∀ {refs : List Nat} {e1 : Eff}, aCallR C g nm f args refs = some e1 → e = { e1 with rd := e1.rd ++ allNames args ++ argNms g args } → aCall C g' nm f args = aCall C g nm f args := by
    intro refs e1 h1 he
    have hn : Agree g g' (args.flatMap namesOf) := by
      intro n hn
      refine ha.left n ?_
      rw [he]
      exact List.mem_append_left _ (List.mem_append_right _ (mem_addNew (.inr hn)))
    have hn2 : Agree g g' (argNms g args) := by
      intro n hn
      refine ha.left n ?_
      rw [he]
      exact List.mem_append_right _ hn
    have hf : ∀ j, j < 8 → g' (nm + j) = g (nm + j) := by
      intro j hj
      refine ha.left _ ?_
      rw [he]
      exact List.mem_append_left _ (List.mem_append_left _ (hrd h1 j hj))
    unfold aCall
    rw [aCallR_loc ptrNames_sub hn hn2 hf, aCallR_loc allNames_sub hn hn2 hf, argNms_loc hn2]
  have h0 := h
  unfold aCall at h
  split at h
  · rename_i e1 h1
    rw [key h1 (by cases h; rfl)]; exact h0
  · split at h
    · rename_i e1 h1
      rw [key h1 (by cases h; rfl)]; exact h0
    · cases h

theorem aop_loc {ρ : Operand → V} {g g' : Nat → Option AObj} {nm : Nat} {op : Op} {e : Eff} (h : aop T C ρ g nm op = some e) (ha : Agree g g' (e.rd ++ e.wr.map (·.1))) : aop T C ρ g' nm op = some e := by
  unfold aop at h ⊢
  split at h
  case h_4 t =>
    try simp only
    split at h
    · rename_i ei hei
      split at h
      · rename_i hc; rw [if_pos hc]; exact fresh_loc h ha
      · cases h
    · cases h
  case h_5 t x =>
    try simp only
    split at h
    · rename_i hc; rw [if_pos hc]; exact fresh_loc h ha
    · cases h
  case h_7 t len ps =>
    try simp only
    unfold aBuildSlice at h ⊢
    split at h
    · rename_i el hd
      try simp only
      split at h
      · rename_i ei hei
        try simp only
        split at h
        · rename_i hc
          rw [if_pos hc]
          split at h
          · rename_i cs hf
            split at h
            · rename_i hcel; simp only [hf, if_pos hcel]; exact fresh_loc h ha
            · cases h
          · cases h
        · cases h
      · cases h
    · cases h
  case h_8 t x =>
    try simp only
    unfold aLoad at h ⊢
    split at h
    · cases h
    · rename_i ti ht
      try simp only
      split at h
      · exact h
      · rename_i n i j _
        try simp only
        split at h
        · rename_i o hg
          split at h
          · cases h
          · rename_i hmd
            split at h
            · rename_i r hr
              obtain ⟨v, hv, he⟩ := Option.map_eq_some_iff.1 h
              have : g' n = some o := by rw [ha.left n (by rw [← he]; simp)]; exact hg
              simp only [this, if_neg hmd, hr]
              exact h
            · cases h
        · cases h
      · cases h
  case h_9 t x y =>
    try simp only
    unfold aStore at h ⊢
    split at h
    · rename_i ti n i j ht hx
      try simp only
      split at h
      · rename_i o hg
        split at h
        · rename_i hmd
          split at h
          · rename_i r hr
            split at h
            · rename_i hc
              cases h
              have : g' n = some o := by rw [ha.left n (by simp)]; exact hg
              simp only [this, if_pos hmd, hr, if_pos hc]
            · cases h
          · cases h
        · cases h
      · cases h
    · cases h
  case h_13 src dst x =>
    try simp only
    unfold aConv at h ⊢
    split at h
    · exact h
    · exact h
    · rename_i el h1 h2 h3
      split at h
      · rename_i hb
        split at h
        · rename_i es rd he
          obtain ⟨l, hl, hee⟩ := Option.map_eq_some_iff.1 h
          have hag : Agree g g' rd := by intro n hn; exact ha.left n (by rw [← hee]; exact hn)
          simp only [if_pos hb, (elemsOf_loc he hag).1]
          exact h
        · cases h
      · cases h
    · rename_i el s h1 h2
      split at h
      · rename_i hb; simp only [if_pos hb]; exact fresh_loc h ha
      · cases h
    · cases h
  case h_14 t l c =>
    try simp only
    unfold aMake at h ⊢
    split at h
    · rename_i el kl l kc c hd _ _
      try simp only
      split at h
      · rename_i ei hei
        try simp only
        split at h
        · rename_i hc; rw [if_pos hc]; exact fresh_loc h ha
        · cases h
      · cases h
    · cases h
  case h_15 t x lo hi mx =>
    try simp only
    obtain ⟨v, hv, he⟩ := Option.map_eq_some_iff.1 h
    have hag : Agree g g' (ownRd (ρ x)) := by intro n hn; exact ha.left n (by rw [← he]; exact hn)
    have hl := ownRd_loc hag
    have : aSlice T g' t (ρ x) (lo.map ρ) (hi.map ρ) (mx.map ρ) = aSlice T g t (ρ x) (lo.map ρ) (hi.map ρ) (mx.map ρ) := by
      unfold aSlice
      split
      · rfl
      · rfl
      · rename_i hx; rw [hl _ _ _ hx]
      · rfl
    rw [this]; exact h
  case h_18 t x i =>
    try simp only
    obtain ⟨v, hv, he⟩ := Option.map_eq_some_iff.1 h
    have hag : Agree g g' (ownRd (ρ x)) := by intro n hn; exact ha.left n (by rw [← he]; exact hn)
    have hl := ownRd_loc hag
    have : aIndexAddr T g' t (ρ x) (ρ i) = aIndexAddr T g t (ρ x) (ρ i) := by
      unfold aIndexAddr
      split
      · rfl
      · rename_i hx _; rw [hl _ _ _ hx]
      · rfl
    rw [this]; exact h
  case h_21 b args tys =>
    try simp only
    unfold aBuiltin at h ⊢
    split at h
    · exact h
    · exact h
    · rename_i x y
      try simp only
      split at h
      · rename_i el tt tx h1 h2
        try simp only
        split at h
        · rename_i s h3 h4
          split at h
          · rename_i hb; simp only [if_pos hb]; exact aAppend_loc h ha
          · cases h
        · rename_i e' h3
          split at h
          · rename_i es rd he
            split at h
            · rename_i hsz
              have hag : Agree g g' rd := by
                unfold aAppend at h
                split at h
                · cases h
                · split at h
                  · cases h
                  · split at h
                    · split at h
                      · unfold fresh at h
                        split at h
                        · cases h; exact ha.left
                        · cases h
                      · cases h
                    · split at h
                      · split at h
                        · cases h
                        · split at h
                          · split at h
                            · cases h; intro n hn; exact ha.left n (List.mem_cons_of_mem _ hn)
                            · cases h
                          · cases h
                      · cases h
                    · cases h
              obtain ⟨k1, k2, k3⟩ := elemsOf_loc he hag
              simp only [k1, k2, k3, if_pos hsz]
              exact aAppend_loc h ha
            · cases h
          · cases h
        · try simp only
          split at h
          · unfold aZeros at h ⊢
            split at h
            · try simp only
              split at h
              · rename_i hc; rw [if_pos hc]; exact fresh_loc h ha
              · cases h
            · cases h
          · cases h
        · cases h
      · cases h
    · exact h
    · exact h
    · cases h
  case h_22 f args tys =>
    try simp only
    split at h
    · exact aCall_loc h ha
    · cases h
  all_goals first | exact h | cases h
end Go.Lift
