/-
  Texts: PLB.
-/
import Derived.Test.YtcpdgbncekdicaaGreatV1
set_option linter.unusedSimpArgs false
set_option linter.unusedVariables false
namespace Go.Lift
section
variable {P : Program} {T : TypeId → Option TI}
theorem zc7 (z : List V) : ∀ (n k : Nat),k < n * z.length → ((List.replicate n z).flatten)[k]? = z[k % z.length]?
 | 0,k,h=>by simp at h
 | n + 1,k,h=>by
  rw [List.replicate_succ,List.flatten_cons]
  by_cases hk : k < z.length
  ·rw [List.getElem?_append_left hk,Nat.mod_eq_of_lt hk]
  ·rw [List.getElem?_append_right (by omega),zc7 z n (k - z.length) (by rw [Nat.add_mul] at h; omega)]
   congr 1
   rw [← Nat.mod_eq_sub_mod (by omega)]
theorem zev (es : Nat) : ∀ (n : Nat) (cs : List V),(zd8 es n cs).length = n
 | 0,_=>rfl
 | n + 1,cs=>by simp [zd8,zev es n]
theorem zkb (es : Nat) : ∀ (n : Nat) (cs : List V),n * es ≤ cs.length → ∀ r ∈ zd8 es n cs,r.length = es
 | 0,_,_,r,h=>by simp [zd8] at h
 | n + 1,cs,hl,r,h=>by
  rw [Nat.add_mul] at hl
  simp only [zd8,List.mem_cons] at h
  rcases h with rfl | h
  ·rw [List.length_take]; omega
  ·exact zkb es n _ (by rw [List.length_drop]; omega) r h
theorem zcZ (es : Nat) : ∀ (n : Nat) (cs : List V) (i j : Nat) (u : V),zah (zd8 es n cs) i j = some u → cs[i * es + j]? = some u
 | 0,_,i,j,u,h=>by simp [zd8,zah] at h
 | n + 1,cs,i,j,u,h=>by
  obtain ⟨r,h1,h2⟩:=zan h
  cases i with
  | zero =>
   simp [zd8] at h1; subst h1
   rw [List.getElem?_take] at h2
   split at h2
   ·simpa using h2
   ·cases h2
  | succ i =>
   simp [zd8] at h1
   have:=zcZ es n (cs.drop es) i j u (zay h1 h2)
   rw [List.getElem?_drop] at this
   rw [← this]; congr 1; rw [Nat.add_mul]; omega
theorem zhd (hT : zaJ P T) {w0 w : World} {ex I γ g} (hi : Inv w0 ex I γ g w) {nm : Nat} {t : TypeId} {len : Nat} {partsV : List (Nat × V)} {parts : Array (Nat × Value)} {e : Eff} (hl : parts.toList.length = partsV.length)
 (hp : ∀ (k : Nat) (i i' : Nat) (v : V) (x : Value),partsV[k]? = some (i,v) → parts.toList[k]? = some (i',x) → i = i' ∧ Rd w I γ v x) (h : zcW T g nm t len partsV = some e) :
 ∃ r w' γ',(Instr.buildSlice t len parts).run P w = .ok r w' ∧ Rd w' I γ' e.v r ∧ Inv w0 ex I γ' (zas g e.wr) w' ∧ Ext I γ w I γ' w':=by
 unfold zcW at h
 split at h
 ·rename_i el hd
  split at h
  ·rename_i ei hei
   split at h
   ·rename_i hc
    obtain ⟨c1,c2,c3⟩:=hc
    split at h
    ·rename_i cs hf
     split at h
     ·rename_i hcel
      obtain ⟨hn,hv,hwr⟩:=zcC h
      obtain ⟨z,z1,z2,z3⟩:=(hT el ei hei).run_zero w
      have hzl : ei.zero.length = ei.size:=by rw [← z3]; simp [z2]
      have hfl : (List.replicate len ei.zero).flatten.length = len * ei.size:=by simp [hzl]
      obtain ⟨xs,x1,x2,x3,x4⟩:=zeg (w:=w) (I:=I) (γ:=γ) (place:=fun i=>some (i * ei.size,ei.size)) (fun i p hpl=>hpl) partsV parts.toList (List.replicate len ei.zero).flatten cs
       ((Array.range (len * ei.size)).map (z.cells[· % z.cells.size]!)) hl hp (by rw [hfl]; simp) (fun j u x hu hx=>by
         have hj : j < len * ei.size:=by rw [← hfl]; exact (List.getElem?_eq_some_iff.1 hu).1
         rw [zc7 _ _ _ (by rw [hzl]; exact hj),hzl] at hu
         rw [Array.getElem?_map] at hx
         have hm : j % ei.size < z.cells.size:=by rw [z2]; exact Nat.mod_lt _ c3
         simp only [Array.getElem?_range,hj,if_true,Option.map_some,Option.some.injEq,z2] at hx
         rw [getElem!_pos z.cells _ hm] at hx
         subst hx
         exact zdr z3 hu (Array.getElem?_eq_getElem hm)) hf
      have hA:=hi.alloc (w':=w.alloc (.cells xs el)) hn (cur:=xs) (fr:=(0,0)) (o:=⟨el,ei.size,zd8 ei.size len cs,true,flOf cs,.rw⟩) (cap:=len) rfl ⟨rfl,rfl,rfl⟩ (.inl (Nat.le_refl _)) (by rw [← x2,x3,hfl]) (by simp [zev]) (fun _=>zev _ _ _) (by simp [maxLen]; omega)
       (zkb _ _ _ (by rw [x3,hfl]; exact Nat.le_refl _)) (fun i j u hu=>zbm hcel _ u (zcZ _ _ _ _ _ _ hu)) (fun hf i j u hu=>(zdH rfl (zcZ _ _ _ _ _ _ hu)).1 hf) (fun hf i j u hu=>(zdH rfl (zcZ _ _ _ _ _ _ hu)).2 hf)
       (fun i j u hu=>by
        have hu':=zcZ _ _ _ _ _ _ hu
        have hlt : i * ei.size + j < xs.size:=by rw [← x2]; exact (List.getElem?_eq_some_iff.1 hu').1
        exact ⟨xs[i * ei.size + j],Array.getElem?_eq_getElem hlt,x4 _ u _ hu' (Array.getElem?_eq_getElem hlt)⟩) rfl (fun i j u hu=>zb5 hcel _ u (zcZ _ _ _ _ _ _ hu))
      rw [hwr,zcG,hv]
      refine ⟨.slice (some ⟨w.heap.size,0,none⟩) len len,_,_,?_,?_,hA.1,hA.2⟩
      ·unfold Instr.buildSlice
       simp only [Sem.run_bind,zaH hT hd,Result.andThen_ok,(hT el ei hei).run_size w]
       rw [if_neg (by omega)]
       by_cases h0 : len * ei.size = 0
       ·have hlen0 : len = 0:=by rcases Nat.mul_eq_zero.1 h0 with h | h <;> omega
        subst hlen0
        simp only [Nat.zero_mul,if_true,Sem.run_bind,Sem.run_pure,Result.andThen_ok]
        have hx1 : Instr.fill (fun i=>some (i * ei.size,ei.size)) ((Array.range 0).map fun x=>(#[] : Array Value)[x % (#[] : Array Value).size]!) parts.toList = some xs:=by
         rw [← x1]; congr 1; simp
        rw [hx1]; rfl
       ·rw [if_neg h0]
        simp only [Sem.run_bind,z1,Result.andThen_ok,Sem.run_pure,x1]
        rfl
      ·exact .own _ _ _ _ _ _ ⟨w.heap.size,len,ei.size,false⟩ (by simp [gUp]) rfl (by simp) (Nat.le_refl _) (by simp [maxLen]; omega) (fun _=>by simp)
     ·cases h
    ·cases h
   ·cases h
  ·cases h
 ·cases h
theorem zfS : ∀ {rs : List (List V)},zbd rs = true → ∀ r ∈ rs,V.scalar.scalarAll r = true
 | [],_,r,h=>by cases h
 | x :: rs,hs,r,h=>by
  simp only [zbd,Bool.and_eq_true] at hs
  rcases List.mem_cons.1 h with rfl | h
  ·exact hs.1
  ·exact zfS hs.2 r h
theorem zlw (hT : zaJ P T) {w0 w : World} {ex I γ g} (hi : Inv w0 ex I γ g w) {y : V} {vy : Value} {es : List (List V)} {rd : List Nat} (hy : Rd w I γ y vy) (he : zco g y = some (es,rd)) {tx e' : TypeId} (hd : zao T tx = some (.slice e')) {size : Nat} (hsz : ∀ r ∈ es,r.length = size) :
 Src P w I γ size tx vy es (zcp g y):=by
 obtain ⟨ti,t1,t2⟩:=zbb hd
 have hu : P.underlying tx = some (.slice e'):=by rw [← t2]; exact (hT tx ti t1).under
 unfold zco at he
 split at he
 ·cases he
  cases hy with
  | nil=>exact .ofSlice hu _ _ _ rfl (by simp) (by simp [zah]) (by simp [zah]) (by simp [zah]) (by simp [zah])
  | sl _ _ _ _ a n c xs h0 h1' hlen hnc hcm hes hcel hcell hr =>
   refine .ofSlice hu _ _ _ hlen hsz hcel (fun _ i j u hu=>(hr i j u hu).closed_of_noG rfl) (fun hf i j u hu=>?_) (fun i j u hu=>⟨a,xs i j,rfl,?_,(hr i j u hu).closed ((hr i j u hu).closed_of_noG rfl) γ⟩)
   ·simp only [zcp] at hf
    split at hf
    ·rename_i hsc
     obtain ⟨r,h1,h2⟩:=zan hu
     exact V.scalarAll_get (zfS hsc r (List.mem_of_getElem? h1)) j u h2
    ·omega
   ·obtain ⟨r,hr1,_⟩:=zan hu
    have : size = _:=(hsz r (List.mem_of_getElem? hr1)).symm.trans (hes r (List.mem_of_getElem? hr1))
    rw [this]; exact (hcell i j u hu).2
 ·rename_i nm off n
  split at he
  ·rename_i o hg
   split at he
   ·rename_i hcond
    obtain ⟨hmd,hle⟩:=hcond
    cases he
    have hob:=hi.obj nm o hg hmd
    have hlen : ((o.elems.drop off).take n).length = n:=by rw [List.length_take,List.length_drop]; omega
    have hfl : zcp g (.own nm off n) = o.fl:=by simp [zcp,hg]
    rw [hfl]
    have mk : ∀ A c,(∀ i j u,zah ((o.elems.drop off).take n) i j = some u → ∃ a y,A = some a ∧ w.cell? (a.add (i * size + j)) = some y ∧ Rd w I γ u y) → Src P w I γ size tx (.slice A n c) ((o.elems.drop off).take n) o.fl:=fun A c hc =>
     .ofSlice hu A n c hlen hsz (fun i j u hu=>hob.cel _ _ u (zaO hu)) (fun hf i j u hu=>hob.closed hf _ _ u (zaO hu)) (fun hf i j u hu=>hob.scalar hf _ _ u (zaO hu)) hc
    cases hy with
    | ownnil=>exact mk _ _ (fun i j u hu=>by simp [zah] at hu)
    | own _ _ _ _ c oo gi hγ hnn hcap hnc hcm ho =>
     obtain ⟨cur,fr,ha⟩:=hi.at_own hg hmd hγ hnn
     refine mk _ _ (fun i j u hu=>?_)
     obtain ⟨q1,q2⟩:=zcK hsz hu
     rw [hlen] at q1
     obtain ⟨r,hr1,_⟩:=zan hu
     have hrm:=List.mem_of_getElem? hr1
     have e1 : size = o.es:=(hsz r hrm).symm.trans (hob.rows r (List.mem_of_mem_drop (List.mem_of_mem_take hrm)))
     obtain ⟨y,y1,y2⟩:=ha.cells _ _ _ (zaO hu)
     refine ⟨_,y,rfl,?_,y2⟩
     rw [zcx,cell_of_row w gi.blk _ cur o.et fr ha.heap,ho (by omega),ha.es,e1,← Nat.add_assoc,← Nat.add_mul]
     exact y1
   ·cases he
  ·cases he
 ·cases he
end
section
variable {P : Program} {T : TypeId → Option TI} {C : FuncId → List V → List AObj → Option CRes}
def Gives (w0 : World) (ex : Ex) (I : Nat → Prop) (γ : Nat → Option GI) (g : Nat → Option AObj) (w : World) (e : Eff) (r : Result Value) : Prop :=
 ∃ x w' I' γ',r = .ok x w' ∧ Rd w' I' γ' e.v x ∧ Inv w0 ex I' γ' (zas g e.wr) w' ∧ Ext I γ w I' γ' w'
theorem Gives.pure {w0 w : World} {ex I γ g} (hi : Inv w0 ex I γ g w) {v : V} {rd : List Nat} {r : Result Value} (h : ∃ x,r = .ok x w ∧ Rd w I γ v x) : Gives w0 ex I γ g w ⟨v,[],rd⟩ r:=by
 obtain ⟨x,h1,h2⟩:=h
 exact ⟨x,w,I,γ,h1,h2,hi,Ext.refl _ _ _⟩
theorem Gives.of {w0 w : World} {ex I γ g} {e : Eff} {r : Result Value} (h : ∃ x w' γ',r = .ok x w' ∧ Rd w' I γ' e.v x ∧ Inv w0 ex I γ' (zas g e.wr) w' ∧ Ext I γ w I γ' w') : Gives w0 ex I γ g w e r:=by
 obtain ⟨x,w',γ',h1,h2,h3,h4⟩:=h
 exact ⟨x,w',I,γ',h1,h2,h3,h4⟩
theorem zbB {o : Option V} {e : Eff} (h : zbD o = some e) : ∃ v,o = some v ∧ e = ⟨v,[],[]⟩:=by
 unfold zbD at h
 cases o with
 | none=>cases h
 | some v=>cases h; exact ⟨v,rfl,rfl⟩
theorem zkO {w : World} {I γ} {b : Bool} {xs : List V} {vs : List Value} {v : V} (hl : xs.length = vs.length) (hr : ∀ (j : Nat) (u : V) (x : Value),xs[j]? = some u → vs[j]? = some x → Rd w I γ u x) (h : aMin b xs = some v) (a1 : Array TypeId) (t : TypeId) :
 ∃ r,(if b then Builtin.max_ a1 t vs.toArray else Builtin.min_ a1 t vs.toArray).run P w = .ok r w ∧ Rd w I γ v r:=by
 unfold aMin at h
 split at h
 ·rename_i k a k' b'
  split at h
  ·rename_i hk
   cases h
   match vs,hl with
   | [x,y],_ =>
    have h1:=hr 0 _ x rfl rfl
    have h2:=hr 1 _ y rfl rfl
    cases h1; cases h2
    subst hk
    cases b
    ·refine ⟨_,?_,.int _ _ _⟩
     simp [Builtin.min_,Builtin.min2]
    ·refine ⟨_,?_,.int _ _ _⟩
     simp [Builtin.max_,Builtin.max2]
  ·cases h
 ·cases h
theorem zom {w0 w : World} {ex I γ g} (hi : Inv w0 ex I γ g w) {y : V} {vy : Value} {es : List (List V)} {rd : List Nat} {n : Nat} (hy : Rd w I γ y vy) (he : zco g y = some (es,rd)) (hs : szOf g y = some n) : ∀ r ∈ es,r.length = n:=by
 unfold zco at he
 unfold szOf at hs
 split at he
 ·cases he; cases hs
  cases hy with
  | nil=>intro r hr; cases hr
  | sl _ _ _ _ a n c xs h0 h1' hlen hnc hcm hes=>exact hes
 ·split at he
  ·rename_i o hg
   split at he
   ·rename_i hc
    cases he
    simp only [hg,Option.some.injEq] at hs
    intro r hr
    rw [← hs]
    exact (hi.obj _ o hg hc.1).rows r (List.mem_of_mem_drop (List.mem_of_mem_take hr))
   ·cases he
  ·cases he
 ·cases he
theorem zc5 {E R : List (List V)} {off k i j : Nat} {u : V} (hk : k ≤ R.length) (hf : off + k ≤ E.length) (h : zah (E.take off ++ (R.take k ++ E.drop (off + k))) i j = some u) :
 (off ≤ i ∧ i < off + k ∧ zah R (i - off) j = some u) ∨ (¬ (off ≤ i ∧ i < off + k) ∧ zah E i j = some u):=by
 have l1 : (E.take off).length = off:=by rw [List.length_take]; omega
 have l2 : (R.take k).length = k:=by rw [List.length_take]; omega
 rcases za4 h with ⟨h1,h2⟩ | ⟨h1,h2⟩
 ·rw [l1] at h1
  refine .inr ⟨by omega,?_⟩
  have:=zaO (es:=E) (l:=0) (n:=off) (by simpa using h2)
  simpa using this
 ·rw [l1] at h1 h2
  rcases za4 h2 with ⟨h3,h4⟩ | ⟨h3,h4⟩
  ·rw [l2] at h3
   refine .inl ⟨h1,by omega,?_⟩
   have:=zaO (es:=R) (l:=0) (n:=k) (by simpa using h4)
   simpa using this
  ·rw [l2] at h3 h4
   refine .inr ⟨by omega,?_⟩
   obtain ⟨r,r1,r2⟩:=zan h4
   rw [List.getElem?_drop] at r1
   rw [show off + k + (i - off - k) = i by omega] at r1
   exact zay r1 r2
theorem zxD (hT : zaJ P T) {w0 w : World} {ex I γ g} (hi : Inv w0 ex I γ g w) {y : V} {vy : Value} {es : List (List V)} {rd : List Nat} (hy : Rd w I γ y vy) (he : zco g y = some (es,rd)) {tx e' : TypeId} (hd : zao T tx = some (.slice e')) {size : Nat} (hsz : ∀ r ∈ es,r.length = size)
 {k : Nat} (hk : k ≤ es.length) : ∃ A n c,vy = .slice A n c ∧ es.length = n ∧ Src P w I γ size tx (.slice A k c) (es.take k) (zcp g y):=by
 have hfull:=zlw (P:=P) hT hi hy he hd hsz
 obtain ⟨ti,t1,t2⟩:=zbb hd
 have hu : P.underlying tx = some (.slice e'):=by rw [← t2]; exact (hT tx ti t1).under
 have hl : (es.take k).length = k:=by rw [List.length_take]; omega
 have cut : ∀ {i j u},zah (es.take k) i j = some u → zah es i j = some u:=by
  intro i j u h
  have:=zaO (es:=es) (l:=0) (n:=k) (by simpa using h)
  simpa using this
 have mk : ∀ A c,(∀ i j u,zah es i j = some u → ∃ a y,A = some a ∧ w.cell? (a.add (i * size + j)) = some y ∧ Rd w I γ u y) → Src P w I γ size tx (.slice A k c) (es.take k) (zcp g y):=fun A c hc =>
  .ofSlice hu A k c hl (fun r hr=>hsz r (List.mem_of_mem_take hr)) (fun i j u h=>hfull.cel i j u (cut h)) (fun hf i j u h=>hfull.closed hf i j u (cut h)) (fun hf i j u h=>hfull.scalar hf i j u (cut h)) (fun i j u h=>hc i j u (cut h))
 unfold zco at he
 split at he
 ·cases he
  cases hy with
  | nil=>exact ⟨_,_,_,rfl,rfl,mk _ _ (by simp [zah])⟩
  | sl _ _ _ _ a n c xs h0 h1' hlen hnc hcm hes hcel hcell hr =>
   refine ⟨_,_,_,rfl,hlen,mk _ _ (fun i j u hu=>⟨a,xs i j,rfl,?_,(hr i j u hu).closed ((hr i j u hu).closed_of_noG rfl) γ⟩)⟩
   obtain ⟨r,hr1,_⟩:=zan hu
   have : size = _:=(hsz r (List.mem_of_getElem? hr1)).symm.trans (hes r (List.mem_of_getElem? hr1))
   rw [this]; exact (hcell i j u hu).2
 ·rename_i nm off n
  split at he
  ·rename_i o hg
   split at he
   ·rename_i hcond
    obtain ⟨hmd,hle⟩:=hcond
    cases he
    have hob:=hi.obj nm o hg hmd
    have hlen : ((o.elems.drop off).take n).length = n:=by rw [List.length_take,List.length_drop]; omega
    cases hy with
    | ownnil=>exact ⟨_,_,_,rfl,by simp,mk _ _ (fun i j u hu=>by simp [zah] at hu)⟩
    | own _ _ _ _ c oo gi hγ hnn hcap hnc hcm ho =>
     obtain ⟨cur,fr,ha⟩:=hi.at_own hg hmd hγ hnn
     refine ⟨_,_,_,rfl,hlen,mk _ _ (fun i j u hu=>?_)⟩
     obtain ⟨q1,q2⟩:=zcK hsz hu
     rw [hlen] at q1
     obtain ⟨r,hr1,_⟩:=zan hu
     have hrm:=List.mem_of_getElem? hr1
     have e1 : size = o.es:=(hsz r hrm).symm.trans (hob.rows r (List.mem_of_mem_drop (List.mem_of_mem_take hrm)))
     obtain ⟨y,y1,y2⟩:=ha.cells _ _ _ (zaO hu)
     refine ⟨_,y,rfl,?_,y2⟩
     rw [zcx,cell_of_row w gi.blk _ cur o.et fr ha.heap,ho (by omega),ha.es,e1,← Nat.add_assoc,← Nat.add_mul]
     exact y1
   ·cases he
  ·cases he
 ·cases he
theorem zow (hT : zaJ P T) {w0 w : World} {ex I γ g} (hi : Inv w0 ex I γ g w) {tys : Array TypeId} {ty : TypeId} {x y : V} {vx vy : Value} {e : Eff} (hx : Rd w I γ x vx) (hy : Rd w I γ y vy) (h : aCopy T g tys.toList x y = some e) :
 ∃ r w' γ',(Builtin.copy_ tys ty #[vx,vy]).run P w = .ok r w' ∧ Rd w' I γ' e.v r ∧ Inv w0 ex I γ' (zas g e.wr) w' ∧ Ext I γ w I γ' w':=by
 unfold aCopy at h
 split at h
 ·rename_i t tx htys
  split at h
  ·rename_i el e' m off n es rd hd hd2 he
   split at h
   ·rename_i ei o hei hg
    split at h
    ·rename_i hc
     obtain ⟨c1,c2,c3,c4,c5,cnt1,cnt2⟩:=hc
     cases h
     have htt : tys = #[t,tx]:=by rw [← Array.toList_inj] ; exact htys
     subst htt
     have hmd : o.md ≠ .dead:=by rw [c1]; decide
     have hob:=hi.obj m o hg hmd
     have hsz:=zom hi hy he c5
     obtain ⟨k,hkd⟩ : ∃ k,k = min n es.length:=⟨_,rfl⟩
     have hk1 : k ≤ es.length:=by omega
     have hk2 : k ≤ n:=by omega
     rw [← hkd]
     obtain ⟨A,sn,sc,rfl,hsn,hsrc⟩:=zxD (P:=P) hT hi hy he hd2 hsz hk1
     have hl : (es.take k).length = k:=by rw [List.length_take]; omega
     obtain ⟨arr,r1,r2,r3⟩:=hsrc.cells
     rw [hl] at r1 r2
     have hform : ∃ gi c oo,γ m = some gi ∧ gi.nil = false ∧ vx = .slice (some ⟨gi.blk,oo,none⟩) n c ∧ off + c = gi.cap ∧ n ≤ c ∧ (c ≠ 0 → oo = off * gi.es):=by
      cases hx with
      | ownnil _ _ A' gi hγ hnn =>
       rcases hob.at_ with ⟨h1,_⟩ | ⟨gi',cur,fr,h1,ha⟩
       ·rw [h1] at c4; simp at c4
       ·rw [hγ] at h1; cases h1; rw [ha.nn] at hnn; cases hnn
      | own _ _ _ _ c oo gi hγ hnn hcap hnc hcm ho=>exact ⟨gi,c,oo,hγ,hnn,rfl,hcap,hnc,ho⟩
     obtain ⟨gi,c,oo,hγ,hnn,rfl,hcap,hnc,ho⟩:=hform
     obtain ⟨cur,fr,ha⟩:=hi.at_own hg hmd hγ hnn
     have hone : ∀ v ∈ arr.toList,v.oneCell' = true:=by
      intro v hv
      obtain ⟨q,hq,hqv⟩:=List.mem_iff_getElem.1 hv
      have hq' : q < (es.take k).length * ei.size:=by rw [hl,← r1]; simpa using hq
      obtain ⟨u,u1,u2⟩:=zee (fun r hr=>hsz r (List.mem_of_mem_take hr)) hq'
      obtain ⟨y,y1,y2⟩:=r3 _ _ u u1
      rw [u2] at y1
      have : y = v:=by
       rw [← Array.getElem?_toList,List.getElem?_eq_getElem hq] at y1
       simp only [Option.some.injEq] at y1
       rw [← y1]; exact hqv
      rw [← this]
      exact y2.oneCell' (hsrc.cel _ _ u u1)
     have hoo : k = 0 ∨ oo = off * ei.size:=by
      rcases Nat.eq_zero_or_pos k with h | h
      ·exact .inl h
      ·refine .inr ?_
       rw [ho (by omega),ha.es,c2]
     have hstore : ∃ w' cur',(storeCells ⟨gi.blk,oo,none⟩ arr.toList).run P w = .ok () w' ∧ (∀ b,w'.heap[b]? = if b = gi.blk then some (.cells cur' o.et fr) else w.heap[b]?) ∧ w'.heap.size = w.heap.size ∧ (w'.os = w.os ∧ w'.tape = w.tape ∧ w'.output = w.output) ∧
      cur'.size = cur.size ∧ (∀ q,cur'[q]? = if off * ei.size ≤ q ∧ q < off * ei.size + arr.size then arr[q - off * ei.size]? else cur[q]?):=by
      rcases Nat.eq_zero_or_pos k with h | h
      ·have h0 : arr = #[]:=Array.eq_empty_of_size_eq_zero (by rw [r1,h]; simp)
       subst h0
       refine ⟨w,cur,rfl,fun b=>?_,rfl,⟨rfl,rfl,rfl⟩,rfl,fun q=>?_⟩
       ·by_cases e : b = gi.blk
        ·rw [if_pos e,e]; exact ha.heap
        ·rw [if_neg e]
       ·rw [if_neg]; simp
      ·have hoo' : oo = off * ei.size:=by omega
       subst hoo'
       have hfit : off * ei.size + 0 + arr.toList.length ≤ cur.size:=by
        rw [ha.size,ha.es,Array.length_toList,r1,c2,Nat.add_zero,← Nat.add_mul]
        exact Nat.mul_le_mul_right _ (by omega)
       obtain ⟨w',cur',k1,k2,k3,k4,k5,k6⟩:=zcb (P:=P) gi.blk (off * ei.size) o.et fr arr.toList 0 cur w ha.heap ha.frz hfit hone
       refine ⟨w',cur',k1,k2,k3,k4,k5,fun q=>?_⟩
       rw [k6]; simp
     obtain ⟨w',cur',k1,k2,k3,k4,k5,k6⟩:=hstore
     have hle : off + k ≤ o.elems.length:=by omega
     have hlen' : (o.elems.take off ++ (es.take k ++ o.elems.drop (off + k))).length = o.elems.length:=by simp; omega
     have hw:=hi.write (o':={ o with elems:=o.elems.take off ++ (es.take k ++ o.elems.drop (off + k)),fl:=min o.fl (zcp g y) }) hg c1 hγ ha rfl rfl c1 k5 k2 k3 k4
      (by simp only [hlen']; exact ha.le) (fun ht=>by simp only [hlen']; exact ha.tight ht) (fun r hr=>?_) (fun i j u hu=>?_) (fun hf i j u hu=>?_) (fun hf i j u hu=>?_) (fun i j u hu=>?_) (fun i j u hu hut=>?_)
     ·refine ⟨goInt k,w',γ,?_,.int _ _ _,by rw [zcG]; exact hw.1,hw.2⟩
      have hmin : Nat.min sn n = k:=by rw [hkd,hsn]; exact Nat.min_comm _ _
      unfold Builtin.copy_
      simp only [List.getElem?_toArray,List.getElem?_cons_zero,List.getElem?_cons_succ,Sem.run_bind,zaH hT hd,Result.andThen_ok,Builtin.lenOf,Sem.run_pure,hmin,(hT el ei hei).run_size w]
      have hfc : (Builtin.firstCells ei.size k (.slice A sn sc)).run P w = .ok arr w:=by
       have:=r2 w rfl
       cases A <;> exact this
      rw [hfc]
      simp only [Result.andThen_ok,k1]
     ·rcases List.mem_append.1 hr with hr | hr
      ·exact hob.rows r (List.mem_of_mem_take hr)
      ·rcases List.mem_append.1 hr with hr | hr
       ·show r.length = o.es
        rw [c2]; exact hsz r (List.mem_of_mem_take hr)
       ·exact hob.rows r (List.mem_of_mem_drop hr)
     ·rcases zc5 hk1 hle hu with ⟨q1,q2,q3⟩ | ⟨_,q3⟩
      ·have:=zlw (P:=P) hT hi hy he hd2 hsz
       exact this.cel _ _ u q3
      ·exact hob.cel _ _ u q3
     ·have hf1 : o.fl ≠ 0:=by intro e; apply hf; show min o.fl _ = 0; rw [e]; exact Nat.zero_min _
      have hf2 : zcp g y ≠ 0:=by intro e; apply hf; show min o.fl _ = 0; rw [e]; exact Nat.min_zero _
      rcases zc5 hk1 hle hu with ⟨q1,q2,q3⟩ | ⟨_,q3⟩
      ·have:=zlw (P:=P) hT hi hy he hd2 hsz
       exact this.closed hf2 _ _ u q3
      ·exact hob.closed hf1 _ _ u q3
     ·have hf' : 2 ≤ min o.fl (zcp g y):=hf
      rcases zc5 hk1 hle hu with ⟨q1,q2,q3⟩ | ⟨_,q3⟩
      ·have:=zlw (P:=P) hT hi hy he hd2 hsz
       exact this.scalar (by omega) _ _ u q3
      ·exact hob.scalar (by omega) _ _ u q3
     ·rw [k6,r1]
      rcases zc5 hk1 hle hu with ⟨q1,q2,q3⟩ | ⟨q1,q3⟩
      ·have hj:=(zcK hsz q3).2
       have hin : off * ei.size ≤ i * o.es + j ∧ i * o.es + j < off * ei.size + k * ei.size:=by
        rw [c2]
        have a1:=Nat.mul_le_mul_right ei.size q1
        have a2:=Nat.mul_le_mul_right ei.size (show i + 1 ≤ off + k by omega)
        rw [Nat.add_mul,Nat.add_mul] at a2
        omega
       rw [if_pos hin]
       have hcut : zah (es.take k) (i - off) j = some u:=by
        obtain ⟨r,p1,p2⟩:=zan q3
        exact zay (by rw [List.getElem?_take,if_pos (by omega)]; exact p1) p2
       obtain ⟨z,z1,z2⟩:=r3 _ _ u hcut
       refine ⟨z,?_,z2⟩
       rw [← z1]
       congr 1
       rw [c2,Nat.sub_mul]
       have a1:=Nat.mul_le_mul_right ei.size q1
       omega
      ·have hj:=(zcK hob.rows q3).2
       have hout : ¬ (off * ei.size ≤ i * o.es + j ∧ i * o.es + j < off * ei.size + k * ei.size):=by
        rintro ⟨b1,b2⟩
        rw [c2] at b1 b2 hj
        rcases Nat.lt_or_ge i off with hlt | hge
        ·have a2:=Nat.mul_le_mul_right ei.size (show i + 1 ≤ off by omega)
         rw [Nat.add_mul] at a2; omega
        ·have a2:=Nat.mul_le_mul_right ei.size (show off + k ≤ i by omega)
         rw [Nat.add_mul] at a2; omega
       rw [if_neg hout]
       exact ha.cells _ _ u q3
     ·rcases zc5 hk1 hle hu with ⟨_,_,q3⟩ | ⟨_,q3⟩
      ·have:=zlw (P:=P) hT hi hy he hd2 hsz
       rw [zeY cnt2 this.closed _ _ u q3] at hut; cases hut
      ·rw [zeY cnt1 hob.closed _ _ u q3] at hut; cases hut
    ·cases h
   ·cases h
  ·cases h
 ·cases h
theorem zku (hT : zaJ P T) {w0 w : World} {ex I γ g} (hi : Inv w0 ex I γ g w) {nm : Nat} {b : Builtin} {tys : Array TypeId} {ty : TypeId} {args : List V} {vs : List Value} {e : Eff} (hl : args.length = vs.length)
 (hr : ∀ (j : Nat) (u : V) (x : Value),args[j]? = some u → vs[j]? = some x → Rd w I γ u x) (h : ze8 T g nm b tys.toList args = some e) (cs : Array Bool) :
 ∃ s : Sem Value,builtin b tys ty cs vs.toArray = (do pure (.value (← s))) ∧ Gives w0 ex I γ g w e (s.run P w):=by
 unfold ze8 at h
 split at h
 ·-- len
  rename_i x
  match vs,hl with
  | [vx],_ =>
   have hx:=hr 0 _ vx rfl rfl
   refine ⟨_,rfl,?_⟩
   obtain ⟨tl⟩:=tys
   cases tl with
   | nil=>simp at h
   | cons t tl =>
    simp only at h
    have key : ∀ d,zao T t = some d → ∀ n : Nat,(match d,vx with | .string,.string s=>s.size = n | .slice _,.slice _ m _=>m = n | _,_=>False) → (Builtin.len_ (⟨t :: tl⟩ : Array TypeId) ty #[vx]).run P w = .ok (.int .i64 n) w:=by
     intro d hd n hn
     unfold Builtin.len_
     simp only [List.getElem?_toArray,List.getElem?_cons_zero,Sem.run_bind,zaH hT hd,Result.andThen_ok]
     cases d <;> cases vx <;> simp only at hn <;> first | exact hn.elim | (subst hn; rfl)
    split at h
    ·rename_i hd _; cases h; cases hx
     exact .pure hi ⟨_,key _ hd _ rfl,.int _ _ _⟩
    ·rename_i hd _; cases h
     refine .pure hi ⟨_,key _ hd _ ?_,.int _ _ _⟩
     cases hx with
     | nil=>rfl
     | sl _ _ _ _ a n c xs h0 h1 hlen=>exact hlen.symm
    ·rename_i hd _; cases h
     refine .pure hi ⟨_,key _ hd _ ?_,.int _ _ _⟩
     cases hx <;> rfl
    ·cases h
 ·-- cap
  rename_i tg sz es
  match vs,hl with
  | [vx],_ =>
   have hx:=hr 0 _ vx rfl rfl
   refine ⟨_,rfl,?_⟩
   obtain ⟨tl⟩:=tys
   cases tl with
   | nil=>simp at h
   | cons t tl =>
    simp only at h
    split at h
    ·rename_i el hd
     have key : ∀ (a : Option Addr) (n m : Nat),vx = .slice a n m → (Builtin.cap_ (⟨t :: tl⟩ : Array TypeId) ty #[vx]).run P w = .ok (.int .i64 m) w:=by
      rintro a n m rfl
      unfold Builtin.cap_
      simp only [List.getElem?_toArray,List.getElem?_cons_zero,Sem.run_bind,zaH hT hd,Result.andThen_ok]
      rfl
     split at h
     ·split at h
      ·rename_i h0 he
       cases h
       subst h0
       cases hx with
       | nil=>exact .pure hi ⟨_,key _ _ _ rfl,.int _ _ _⟩
       | sl _ _ _ _ a n c xs h0=>exact absurd rfl h0
      ·cases h
     ·split at h
      ·rename_i h0 h1
       cases h
       refine .pure hi ⟨.int .i64 es.length,?_,.int _ _ _⟩
       cases hx with
       | nil=>exact key _ _ _ rfl
       | sl _ _ _ _ a n c xs h0 h1' hlen =>
        have e : (es.length : Int) = (c : Int):=by rw [hlen,h1' h1]
        rw [e]; exact key _ _ _ rfl
      ·cases h
    ·cases h
 ·-- append
  rename_i x y
  match vs,hl with
  | [vx,vy],_ =>
   have hx:=hr 0 _ vx rfl rfl
   have hy:=hr 1 _ vy rfl rfl
   refine ⟨_,rfl,?_⟩
   obtain ⟨tl⟩:=tys
   simp only at h
   split at h
   ·rename_i el tt tx hd
    simp only at hd
    split at h
    ·rename_i s hd2 _
     split at h
     ·rename_i hb
      obtain ⟨hb1,ei,hb2,hb3⟩:=zga hT hb
      obtain ⟨t2,s3,s4⟩:=zbb hd2
      have hu2 : P.underlying tx = some .string:=by rw [← s4]; exact (hT tx t2 s3).under
      cases hy
      refine .of (zgn hT hi hd hx (fun ei' h'=>?_) h)
      have hsz : ei'.size = 1:=by rw [hb2] at h'; cases h'; exact hb3
      rw [hsz]; exact .ofString hu2 s
     ·cases h
    ·rename_i e' hd2 _
     split at h
     ·rename_i es rd he
      split at h
      ·rename_i hsz
       refine .of (zgn hT hi hd hx (fun ei' h'=>zlw hT hi hy he hd2 ?_) h)
       intro r hrm
       rcases hsz with hsz | hsz
       ·have hs' : sizeT T el = some ei'.size:=by simp [sizeT,h']
        rw [hs'] at hsz
        exact zom hi hy he hsz r hrm
       ·have : es = []:=by simpa using hsz
        rw [this] at hrm; cases hrm
      ·cases h
     ·cases h
    ·rename_i n hd2 _
     split at h
     ·rename_i sz
      cases hy
      have hx' : vx = .slice none 0 0:=by
       cases hx with
       | nil=>rfl
       | sl _ _ _ _ a n c xs h0=>exact absurd rfl h0
      subst hx'
      obtain ⟨t1,q1,q2⟩:=zbb hd
      obtain ⟨t2,s3,s4⟩:=zbb hd2
      refine .of (zm4 hT hi (by rw [← q2]; exact (hT _ t1 q1).under) (by rw [← s4]; exact (hT _ t2 s3).under) h)
     ·cases h
    ·cases h
   ·cases h
 ·obtain ⟨v,h1,rfl⟩:=zbB h
  exact ⟨_,rfl,.pure hi (by simpa using zkO (P:=P) (b:=false) hl hr h1 tys ty)⟩
 ·obtain ⟨v,h1,rfl⟩:=zbB h
  exact ⟨_,rfl,.pure hi (by simpa using zkO (P:=P) (b:=true) hl hr h1 tys ty)⟩
 ·rename_i x y
  match vs,hl with
  | [vx,vy],_=>exact ⟨_,rfl,.of (zow hT hi (hr 0 _ vx rfl rfl) (hr 1 _ vy rfl rfl) h)⟩
 ·cases h
def zqW : Op → Bool
 | .call ⟨.value _,_,_⟩=>true
 | _=>false
theorem zq7 {w : World} {I γ} {ρ : Operand → V} {a : Act} (hs : ∀ x,Rd w I γ (ρ x) (a.eval x)) (ps : Array (Nat × Operand)) :
 (ps.map fun (i,x)=>(i,a.eval x)).toList.length = (ps.toList.map fun (i,x)=>(i,ρ x)).length ∧
 ∀ (k : Nat) (i i' : Nat) (v : V) (x : Value),(ps.toList.map fun (i,x)=>(i,ρ x))[k]? = some (i,v) → (ps.map fun (i,x)=>(i,a.eval x)).toList[k]? = some (i',x) → i = i' ∧ Rd w I γ v x:=by
 refine ⟨by simp,fun k i i' v x h1 h2=>?_⟩
 rw [List.getElem?_map] at h1
 rw [Array.toList_map,List.getElem?_map] at h2
 cases hk : ps.toList[k]? with
 | none=>rw [hk] at h1; cases h1
 | some p =>
  rw [hk] at h1 h2
  cases h1; cases h2
  exact ⟨rfl,hs _⟩
theorem zll {w : World} {I γ} {ρ : Operand → V} {a : Act} (hs : ∀ x,Rd w I γ (ρ x) (a.eval x)) (o : Option Operand) : (∀ v,o.map ρ = some v → ∃ x,o.map a.eval = some x ∧ Rd w I γ v x) ∧ (o.map ρ = none → o.map a.eval = none):=by
 cases o with
 | none=>exact ⟨(fun v h=>by cases h),(fun _=>rfl)⟩
 | some x=>exact ⟨(fun v h=>by cases h; exact ⟨_,rfl,hs x⟩),(fun h=>by cases h)⟩
theorem zec {o : Oper} {a : Act} {w : World} {K : Act → World → Prop} {Q : Exit → Act → World → Prop} {s : Sem Value} (he : execOp a.eval o = (do pure (.value (← s)))) {x : Value} {w' : World} (hs : s.run P w = .ok x w') (hk : K (a.put o.dst x) w') : o.wp P a w K Q:=by
 unfold Oper.wp
 rw [he,Sem.run_bind,hs]
 exact hk
theorem zAq (hT : zaJ P T) {w0 w : World} {ex I γ g} (hi : Inv w0 ex I γ g w) {ρ : Operand → V} {a : Act} (hs : ∀ x,Rd w I γ (ρ x) (a.eval x)) {nm : Nat} {o : Oper} {e : Eff} (hnc : zqW o.op = false) (h : aop T C ρ g nm o.op = some e)
 {K : Act → World → Prop} {Q : Exit → Act → World → Prop} (hK : ∀ x w' I' γ',Rd w' I' γ' e.v x → Inv w0 ex I' γ' (zas g e.wr) w' → Ext I γ w I' γ' w' → K (a.put o.dst x) w') : o.wp P a w K Q:=by
 have fin : ∀ s : Sem Value,execOp a.eval o = (do pure (.value (← s))) → Gives w0 ex I γ g w e (s.run P w) → o.wp P a w K Q:=by
  intro s he hg
  obtain ⟨x,w',I',γ',h1,h2,h3,h4⟩:=hg
  exact zec he h1 (hK x w' I' γ' h2 h3 h4)
 obtain ⟨dst,op,type,pos,after,guard⟩:=o
 simp only at h hnc hK fin
 unfold aop at h
 split at h
 case h_1 x=>cases h; exact fin (pure (a.eval x)) rfl (.pure hi ⟨_,rfl,hs x⟩)
 case h_2 x=>cases h; exact fin (pure (a.eval x)) rfl (.pure hi ⟨_,rfl,hs x⟩)
 case h_3 c x y =>
  have hc:=hs c
  split at h
  ·rename_i hv
   rw [hv] at hc
   cases h
   refine zec (s:=pure (a.eval x)) ?_ rfl (hK _ w I γ (hs x) hi (Ext.refl _ _ _))
   simp only [execOp]
   generalize a.eval c = vc at hc
   cases hc
   rfl
  ·rename_i hv
   rw [hv] at hc
   cases h
   refine zec (s:=pure (a.eval y)) ?_ rfl (hK _ w I γ (hs y) hi (Ext.refl _ _ _))
   simp only [execOp]
   generalize a.eval c = vc at hc
   cases hc
   rfl
  ·cases h
 case h_4 t =>
  split at h
  ·rename_i ei hei
   split at h
   ·rename_i hc
    obtain ⟨hn,hv,hwr⟩:=zcC h
    obtain ⟨z,z1,z2,z3⟩:=(hT t ei hei).run_zero w
    refine fin (Instr.alloc t true (.tuple #[])) rfl (.of ?_)
    have hzl : ei.zero.length = z.cells.size:=by rw [← z3]; simp
    have:=zhY (P:=P) hi hn t z ei.zero hzl hc (fun j u y hu hy=>zdr z3 hu hy)
    obtain ⟨ad,w',γ',h1,h2,h3,h4⟩:=this
    refine ⟨.pointer (some ad),w',γ',?_,by rw [hv]; exact h2,?_,h4⟩
    ·simp only [Instr.alloc,Sem.run_bind,z1,Result.andThen_ok,h1,Sem.run_pure]
    ·rw [hwr,zcG]; rw [hzl,z2] at h3; exact h3
   ·cases h
  ·cases h
 case h_5 t x =>
  split at h
  ·rename_i hc
   obtain ⟨hn,hv,hwr⟩:=zcC h
   have hnj : ρ x ≠ .junk:=fun e=>by rw [e] at hc; simp [V.cells,zaV,V.plainC] at hc
   obtain ⟨q1,q2⟩:=(hs x).cells hnj
   obtain ⟨ad,w',γ',h1,h2,h3,h4⟩:=zhY (P:=P) hi hn t (a.eval x) (ρ x).cells q1 hc q2
   refine fin (Instr.box t (a.eval x)) rfl (.of ⟨.pointer (some ad),w',γ',?_,by rw [hv]; exact h2,by rw [hwr,zcG]; exact h3,h4⟩)
   simp only [Instr.box,Sem.run_bind,h1,Result.andThen_ok,Sem.run_pure]
  ·cases h
 case h_6 t ps =>
  obtain ⟨v,h1,rfl⟩:=zbB h
  obtain ⟨p1,p2⟩:=zq7 hs ps
  exact fin (Instr.build t (ps.map fun (i,x)=>(i,a.eval x))) rfl (.pure hi (zmR hT p1 p2 h1))
 case h_7 t len ps =>
  obtain ⟨p1,p2⟩:=zq7 hs ps
  have hk:=zhd (P:=P) hT hi p1 p2 h
  exact fin _ rfl (.of hk)
 case h_8 t x =>
  obtain ⟨r,γ',h1,h2,h3,h4⟩:=zmY hT hi (hs x) h
  exact fin (Instr.loadAt t (a.eval x)) rfl ⟨r,w,I,γ',h1,h2,h3,h4⟩
 case h_9 t x y =>
  obtain ⟨h1,w',h2,h3,h4⟩:=zm2 hT hi (hs x) (hs y) h
  unfold Oper.wp
  simp only [execOp,Sem.run_bind,h2,Result.andThen_ok,Sem.run_pure,Oper.upon]
  exact hK _ w' I γ (by rw [h1]; exact .junk _ _) h3 h4
 case h_10 x =>
  have hx:=hs x
  split at h
  ·rename_i hv
   rw [hv] at hx
   cases h
   refine zec (s:=pure (a.eval x)) ?_ rfl (hK _ w I γ hx hi (Ext.refl _ _ _))
   simp only [execOp]
   generalize a.eval x = vx at hx
   cases hx
   rfl
  ·rename_i hv
   rw [hv] at hx
   cases h
   refine zec (s:=pure (a.eval x)) ?_ rfl (hK _ w I γ hx hi (Ext.refl _ _ _))
   simp only [execOp]
   generalize a.eval x = vx at hx
   cases hx
   rfl
  ·cases h
 case h_11 bop xt x y _ =>
  obtain ⟨v,h1,rfl⟩:=zbB h
  refine fin (do eqGuard bop xt x y (a.eval x) (a.eval y); binOp bop xt (a.eval x) (a.eval y)) (by simp only [execOp]) (.pure hi (zro hT x y (hs x) (hs y) h1))
 case h_12 uop _ x =>
  obtain ⟨v,h1,rfl⟩:=zbB h
  exact fin (Op.unary uop (a.eval x)) rfl (.pure hi (ztG (hs x) h1))
 case h_13 src dst' x=>exact fin (convert src dst' (a.eval x)) rfl (.of (zov hT hi (hs x) h))
 case h_14 t l c=>exact fin (Instr.makeSlice t (a.eval l) (a.eval c)) rfl (.of (zox hT hi (hs l) (hs c) h))
 case h_15 t x lo hi' mx =>
  obtain ⟨v,h1,rfl⟩:=Option.map_eq_some_iff.1 h
  exact fin (Instr.sliceAt t (a.eval x) (lo.map a.eval) (hi'.map a.eval) (mx.map a.eval)) rfl
   (.pure hi (zm1 hT hi (hs x) (zll hs lo).1 (zll hs lo).2 (zll hs hi').1 (zll hs hi').2 (zll hs mx).1 (zll hs mx).2 h1))
 case h_16 s x f =>
  obtain ⟨v,h1,rfl⟩:=zbB h
  exact fin (Instr.fieldAt s (a.eval x) f) rfl (.pure hi (zic hT (hs x) h1))
 case h_17 s x f =>
  obtain ⟨v,h1,rfl⟩:=zbB h
  exact fin (Instr.field s (a.eval x) f) rfl (.pure hi (zmV hT (hs x) h1))
 case h_18 t x i =>
  obtain ⟨v,h1,rfl⟩:=Option.map_eq_some_iff.1 h
  exact fin (Instr.indexAt t (a.eval x) (a.eval i)) rfl (.pure hi (zid hT hi (hs x) (hs i) h1))
 case h_19 t x i =>
  obtain ⟨v,h1,rfl⟩:=zbB h
  exact fin (Instr.index t (a.eval x) (a.eval i)) rfl (.pure hi (zmX hT (hs x) (hs i) h1))
 case h_20 x i =>
  have hx:=hs x
  split at h
  ·rename_i hv
   rw [hv] at hx
   obtain ⟨v,h1,rfl⟩:=zbB h
   refine fin (Instr.extract (a.eval x) i) rfl (.pure hi ?_)
   generalize a.eval x = vx at hx
   cases hx with
   | tup _ cs xs hl hr =>
    have hlt : i < xs.size:=by rw [← hl]; exact (List.getElem?_eq_some_iff.1 h1).1
    exact ⟨xs[i],by simp [Instr.extract,Array.getElem?_eq_getElem hlt],hr i v _ h1 (Array.getElem?_eq_getElem hlt)⟩
  ·cases h
 case h_21 b args tys =>
  have hl : (args.toList.map ρ).length = (args.toList.map a.eval).length:=by simp
  have hr : ∀ (j : Nat) (u : V) (x : Value),(args.toList.map ρ)[j]? = some u → (args.toList.map a.eval)[j]? = some x → Rd w I γ u x:=by
   intro j u x h1 h2
   rw [List.getElem?_map] at h1 h2
   cases hk : args.toList[j]? with
   | none=>rw [hk] at h1; cases h1
   | some p=>rw [hk] at h1 h2; cases h1; cases h2; exact hs p
  obtain ⟨s,s1,s2⟩:=zku hT hi (ty:=type) hl hr h (args.map fun | .const _=>true | _=>false)
  refine fin s ?_ s2
  rw [← s1]
  show (do let d ← resolve a.eval ⟨.builtin b,args,tys⟩ type; invoke d.target d.args) = _
  simp only [resolve]
  have : (args.toList.map a.eval).toArray = args.map a.eval:=by rw [← Array.toList_map]
  rw [this]; rfl
 case h_22=>simp [zqW] at hnc
 case h_23 f first caps =>
  split at h
  ·rename_i hc
   cases h
   refine fin (Instr.makeFunc (.func f) (first.map a.eval) (caps.map a.eval)) rfl (.pure hi ⟨_,rfl,?_⟩)
   have hf : first.map a.eval = #[]:=by
    have : first = #[]:=by
     have:=hc.1
     simpa using this
    rw [this]; simp
   rw [hf]
   refine .clo _ _ _ _ (by simp) fun j u x hu hx=>?_
   have hcl:=V.closedAll_get hc.2 j u hu
   rw [List.getElem?_map] at hu
   rw [Array.getElem?_map] at hx
   cases hk : caps[j]? with
   | none=>rw [Array.getElem?_toList,hk] at hu; cases hu
   | some p =>
    rw [Array.getElem?_toList,hk] at hu; rw [hk] at hx; cases hu; cases hx
    exact (hs p).closed hcl noG
  ·unfold aMeth at h
   split at h
   ·rename_i n hfi hca
    cases h
    have hc : caps = #[]:=by simpa using hca
    obtain ⟨x,hx⟩ : ∃ x,first = #[x] ∧ ρ x = .ptr n 0 0:=by
     rcases first with ⟨l⟩
     cases l with
     | nil=>simp at hfi
     | cons x l=>cases l with
      | nil=>exact ⟨x,rfl,by simpa using hfi⟩
      | cons y l=>simp at hfi
    obtain ⟨rfl,hx⟩:=hx
    refine fin (Instr.makeFunc (.func f) ((#[x] : Array Operand).map a.eval) (caps.map a.eval)) rfl (.pure hi ⟨_,rfl,?_⟩)
    subst hc
    have:=hs x
    rw [hx] at this
    generalize hy : a.eval x = y at this
    simp only [List.map_toArray,List.map_cons,List.map_nil,hy]
    cases this with
    | ptr _ _ _ _ gi hγ hnn=>exact .mth _ _ _ gi hγ hnn
   ·cases h
 case h_24=>cases h
end
def exOf (γ : Nat → Option GI) (k : Nat) : Nat → Prop:=fun b=>∃ n gi,n < k ∧ γ n = some gi ∧ gi.nil = false ∧ gi.blk = b
structure Entry (w : World) (I : Nat → Prop) (γ : Nat → Option GI) (wr : Nat → Prop) (args : List V) (objs : List AObj) (vs : Array Value) : Prop where
 len : args.length = vs.size
 rd : ∀ (j : Nat) (u : V) (x : Value),args[j]? = some u → vs[j]? = some x → Rd w I γ u x
 inv : Inv w ⟨wr,I,γ⟩ I γ (fun n=>objs[n]?) w
 alive : ∀ o ∈ objs,o.md = .rw
 wrI : ∀ b,wr b → ¬ I b
 glob : GlobAt w I
structure Leave (w : World) (I : Nat → Prop) (γ : Nat → Option GI) (wr : Nat → Prop) (r : CRes) (w' : World) (I' : Nat → Prop) (γ' : Nat → Option GI) (v : Value) : Prop where
 inv : Inv w ⟨wr,I,γ⟩ I' γ' (fun n=>r.objs[n]?) w'
 rd : Rd w' I' γ' r.v v
 ext : Ext I γ w I' γ' w'
structure Spec (P : Program) (f : FuncId) (sp : List V → List AObj → Option CRes) : Prop where
 body : ∃ fn, P.funcs[f]? = some fn ∧ (fn.name == "runtime.NumGoroutine") = false ∧ fn.body.isNone = false
 calls : ∀ args objs r,sp args objs = some r → ∀ (w : World) (I : Nat → Prop) (γ : Nat → Option GI) (wr : Nat → Prop) (vs : Array Value),Entry w I γ wr args objs vs →
  Calls P f vs w fun e w'=>∃ v I' γ',e = .returned v ∧ Leave w I γ wr r w' I' γ' v
def zai (P : Program) (C : FuncId → List V → List AObj → Option CRes) : Prop:=∀ f,(∃ args objs r,C f args objs = some r) → Spec P f (C f)
theorem zdp : ∀ {l : List Nat} {n k : Nat},posOf n l = some k → l[k]? = some n
 | [],n,k,h=>by cases h
 | m :: ms,n,k,h=>by
  simp only [posOf] at h
  split at h
  ·rename_i e; cases h; subst e; rfl
  ·split at h
   ·rename_i k' hk; cases h; simpa using zdp hk
   ·cases h
def Ic (I : Nat → Prop) (γ : Nat → Option GI) (bs : List Nat) : Nat → Prop:=fun b=>I b ∨ ∃ n gi,n ∈ bs ∧ γ n = some gi ∧ gi.nil = false ∧ gi.blk = b
theorem Rd.wider {w : World} {I I' : Nat → Prop} {γ : Nat → Option GI} {v : V} {x : Value} (h : Rd w I γ v x) (hI : ∀ b,I b → I' b) : Rd w I' γ v x:=h.mono (fun b hb=>⟨hI b hb,rfl⟩) (fun _ _ h=>h)
theorem zdR {F : V → Option (V × List Nat)} : ∀ {cs cs' : List V} {bs : List Nat},zbJ F cs = some (cs',bs) → cs'.length = cs.length ∧ ∀ (j : Nat) (u' : V),cs'[j]? = some u' → ∃ u b,cs[j]? = some u ∧ F u = some (u',b) ∧ ∀ n ∈ b,n ∈ bs
 | [],cs',bs,h=>by cases h; exact ⟨rfl,fun j u' h=>by simp at h⟩
 | c :: cs,cs',bs,h=>by
  simp only [zbJ] at h
  split at h
  ·rename_i v b vs bs' h1 h2
   cases h
   obtain ⟨q1,q2⟩:=zdR h2
   refine ⟨by simp [q1],fun j u' hu=>?_⟩
   cases j with
   | zero=>simp at hu; subst hu; exact ⟨c,b,rfl,h1,fun n hn=>List.mem_append_left _ hn⟩
   | succ j =>
    obtain ⟨u,b',k1,k2,k3⟩:=q2 j u' (by simpa using hu)
    exact ⟨u,b',by simpa using k1,k2,fun n hn=>List.mem_append_right _ (k3 n hn)⟩
  ·cases h
theorem zgz {F : V → Option (V × List Nat)} : ∀ {cs cs' : List (List V)} {bs : List Nat},zbH F cs = some (cs',bs) → cs'.length = cs.length ∧ ∀ (j : Nat) (u' : List V),cs'[j]? = some u' → ∃ u b,cs[j]? = some u ∧ zbJ F u = some (u',b) ∧ ∀ n ∈ b,n ∈ bs
 | [],cs',bs,h=>by cases h; exact ⟨rfl,fun j u' h=>by simp at h⟩
 | c :: cs,cs',bs,h=>by
  simp only [zbH] at h
  split at h
  ·rename_i v b vs bs' h1 h2
   cases h
   obtain ⟨q1,q2⟩:=zgz h2
   refine ⟨by simp [q1],fun j u' hu=>?_⟩
   cases j with
   | zero=>simp at hu; subst hu; exact ⟨c,b,rfl,h1,fun n hn=>List.mem_append_left _ hn⟩
   | succ j =>
    obtain ⟨u,b',k1,k2,k3⟩:=q2 j u' (by simpa using hu)
    exact ⟨u,b',by simpa using k1,k2,fun n hn=>List.mem_append_right _ (k3 n hn)⟩
  ·cases h
theorem zwV {w0 w : World} {ex I γ g} (hi : Inv w0 ex I γ g w) {refs BS : List Nat} : ∀ (k : Nat) {v v' : V} {x : Value} {bs : List Nat},Rd w I γ v x → deepV g refs k v = some (v',bs) → (∀ n ∈ bs,n ∈ BS) → Rd w (Ic I γ BS) noG v' x ∧ (v.cellular = true → v'.cellular = true):=by
 have hI : ∀ b,I b → Ic I γ BS b:=fun b h=>.inl h
 have base : ∀ {v v' : V} {x : Value} {bs : List Nat},Rd w I γ v x → (if v.closed then some (v,([] : List Nat)) else none) = some (v',bs) → Rd w (Ic I γ BS) noG v' x ∧ (v.cellular = true → v'.cellular = true):=by
  intro v v' x bs hx h
  split at h
  ·rename_i hc; cases h; exact ⟨(hx.closed hc noG).wider hI,fun h=>h⟩
  ·cases h
 intro k
 induction k with
 | zero =>
  intro v v' x bs hx h _
  refine base (bs:=bs) hx ?_
  rw [← h]; cases v <;> rfl
 | succ k ih =>
  intro v v' x bs hx h hb
  by_cases hown : ∃ nm off n,v = .own nm off n
  ·obtain ⟨nm,off,n,rfl⟩:=hown
   simp only [deepV] at h
   split at h
   ·cases h
   ·split at h
    ·rename_i o hg
     split at h
     ·rename_i hcond
      obtain ⟨c1,c3⟩:=hcond
      split at h
      ·rename_i rows bs' hrows
       cases h
       have hob:=hi.obj nm o hg c1
       have hlen : ((o.elems.drop off).take n).length = n:=by rw [List.length_take,List.length_drop]; omega
       have key : rows.length = n ∧ (∀ r ∈ rows,r.length = o.es) ∧ ∀ i j u',zah rows i j = some u' → ∃ u,zah ((o.elems.drop off).take n) i j = some u ∧ (u.cellular = true → u'.cellular = true) ∧ ∀ x,Rd w I γ u x → Rd w (Ic I γ BS) noG u' x:=by
        have hrl : ∀ r ∈ (o.elems.drop off).take n,r.length = o.es:=fun r hr=>hob.rows r (List.mem_of_mem_drop (List.mem_of_mem_take hr))
        split at hrows
        ·rename_i hfl
         cases hrows
         refine ⟨hlen,hrl,fun i j u hu=>⟨u,hu,fun h=>h,fun x hx=>(hx.closed (hob.closed hfl _ _ u (zaO hu)) noG).wider hI⟩⟩
        ·obtain ⟨q1,q2⟩:=zgz hrows
         refine ⟨q1.trans hlen,fun r hr=>?_,fun i j u' hu=>?_⟩
         ·obtain ⟨i,hi'⟩:=List.getElem?_of_mem hr
          obtain ⟨r0,b,k1,k2,_⟩:=q2 i r hi'
          rw [(zdR k2).1]
          exact hrl r0 (List.mem_of_getElem? k1)
         ·obtain ⟨r',r1,r2⟩:=zan hu
          obtain ⟨r0,b,k1,k2,k3⟩:=q2 i r' r1
          obtain ⟨u,b',m1,m2,m3⟩:=(zdR k2).2 j u' r2
          refine ⟨u,zay k1 m1,fun hc=>?_,fun x hx=>(ih hx m2 (fun z hz=>hb z (List.mem_cons_of_mem _ (k3 z (m3 z hz))))).1⟩
          have : ∃ x,Rd w I γ u x:=by
           rcases hob.at_ with ⟨he,_⟩ | ⟨gi,cur,fr,hγ,ha⟩
           ·have:=zaO (zay k1 m1); rw [he] at this; simp [zah] at this
           ·obtain ⟨y,_,y2⟩:=ha.cells _ _ _ (zaO (zay k1 m1)); exact ⟨y,y2⟩
          obtain ⟨x,hx⟩:=this
          exact (ih hx m2 (fun z hz=>hb z (List.mem_cons_of_mem _ (k3 z (m3 z hz))))).2 hc
       obtain ⟨hrlen,hrl,hcells⟩:=key
       refine ⟨?_,fun _=>rfl⟩
       cases hx with
       | ownnil _ _ A gi hγ hnn =>
        have : rows = []:=List.eq_nil_of_length_eq_zero hrlen
        subst this
        cases A with
        | none=>exact Rd.nil (w:=w) (I:=Ic I γ BS) noG 2 o.es (by decide)
        | some a=>exact .sl _ _ _ _ a 0 0 (fun _ _=>undef) (by decide) (fun _=>rfl) (by simp) (Nat.le_refl _) (by simp) (by simp) (by simp [zah]) (by simp [zah]) (by simp [zah])
       | own _ _ _ _ c oo gi hγ hnn hcap hnc hcm ho =>
        obtain ⟨cur,fr,ha⟩:=hi.at_own hg c1 hγ hnn
        refine .sl _ _ _ _ _ n c (fun i j=>cur[(off + i) * o.es + j]?.getD undef) (by decide) (fun h=>by rcases h with h | h <;> cases h) hrlen hnc hcm hrl (fun i j u' hu=>?_) (fun i j u' hu=>?_) (fun i j u' hu=>?_)
        ·obtain ⟨u,k1,k2,_⟩:=hcells i j u' hu
         exact k2 (hob.cel _ _ u (zaO k1))
        ·obtain ⟨u,k1,k2,_⟩:=hcells i j u' hu
         obtain ⟨y,y1,y2⟩:=ha.cells _ _ _ (zaO k1)
         have q1:=(zcK (size:=o.es) (fun r hr=>hob.rows r (List.mem_of_mem_drop (List.mem_of_mem_take hr))) k1).1
         rw [hlen] at q1
         refine ⟨.inr ⟨nm,gi,hb nm (by simp),hγ,hnn,rfl⟩,?_⟩
         rw [zcx,cell_of_row w gi.blk _ cur o.et fr ha.heap,ho (by omega),ha.es,← Nat.add_assoc,← Nat.add_mul,y1]; rfl
        ·obtain ⟨u,k1,_,k3⟩:=hcells i j u' hu
         obtain ⟨y,y1,y2⟩:=ha.cells _ _ _ (zaO k1)
         rw [y1]
         exact k3 _ y2
      ·cases h
     ·cases h
    ·cases h
  ·refine base (bs:=bs) hx ?_
   rw [← h]
   cases v <;> first | rfl | exact absurd ⟨_,_,_,rfl⟩ hown
theorem Rd.ofNone {w : World} {I : Nat → Prop} {v : V} {x : Value} (h : Rd w I noG v x) (γ : Nat → Option GI) : Rd w I γ v x:=h.mono (fun _ h=>⟨h,rfl⟩) (fun _ _ h=>by cases h)
theorem zi6 {w0 w : World} {ex I γ g} (hi : Inv w0 ex I γ g w) {refs : List Nat} {γc : Nat → Option GI} (hc : ∀ k n,refs[k]? = some n → γc k = γ n) {v v' : V} {x : Value} {bs BS : List Nat} (hx : Rd w I γ v x) (h : zbI g refs v = some (v',bs)) (hb : ∀ n ∈ bs,n ∈ BS) :
 Rd w (Ic I γ BS) γc v' x:=by
 have hI : ∀ b,I b → Ic I γ BS b:=fun b h=>.inl h
 unfold zbI at h
 split at h
 ·rename_i nm off n
  split at h
  ·rename_i k hk
   cases h
   have hg:=hc k nm (zdp hk)
   cases hx with
   | ownnil _ _ A gi hγ hnn=>exact .ownnil _ _ A gi (hg.trans hγ) hnn
   | own _ _ _ _ c oo gi hγ hnn hcap hnc hcm ho=>exact .own _ _ _ _ _ _ gi (hg.trans hγ) hnn hcap hnc hcm ho
  split at h
  ·rename_i o hg
   split at h
   ·rename_i hcond
    obtain ⟨c1,c2,c3⟩:=hcond
    cases h
    have hob:=hi.obj nm o hg c1
    have hlen : ((o.elems.drop off).take n).length = n:=by rw [List.length_take,List.length_drop]; omega
    cases hx with
    | ownnil _ _ A gi hγ hnn =>
     cases A with
     | none=>simpa using Rd.nil (w:=w) (I:=Ic I γ BS) γc 2 o.es (by decide)
     | some a=>exact .sl _ _ _ _ a 0 0 (fun _ _=>undef) (by decide) (fun _=>rfl) (by simp) (Nat.le_refl _) (by simp) (by simp) (by simp [zah]) (by simp [zah]) (by simp [zah])
    | own _ _ _ _ c oo gi hγ hnn hcap hnc hcm ho =>
     obtain ⟨cur,fr,ha⟩:=hi.at_own hg c1 hγ hnn
     refine .sl _ _ _ _ _ n c (fun i j=>cur[(off + i) * o.es + j]?.getD undef) (by decide) (fun h=>by rcases h with h | h <;> cases h) hlen hnc hcm (fun r hr=>hob.rows r (List.mem_of_mem_drop (List.mem_of_mem_take hr))) (fun i j u hu=>hob.cel _ _ u (zaO hu)) (fun i j u hu=>?_) (fun i j u hu=>?_)
     ·obtain ⟨y,y1,y2⟩:=ha.cells _ _ _ (zaO hu)
      have q1:=(zcK (size:=o.es) (fun r hr=>hob.rows r (List.mem_of_mem_drop (List.mem_of_mem_take hr))) hu).1
      rw [hlen] at q1
      refine ⟨.inr ⟨nm,gi,hb nm (by simp),hγ,hnn,rfl⟩,?_⟩
      rw [zcx,cell_of_row w gi.blk _ cur o.et fr ha.heap,ho (by omega),ha.es,← Nat.add_assoc,← Nat.add_mul,y1]; rfl
     ·obtain ⟨y,y1,y2⟩:=ha.cells _ _ _ (zaO hu)
      rw [y1]
      exact (y2.closed (hob.closed c2 _ _ u (zaO hu)) noG).wider hI
   ·split at h
    ·exact (zwV hi 3 hx h hb).1.ofNone γc
    ·cases h
  ·cases h
 ·rename_i nm i j
  split at h
  ·rename_i k hk
   cases h
   cases hx with
   | ptr _ _ _ _ gi hγ hnn=>exact .ptr _ _ _ _ gi ((hc k nm (zdp hk)).trans hγ) hnn
  ·cases h
 ·rename_i f nm
  split at h
  ·rename_i k hk
   cases h
   cases hx with
   | mth _ _ _ gi hγ hnn=>exact .mth _ _ _ gi ((hc k nm (zdp hk)).trans hγ) hnn
  ·cases h
 ·split at h
  ·rename_i hcl
   cases h
   exact (hx.closed hcl γc).wider hI
  ·cases h
theorem zi5 {w0 w : World} {ex I γ g} (hi : Inv w0 ex I γ g w) {refs : List Nat} {γc : Nat → Option GI} (hc : ∀ k n,refs[k]? = some n → γc k = γ n) {BS : List Nat} : ∀ {cs cs' : List V} {bs : List Nat},zbr g refs cs = some (cs',bs) → (∀ n ∈ bs,n ∈ BS) →
 cs'.length = cs.length ∧ ∀ (j : Nat) (u' : V),cs'[j]? = some u' → ∃ u,cs[j]? = some u ∧ ∀ x,Rd w I γ u x → Rd w (Ic I γ BS) γc u' x
 | [],cs',bs,h,_=>by cases h; exact ⟨rfl,fun j u' h=>by simp at h⟩
 | c :: cs,cs',bs,h,hb=>by
  simp only [zbr] at h
  split at h
  ·rename_i v b vs bs' h1 h2
   cases h
   obtain ⟨q1,q2⟩:=zi5 hi hc h2 (fun n hn=>hb n (List.mem_append_right _ hn))
   refine ⟨by simp [q1],fun j u' hu=>?_⟩
   cases j with
   | zero=>simp at hu; subst hu; exact ⟨c,rfl,fun x hx=>zi6 hi hc hx h1 (fun n hn=>hb n (List.mem_append_left _ hn))⟩
   | succ j=>simpa using q2 j u' (by simpa using hu)
  ·cases h
theorem zy7 {w0 w : World} {ex I γ g} (hi : Inv w0 ex I γ g w) {refs : List Nat} {γc : Nat → Option GI} (hc : ∀ k n,refs[k]? = some n → γc k = γ n) {v v' : V} {x : Value} {bs BS : List Nat} (hx : Rd w I γ v x) (h : argV g refs v = some (v',bs)) (hb : ∀ n ∈ bs,n ∈ BS) :
 Rd w (Ic I γ BS) γc v' x:=by
 unfold argV at h
 split at h
 ·rename_i cs
  cases hcs : zbr g refs cs with
  | none=>rw [hcs] at h; cases h
  | some p =>
   obtain ⟨cs',bs'⟩:=p
   rw [hcs] at h
   cases h
   obtain ⟨q1,q2⟩:=zi5 (w:=w) hi hc hcs hb
   cases hx with
   | agg _ _ xs hl hr =>
    refine .agg _ _ _ (q1.trans hl) fun j u' x hu hx=>?_
    obtain ⟨u,h1,h2⟩:=q2 j u' hu
    exact h2 x (hr j u x h1 hx)
 ·exact zi6 hi hc hx h hb
theorem zlN {w0 w : World} {ex I γ g} (hi : Inv w0 ex I γ g w) {refs : List Nat} {γc : Nat → Option GI} (hc : ∀ k n,refs[k]? = some n → γc k = γ n) {BS : List Nat} : ∀ {cs cs' : List V} {bs : List Nat},argVs g refs cs = some (cs',bs) → (∀ n ∈ bs,n ∈ BS) →
 cs'.length = cs.length ∧ ∀ (j : Nat) (u' : V),cs'[j]? = some u' → ∃ u,cs[j]? = some u ∧ ∀ x,Rd w I γ u x → Rd w (Ic I γ BS) γc u' x
 | [],cs',bs,h,_=>by cases h; exact ⟨rfl,fun j u' h=>by simp at h⟩
 | c :: cs,cs',bs,h,hb=>by
  simp only [argVs] at h
  split at h
  ·rename_i v b vs bs' h1 h2
   cases h
   obtain ⟨q1,q2⟩:=zlN hi hc h2 (fun n hn=>hb n (List.mem_append_right _ hn))
   refine ⟨by simp [q1],fun j u' hu=>?_⟩
   cases j with
   | zero=>simp at hu; subst hu; exact ⟨c,rfl,fun x hx=>zy7 hi hc hx h1 (fun n hn=>hb n (List.mem_append_left _ hn))⟩
   | succ j=>simpa using q2 j u' (by simpa using hu)
  ·cases h
theorem Rd.ren {w : World} {I : Nat → Prop} {γ γ' : Nat → Option GI} {f : Nat → Nat} {v : V} {x : Value} (h : Rd w I γ v x) : (∀ n gi,γ n = some gi → γ' (f n) = some gi) → Rd w I γ' (v.ren f) x:=by
 have zbx : ∀ (cs : List V) (j : Nat),(V.ren.renAll f cs)[j]? = (cs[j]?).map (·.ren f):=by
  intro cs
  induction cs with
  | nil=>intro j; simp [V.ren.renAll]
  | cons c cs ih =>
   intro j
   cases j with
   | zero=>simp [V.ren.renAll]
   | succ j=>simpa [V.ren.renAll] using ih j
 have zcl : ∀ cs : List V,(V.ren.renAll f cs).length = cs.length:=by
  intro cs
  induction cs with
  | nil=>rfl
  | cons c cs ih=>simp [V.ren.renAll,ih]
 induction h with
 | own _ nm off n c o gi hγ hnn hcap hn hcm ho=>intro hg; exact .own _ _ _ _ _ _ gi (hg _ _ hγ) hnn hcap hn hcm ho
 | ownnil _ nm A gi hγ hnn=>intro hg; exact .ownnil _ _ A gi (hg _ _ hγ) hnn
 | ptr _ nm i j gi hγ hnn=>intro hg; exact .ptr _ _ _ _ gi (hg _ _ hγ) hnn
 | mth _ f nm gi hγ hnn=>intro hg; exact .mth _ _ _ gi (hg _ _ hγ) hnn
 | agg _ cells xs hl hr ih =>
  intro hg
  refine .agg _ _ _ ((zcl cells).trans hl) fun j u x hu hx=>?_
  rw [zbx] at hu
  cases hc : cells[j]? with
  | none=>rw [hc] at hu; cases hu
  | some c=>rw [hc] at hu; cases hu; exact ih j c x hc hx hg
 | tup _ cells xs hl hr ih =>
  intro hg
  refine .tup _ _ _ ((zcl cells).trans hl) fun j u x hu hx=>?_
  rw [zbx] at hu
  cases hc : cells[j]? with
  | none=>rw [hc] at hu; cases hu
  | some c=>rw [hc] at hu; cases hu; exact ih j c x hc hx hg
 | junk=>intro _; exact .junk _ _
 | int=>intro _; exact .int _ _ _
 | bool=>intro _; exact .bool _ _
 | str=>intro _; exact .str _ _
 | nil _ t es h=>intro _; exact .nil _ t es h
 | sl _ tag es elems a n c xs h0 h1 hlen hnc hcm hes hcel hc hr ih=>intro _; exact .sl _ tag es elems a n c xs h0 h1 hlen hnc hcm hes hcel hc hr
 | pp _ cells a xs hc hr ih=>intro _; exact .pp _ cells a xs hc hr
 | pnil=>intro _; exact .pnil _
 | fn=>intro _; exact .fn _ _
 | clo _ f caps xs hl hr ih=>intro _; exact .clo _ f caps xs hl hr
 | anyB=>intro _; exact .anyB _ _
 | treep _ et es rows tight fl p h=>intro hg; obtain ⟨n,gi,h⟩:=h; exact .treep _ _ _ _ _ _ p ⟨_,_,hg _ _ h⟩
 | trees _ et es rows tight fl A n c h=>intro hg; obtain ⟨m,gi,h⟩:=h; exact .trees _ _ _ _ _ _ A n c ⟨_,_,hg _ _ h⟩
theorem zbx (f : Nat → Nat) : ∀ (cs : List V) (j : Nat),(V.ren.renAll f cs)[j]? = (cs[j]?).map (·.ren f)
 | [],j=>by simp [V.ren.renAll]
 | c :: cs,j=>by
  cases j with
  | zero=>simp [V.ren.renAll]
  | succ j=>simpa [V.ren.renAll] using zbx f cs j
theorem zcl (f : Nat → Nat) : ∀ cs : List V,(V.ren.renAll f cs).length = cs.length
 | []=>rfl
 | c :: cs=>by simp [V.ren.renAll,zcl f cs]
theorem ze1 (f : Nat → Nat) (v : V) : (v.ren f).cellular = v.cellular:=by cases v <;> rfl
theorem AObj.ren_eq {f : Nat → Nat} {o : AObj} (h : o.fl ≠ 0) : o.ren f = o:=by unfold AObj.ren; rw [if_neg h]
theorem zfz (f : Nat → Nat) (v : V) (h : v.closed = true) : v.ren f = v:=by
 have key : ∀ (n : Nat) (v : V),SizeOf.sizeOf v ≤ n → v.closed = true → v.ren f = v:=by
  intro n
  induction n with
  | zero=>intro v hs; cases v <;> simp at hs
  | succ n ih =>
   intro v hs hc
   have all : ∀ cs : List V,SizeOf.sizeOf cs ≤ n → V.closed.closedAll cs = true → V.ren.renAll f cs = cs:=by
    intro cs
    induction cs with
    | nil=>intros; rfl
    | cons c cs ihc =>
     intro hs hc
     simp only [V.closed.closedAll,Bool.and_eq_true] at hc
     simp at hs
     simp only [V.ren.renAll]
     rw [ih c (by omega) hc.1,ihc (by omega) hc.2]
   cases v <;> simp [V.closed] at hc <;> try rfl
   ·simp at hs; simp only [V.ren]; rw [all _ (by omega) hc]
   ·simp at hs; simp only [V.ren]; rw [all _ (by omega) hc]
 exact key _ v (Nat.le_refl _) h
theorem V.ren_nl (f : Nat → Nat) {v : V} (h : v.isTree = true ∨ v.closed = true) : v.ren f = v:=by
 rcases h with h | h
 ·obtain ⟨sl,et,es,rows,tight,fl,rfl⟩:=V.ofTree h; rfl
 ·exact zfz f v h
theorem V.ren_tree {f : Nat → Nat} {v : V} (h : (v.ren f).isTree = true) : v.ren f = v ∧ v.isTree = true:=by
 cases v <;> first | exact ⟨rfl,h⟩ | cases h
theorem AObj.ren_nl {f : Nat → Nat} {o : AObj} (h : nameless o = true) : o.ren f = o:=by
 by_cases hfl : o.fl = 0
 ·unfold AObj.ren
  rw [if_pos hfl]
  unfold nameless at h
  rw [if_neg (by simpa using hfl)] at h
  have : o.elems.map (V.ren.renAll f) = o.elems:=by
   apply List.ext_getElem?
   intro i
   rw [List.getElem?_map]
   cases hi : o.elems[i]? with
   | none=>rfl
   | some r =>
    simp only [Option.map_some,Option.some.injEq]
    apply List.ext_getElem?
    intro j
    rw [zbx]
    cases hj : r[j]? with
    | none=>rfl
    | some u =>
     have:=List.all_eq_true.1 (List.all_eq_true.1 h r (List.mem_of_getElem? hi)) u (List.mem_of_getElem? hj)
     simp only [Option.map_some,V.ren_nl f (by simpa using this)]
  rw [this]
 ·exact AObj.ren_eq hfl
theorem AObj.ren_md (f : Nat → Nat) (o : AObj) : (o.ren f).md = o.md:=by unfold AObj.ren; split <;> rfl
theorem zdk {f : Nat → Nat} {rows : List (List V)} {i j : Nat} {u : V} (h : zah (rows.map (V.ren.renAll f)) i j = some u) : ∃ u0,zah rows i j = some u0 ∧ u = u0.ren f:=by
 obtain ⟨r,h1,h2⟩:=zan h
 rw [List.getElem?_map] at h1
 cases hr : rows[i]? with
 | none=>rw [hr] at h1; cases h1
 | some r0 =>
  rw [hr] at h1; cases h1
  rw [zbx] at h2
  cases hu : r0[j]? with
  | none=>rw [hu] at h2; cases h2
  | some u0=>rw [hu] at h2; cases h2; exact ⟨u0,zay hr hu,rfl⟩
theorem ObjOk.ren {w : World} {I : Nat → Prop} {γ γ' : Nat → Option GI} {f : Nat → Nat} {n : Nat} {o : AObj} (h : ObjOk w I γ n o) (hg : ∀ n gi,γ n = some gi → γ' (f n) = some gi) : ObjOk w I γ' (f n) (o.ren f):=by
 by_cases hfl : o.fl = 0
 ·have hr : o.ren f = { o with elems:=o.elems.map (V.ren.renAll f) }:=by unfold AObj.ren; rw [if_pos hfl]
  rw [hr]
  refine ⟨fun r hr=>?_,fun i j u hu=>?_,fun hf=>absurd hfl hf,fun hf=>by simp only at hf; omega,?_⟩
  ·obtain ⟨r0,h1,rfl⟩:=List.mem_map.1 hr
   rw [zcl]; exact h.rows r0 h1
  ·obtain ⟨u0,h1,rfl⟩:=zdk hu
   rw [ze1]; exact h.cel _ _ u0 h1
  ·rcases h.at_ with ⟨he,gi,h1,h2⟩ | ⟨gi,cur,fr,h1,ha⟩
   ·exact .inl ⟨by simp [he],gi,hg _ _ h1,h2⟩
   ·refine .inr ⟨gi,cur,fr,hg _ _ h1,⟨ha.nn,ha.es,ha.heap,ha.frz,ha.size,by simpa using ha.le,fun ht=>by simpa using ha.tight ht,ha.max,fun i j u hu=>?_,ha.ro,ha.rw⟩⟩
    obtain ⟨u0,h1,rfl⟩:=zdk hu
    obtain ⟨y,y1,y2⟩:=ha.cells _ _ _ h1
    exact ⟨y,y1,y2.ren hg⟩
 ·rw [AObj.ren_eq hfl]
  refine ⟨h.rows,h.cel,h.closed,h.scalar,?_⟩
  rcases h.at_ with ⟨he,gi,h1,h2⟩ | ⟨gi,cur,fr,h1,ha⟩
  ·exact .inl ⟨he,gi,hg _ _ h1,h2⟩
  ·refine .inr ⟨gi,cur,fr,hg _ _ h1,⟨ha.nn,ha.es,ha.heap,ha.frz,ha.size,ha.le,ha.tight,ha.max,fun i j u hu=>?_,ha.ro,ha.rw⟩⟩
   obtain ⟨y,y1,y2⟩:=ha.cells _ _ _ hu
   exact ⟨y,y1,y2.closed (h.closed hfl _ _ u hu) γ'⟩
theorem zcy : ∀ (l : List (Nat × AObj)) (g : Nat → Option AObj) (k : Nat),(∃ o,(k,o) ∈ l ∧ zas g l k = some o) ∨ ((∀ o,(k,o) ∉ l) ∧ zas g l k = g k)
 | [],g,k=>.inr ⟨fun o h=>by simp at h,rfl⟩
 | (n,o) :: l,g,k=>by
  rcases zcy l (upd g n (some o)) k with ⟨o',h1,h2⟩ | ⟨h1,h2⟩
  ·exact .inl ⟨o',List.mem_cons_of_mem _ h1,h2⟩
  ·by_cases e : k = n
   ·subst e
    refine .inl ⟨o,List.mem_cons_self ..,?_⟩
    show zas (upd g k (some o)) l k = some o
    rw [h2]; simp
   ·refine .inr ⟨fun o' hm=>?_,?_⟩
    ·rcases List.mem_cons.1 hm with hm | hm
     ·cases hm; exact e rfl
     ·exact h1 o' hm
    ·show zas (upd g n (some o)) l k = g k
     rw [h2,zaz _ _ e]
theorem zh1 {nm : Nat} {f : Nat → Nat} : ∀ {l : List AObj} {j k : Nat} {o : AObj},(k,o) ∈ numbered nm f j l → ∃ i o',l[i]? = some o' ∧ k = nm + (j + i) ∧ o = o'.ren f
 | [],j,k,o,h=>by simp [numbered] at h
 | x :: l,j,k,o,h=>by
  rcases List.mem_cons.1 h with h | h
  ·cases h; exact ⟨0,x,rfl,rfl,rfl⟩
  ·obtain ⟨i,o',h1,h2,h3⟩:=zh1 h
   exact ⟨i + 1,o',by simpa using h1,by omega,h3⟩
theorem zhX {nm : Nat} {f : Nat → Nat} : ∀ {l : List AObj} {j i : Nat} {o' : AObj},l[i]? = some o' → (nm + (j + i),o'.ren f) ∈ numbered nm f j l
 | [],j,i,o',h=>by simp at h
 | x :: l,j,i,o',h=>by
  cases i with
  | zero=>simp at h; subst h; exact List.mem_cons_self ..
  | succ i =>
   have:=zhX (nm:=nm) (f:=f) (j:=j + 1) (by simpa using h : l[i]? = some o')
   rw [show j + (i + 1) = j + 1 + i by omega]
   exact List.mem_cons_of_mem _ this
theorem zd2 {g : Nat → Option AObj} : ∀ {l : List Nat} {k : Nat} {o : AObj},(k,o) ∈ freeze g l → k ∈ l ∧ ∃ o',g k = some o' ∧ o = { o' with md:=.ro }
 | [],k,o,h=>by simp [freeze] at h
 | n :: l,k,o,h=>by
  simp only [freeze] at h
  split at h
  ·rename_i o' hg
   rcases List.mem_cons.1 h with h | h
   ·cases h; exact ⟨List.mem_cons_self ..,o',hg,rfl⟩
   ·obtain ⟨h1,h2⟩:=zd2 h; exact ⟨List.mem_cons_of_mem _ h1,h2⟩
  ·obtain ⟨h1,h2⟩:=zd2 h; exact ⟨List.mem_cons_of_mem _ h1,h2⟩
theorem zd5 {g : Nat → Option AObj} : ∀ {l : List Nat} {k : Nat} {o : AObj},k ∈ l → g k = some o → (k,{ o with md:=.ro }) ∈ freeze g l
 | [],k,o,h,_=>by simp at h
 | n :: l,k,o,h,hg=>by
  simp only [freeze]
  rcases List.mem_cons.1 h with rfl | h
  ·rw [hg]; exact List.mem_cons_self ..
  ·split
   ·exact List.mem_cons_of_mem _ (zd5 h hg)
   ·exact zd5 h hg
theorem zeh {g : Nat → Option AObj} {nm : Nat} : ∀ {k : Nat},zdj g nm k = true → ∀ j,j < k → g (nm + j) = none
 | 0,_,j,h=>by omega
 | k + 1,h,j,hj=>by
  simp only [zdj,Bool.and_eq_true,Option.isNone_iff_eq_none] at h
  by_cases e : j = k
  ·subst e; exact h.1
  ·exact zeh h.2 j (by omega)
theorem zdJ {g : Nat → Option AObj} : ∀ {l : List Nat} {os : List AObj},zdB g l = some os → os.length = l.length ∧ ∀ (k : Nat) (n : Nat),l[k]? = some n → ∃ o,os[k]? = some o ∧ g n = some o ∧ o.md = .rw ∧ nameless o = true
 | [],os,h=>by cases h; exact ⟨rfl,fun k n h=>by simp at h⟩
 | m :: l,os,h=>by
  simp only [zdB] at h
  split at h
  ·rename_i o os' h1 h2
   split at h
   ·rename_i hc
    cases h
    obtain ⟨q1,q2⟩:=zdJ h2
    refine ⟨by simp [q1],fun k n hk=>?_⟩
    cases k with
    | zero=>simp at hk; subst hk; exact ⟨o,rfl,h1,hc⟩
    | succ k=>simpa using q2 k n (by simpa using hk)
   ·cases h
  ·cases h
theorem zc3 : ∀ l : List V,(za1 l).Nodup
 | []=>List.nodup_nil
 | v :: r=>by
  cases v <;> simp only [za1] <;> try exact zc3 r
  split
  ·exact zc3 r
  ·rename_i h
   exact List.nodup_cons.2 ⟨by simpa using h,zc3 r⟩
theorem zc4 : ∀ (r l : List Nat),l.Nodup → (zeD l r).Nodup
 | [],l,h=>h
 | n :: r,l,h=>by
  simp only [zeD]
  split
  ·exact zc4 r l h
  ·rename_i hn
   refine zc4 r _ (List.nodup_append.2 ⟨h,by simp,fun a ha b hb=>?_⟩)
   simp at hb
   subst hb
   intro e
   subst e
   exact hn (by simpa using ha)
theorem zkv (l : List V) : (zca l).Nodup:=zc4 _ _ List.nodup_nil
theorem zfs : ∀ {r l : List Nat} {n : Nat},n ∈ l ∨ n ∈ r → n ∈ zeD l r
 | [],l,n,h=>by rcases h with h | h; exact h; cases h
 | m :: r,l,n,h=>by
  simp only [zeD]
  split
  ·rename_i hm
   refine zfs ?_
   rcases h with h | h
   ·exact .inl h
   ·rcases List.mem_cons.1 h with rfl | h
    ·exact .inl (by simpa using hm)
    ·exact .inr h
  ·refine zfs ?_
   rcases h with h | h
   ·exact .inl (List.mem_append_left _ h)
   ·rcases List.mem_cons.1 h with rfl | h
    ·exact .inl (by simp)
    ·exact .inr h
theorem zdQ : ∀ {l : List AObj},zby l = true → ∀ o ∈ l,zbu o = true
 | [],_,o,h=>by simp at h
 | x :: l,h,o,ho=>by
  simp only [zby,Bool.and_eq_true] at h
  rcases List.mem_cons.1 ho with rfl | ho
  ·exact h.1
  ·exact zdQ h.2 o ho
theorem zfT : ∀ (k : Nat) {v : V},zbl k v = true → v.scalar = true
 | 0,v,h=>by cases v <;> first | rfl | exact h | cases h
 | k + 1,v,h=>by cases v <;> first | rfl | exact h | cases h
theorem zh7 {w : World} {I : Nat → Prop} {γ : Nat → Option GI} {n : Nat} {o : AObj} (h : zbu o = true) (ho : ObjOk w I γ n o) : ∀ i j u,zah o.elems i j = some u → u.scalar = true:=by
 intro i j u hu
 unfold zbu at h
 split at h
 ·rename_i hf; exact ho.scalar (by omega) i j u hu
 ·split at h
  ·obtain ⟨r,h1,h2⟩:=zan hu
   exact zfT _ (List.all_eq_true.1 (List.all_eq_true.1 h r (List.mem_of_getElem? h1)) u (List.mem_of_getElem? h2))
  ·cases h
theorem zof {w : World} {I : Nat → Prop} {γ : Nat → Option GI} {n : Nat} {o : AObj} (h : zbu o = true) (ho : ObjOk w I γ n o) : ∀ i j u,zah o.elems i j = some u → u.isTree = true → zbl 3 u = true:=by
 intro i j u hu hut
 unfold zbu at h
 split at h
 ·rename_i hf; rw [V.closed_nt (ho.closed (by omega) i j u hu)] at hut; cases hut
 ·split at h
  ·obtain ⟨r,h1,h2⟩:=zan hu
   exact List.all_eq_true.1 (List.all_eq_true.1 h r (List.mem_of_getElem? h1)) u (List.mem_of_getElem? h2)
  ·cases h
theorem TreeAt.scal {w : World} {I I' : Nat → Prop} (hI : ∀ b,I' b → I b) {v : V} {x : Value} {F : Nat → Prop} (h : TreeAt w I v x F) : ∀ (k : Nat),zbl k v = true → TreeAt w I' v x F:=by
 induction h with
 | box sl et es rows tight fl gi x F G ys hok hnn hnl hx hF hlt hys hsub hG hd ih =>
  intro k hs
  cases k with
  | zero=>cases hs
  | succ k =>
   have hs' : fl = 2 ∨ ∀ i j u,zah rows i j = some u → zbl k u = true:=by
    simp only [zbl,Bool.or_eq_true,decide_eq_true_eq] at hs
    refine hs.imp id fun h i j u hu=>?_
    obtain ⟨r,h1,h2⟩:=zan hu
    exact List.all_eq_true.1 (List.all_eq_true.1 h r (List.mem_of_getElem? h1)) u (List.mem_of_getElem? h2)
   have hcell : ∀ i j u,zah rows i j = some u → u.scalar = true:=by
    intro i j u hu
    rcases hs' with h | h
    ·exact hok.scalar (by simp only [h]; decide) i j u hu
    ·exact zfT _ (h i j u hu)
   refine .box sl et es rows tight fl gi x F G ys ⟨hok.rows,hok.cel,hok.closed,hok.scalar,?_⟩ hnn hnl hx hF hlt hys (fun i j u h1 h2=>ih i j u h1 h2 k ?_) hG hd
   ·rcases hok.at_ with h | ⟨gi',cur,fr,h1,ha⟩
    ·exact .inl h
    ·refine .inr ⟨gi',cur,fr,h1,ha.nn,ha.es,ha.heap,ha.frz,ha.size,ha.le,ha.tight,ha.max,fun i j u hu=>?_,(fun h=>by cases h),fun _ h=>ha.rw rfl (hI _ h)⟩
     obtain ⟨y,y1,y2⟩:=ha.cells _ _ _ hu
     exact ⟨y,y1,y2.scalar (hcell i j u hu) _ _⟩
   ·rcases hs' with h | h
    ·have:=hok.closed (by simp only [h]; decide) i j u h1
     rw [V.closed_nt this] at h2; cases h2
    ·exact h i j u h1
 | nil et es tight fl A F=>intro k _; exact .nil _ _ _ _ _ _
theorem zsB (f : Nat → Nat) (v : V) : (v.ren f).scalar = v.scalar:=by
 have key : ∀ (n : Nat) (v : V),SizeOf.sizeOf v ≤ n → (v.ren f).scalar = v.scalar:=by
  intro n
  induction n with
  | zero=>intro v hs; cases v <;> simp at hs
  | succ n ih =>
   intro v hs
   have all : ∀ cs : List V,SizeOf.sizeOf cs ≤ n → V.scalar.scalarAll (V.ren.renAll f cs) = V.scalar.scalarAll cs:=by
    intro cs
    induction cs with
    | nil=>intros; rfl
    | cons c cs ihc =>
     intro hs
     simp at hs
     simp only [V.ren.renAll,V.scalar.scalarAll]
     rw [ih c (by omega),ihc (by omega)]
   cases v with
   | agg cs=>simp at hs; exact all cs (by omega)
   | tup cs=>simp at hs; exact all cs (by omega)
   | _=>rfl
 exact key _ v (Nat.le_refl _)
theorem zgs {f : Nat → Nat} {o : AObj} {i j : Nat} {u : V} (h : zah (o.ren f).elems i j = some u) (hu : u.isTree = true) : zah o.elems i j = some u:=by
 unfold AObj.ren at h
 split at h
 ·obtain ⟨u0,h1,rfl⟩:=zdk h
  obtain ⟨h2,_⟩:=V.ren_tree hu
  rw [h2]; exact h1
 ·exact h
theorem zjY : ∀ {l : List Nat},l.Nodup → ∀ {i j n : Nat},l[i]? = some n → l[j]? = some n → i = j
 | [],_,i,j,n,h,_=>by simp at h
 | x :: l,hnd,i,j,n,hi,hj=>by
  obtain ⟨h1,h2⟩:=List.nodup_cons.1 hnd
  cases i with
  | zero =>
   cases j with
   | zero=>rfl
   | succ j =>
    simp at hi hj
    subst hi
    exact absurd (List.mem_of_getElem? hj) h1
  | succ i =>
   cases j with
   | zero =>
    simp at hi hj
    subst hj
    exact absurd (List.mem_of_getElem? hi) h1
   | succ j =>
    have:=zjY h2 (by simpa using hi) (by simpa using hj)
    omega
theorem zeu (f : Nat → Nat) : ∀ l : List AObj,(zbg f l).length = l.length
 | []=>rfl
 | o :: l=>by simp [zbg,zeu f l]
theorem zj8 (f : Nat → Nat) : ∀ (l : List AObj) (k : Nat),(zbg f l)[k]? = (l[k]?).map (·.ren f)
 | [],k=>by simp [zbg]
 | o :: l,k=>by
  cases k with
  | zero=>simp [zbg]
  | succ k=>simpa [zbg] using zj8 f l k
theorem zfy {f : Nat → Nat} : ∀ {l : List AObj},zgU l = true → zbg f l = l
 | [],_=>rfl
 | o :: l,h=>by
  simp only [zgU,Bool.and_eq_true] at h
  simp only [zbg]
  rw [AObj.ren_nl h.1,zfy h.2]
section
variable {w0 w w' : World} {ex : Ex} {I I' : Nat → Prop} {γ γ' γc : Nat → Option GI} {g : Nat → Option AObj} {refs bs : List Nat} {os : List AObj} {nm : Nat} {r : CRes} {v : Value}
def wrOf (γ : Nat → Option GI) (g : Nat → Option AObj) (F : Nat → Nat → Nat → Nat → Prop) (refs : List Nat) (k : Nat) : Nat → Prop :=
 fun b=>exOf (fun k=>(refs[k]?).bind γ) k b ∨ ∃ (q x i j : Nat) (u : V),refs[q]? = some x ∧ TCell g x i j u ∧ F x i j b
def zcU (γ γ' : Nat → Option GI) (nm k n : Nat) : Nat → Option GI:=fun x=>match γ x with | some gi=>some gi | none=>if nm ≤ x ∧ x < nm + n then γ' (k + (x - nm)) else none
structure Handed (w : World) (I : Nat → Prop) (γ : Nat → Option GI) (g : Nat → Option AObj) (refs : List Nat) (os : List AObj) : Prop where
 len : os.length = refs.length
 ob : ∀ (k n : Nat),refs[k]? = some n → ∃ o f,g n = some o ∧ os[k]? = some (o.ren f) ∧ o.md = .rw ∧ ∀ i j u x,zah o.elems i j = some u → Rd w I γ u x → Rd w I (fun k=>(refs[k]?).bind γ) (u.ren f) x
theorem Handed.of (hi : Inv w0 ex I γ g w) (hr : zdB g refs = some os) : Handed w I γ g refs os:=by
 obtain ⟨h1,h2⟩:=zdJ hr
 refine ⟨h1,fun k n hk=>?_⟩
 obtain ⟨o,o1,o2,o3,o4⟩:=h2 k n hk
 refine ⟨o,id,o2,by rw [AObj.ren_nl o4]; exact o1,o3,fun i j u x hu hx=>?_⟩
 have ho:=hi.obj n o o2 (by rw [o3]; decide)
 have hnl:=zgS o4 ho.closed _ _ u hu
 rw [V.ren_nl _ hnl]
 have : ∃ gi,γ n = some gi:=by rcases ho.at_ with ⟨_,gi,q,_⟩ | ⟨gi,_,_,q,_⟩ <;> exact ⟨gi,q⟩
 obtain ⟨gi,hg⟩:=this
 exact hx.nl hnl ⟨k,gi,by simp [hk,hg]⟩
theorem zer {g : Nat → Option AObj} {refs : List Nat} : ∀ {l : List Nat} {os : List AObj},zck g refs l = some os → os.length = l.length ∧ ∀ (k : Nat) (n : Nat),l[k]? = some n → ∃ o,os[k]? = some (o.ren (zeG refs)) ∧ g n = some o ∧ o.md = .rw ∧ zbp refs o = true
 | [],os,h=>by cases h; exact ⟨rfl,fun k n h=>by simp at h⟩
 | m :: l,os,h=>by
  simp only [zck] at h
  split at h
  ·rename_i o os' h1 h2
   split at h
   ·rename_i hc
    cases h
    obtain ⟨q1,q2⟩:=zer h2
    refine ⟨by simp [q1],fun k n hk=>?_⟩
    cases k with
    | zero=>simp at hk; subst hk; exact ⟨o,rfl,h1,hc⟩
    | succ k=>simpa using q2 k n (by simpa using hk)
   ·cases h
  ·cases h
theorem Handed.ofK (hi : Inv w0 ex I γ g w) (hr : zck g refs refs = some os) : Handed w I γ g refs os:=by
 obtain ⟨h1,h2⟩:=zer hr
 refine ⟨h1,fun k n hk=>?_⟩
 obtain ⟨o,o1,o2,o3,o4⟩:=h2 k n hk
 refine ⟨o,zeG refs,o2,o1,o3,fun i j u x hu hx=>?_⟩
 have ho:=hi.obj n o o2 (by rw [o3]; decide)
 have : ∃ gi,γ n = some gi:=by rcases ho.at_ with ⟨_,gi,q,_⟩ | ⟨gi,_,_,q,_⟩ <;> exact ⟨gi,q⟩
 obtain ⟨gi0,hg0⟩:=this
 have plain : u.isTree = true ∨ u.closed = true → Rd w I (fun k=>(refs[k]?).bind γ) (u.ren (zeG refs)) x:=fun hnl=>by
  rw [V.ren_nl _ hnl]
  exact hx.nl hnl ⟨k,gi0,by simp [hk,hg0]⟩
 by_cases hfl : o.fl = 0
 ·unfold zbp at o4
  rw [if_neg (by simpa using hfl)] at o4
  obtain ⟨r,r1,r2⟩:=zan hu
  have hl:=List.all_eq_true.1 (List.all_eq_true.1 o4 r (List.mem_of_getElem? r1)) u (List.mem_of_getElem? r2)
  have name : ∀ nm gi,(posOf nm refs).isSome = true → γ nm = some gi → (fun k=>(refs[k]?).bind γ) (zeG refs nm) = some gi:=by
   intro nm gi hs hg
   obtain ⟨p,hp⟩:=Option.isSome_iff_exists.1 hs
   have : zeG refs nm = p:=by unfold zeG; rw [hp]
   rw [this]
   simp [zdp hp,hg]
  cases hx with
  | own _ nm off n c oo gi hγ hnn hcap hnc hcm ho=>exact .own _ _ _ _ _ _ gi (name _ _ hl hγ) hnn hcap hnc hcm ho
  | ownnil _ nm A gi hγ hnn=>exact .ownnil _ _ A gi (name _ _ hl hγ) hnn
  | ptr _ nm i j gi hγ hnn=>exact .ptr _ _ _ _ gi (name _ _ hl hγ) hnn
  | _=>exact plain (by simpa [zbX] using hl)
 ·exact plain (.inr (ho.closed hfl _ _ u hu))
theorem ObjOk.via {w : World} {I I' : Nat → Prop} {γ γ' : Nat → Option GI} {f : Nat → Nat} {n k : Nat} {o : AObj} (h : ObjOk w I γ n o) (hg : ∀ gi,γ n = some gi → γ' k = some gi)
 (hc : ∀ i j u x,zah o.elems i j = some u → Rd w I γ u x → Rd w I' γ' (u.ren f) x) (hro : ∀ gi,γ n = some gi → o.md = .ro → I gi.blk → I' gi.blk) (hrw : ∀ gi,γ n = some gi → gi.nil = false → o.md = .rw → ¬ I gi.blk → ¬ I' gi.blk) : ObjOk w I' γ' k (o.ren f):=by
 by_cases hfl : o.fl = 0
 ·have hr : o.ren f = { o with elems:=o.elems.map (V.ren.renAll f) }:=by unfold AObj.ren; rw [if_pos hfl]
  rw [hr]
  refine ⟨fun r hr=>?_,fun i j u hu=>?_,fun hf=>absurd hfl hf,fun hf=>by simp only at hf; omega,?_⟩
  ·obtain ⟨r0,h1,rfl⟩:=List.mem_map.1 hr
   rw [zcl]; exact h.rows r0 h1
  ·obtain ⟨u0,h1,rfl⟩:=zdk hu
   rw [ze1]; exact h.cel _ _ u0 h1
  ·rcases h.at_ with ⟨he,gi,h1,h2⟩ | ⟨gi,cur,fr,h1,ha⟩
   ·exact .inl ⟨by simp [he],gi,hg _ h1,h2⟩
   ·refine .inr ⟨gi,cur,fr,hg _ h1,⟨ha.nn,ha.es,ha.heap,ha.frz,ha.size,by simpa using ha.le,fun ht=>by simpa using ha.tight ht,ha.max,fun i j u hu=>?_,fun hm=>hro gi h1 hm (ha.ro hm),fun hm=>hrw gi h1 ha.nn hm (ha.rw hm)⟩⟩
    obtain ⟨u0,h1,rfl⟩:=zdk hu
    obtain ⟨y,y1,y2⟩:=ha.cells _ _ _ h1
    exact ⟨y,y1,hc _ _ _ _ h1 y2⟩
 ·have hc' : ∀ i j u x,zah o.elems i j = some u → Rd w I γ u x → Rd w I' γ' u x:=fun i j u x hu hx=>by
   have:=hc i j u x hu hx
   rwa [zfz f u (h.closed hfl _ _ u hu)] at this
  rw [AObj.ren_eq hfl]
  refine ⟨h.rows,h.cel,h.closed,h.scalar,?_⟩
  rcases h.at_ with ⟨he,gi,h1,h2⟩ | ⟨gi,cur,fr,h1,ha⟩
  ·exact .inl ⟨he,gi,hg _ h1,h2⟩
  ·refine .inr ⟨gi,cur,fr,hg _ h1,⟨ha.nn,ha.es,ha.heap,ha.frz,ha.size,ha.le,ha.tight,ha.max,fun i j u hu=>?_,fun hm=>hro gi h1 hm (ha.ro hm),fun hm=>hrw gi h1 ha.nn hm (ha.rw hm)⟩⟩
   obtain ⟨y,y1,y2⟩:=ha.cells _ _ _ hu
   exact ⟨y,y1,hc' _ _ _ _ hu y2⟩
theorem znt (hi : Inv w0 ex I γ g w) {F : Nat → Nat → Nat → Nat → Prop} (hF : Trees w0 ex I γ g w F) (hr : Handed w I γ g refs os) (hnd : refs.Nodup) (hd : ∀ n ∈ bs,n ∉ refs) (halive : ∀ n ∈ bs,∃ o,g n = some o ∧ o.md ≠ .dead) :
 Inv w ⟨wrOf γ g F refs os.length,Ic I γ bs,fun k=>(refs[k]?).bind γ⟩ (Ic I γ bs) (fun k=>(refs[k]?).bind γ) (fun n=>os[n]?) w:=by
 obtain ⟨hlen,hob⟩:=hr
 have look : ∀ (k : Nat) (o' : AObj),os[k]? = some o' → ∃ n o f,refs[k]? = some n ∧ g n = some o ∧ o.md = .rw ∧ o' = o.ren f ∧ ∀ i j u x,zah o.elems i j = some u → Rd w I γ u x → Rd w I (fun k=>(refs[k]?).bind γ) (u.ren f) x:=by
  intro k o' hk
  have hlt : k < refs.length:=by rw [← hlen]; exact (List.getElem?_eq_some_iff.1 hk).1
  obtain ⟨o,f,h1,h2,h3,h4⟩:=hob k _ (List.getElem?_eq_getElem hlt)
  rw [hk] at h2; cases h2
  exact ⟨_,o,f,List.getElem?_eq_getElem hlt,h1,h3,rfl,h4⟩
 have hI : ∀ b,I b → Ic I γ bs b:=fun b h=>.inl h
 have hblk : ∀ n o gi,g n = some o → o.md ≠ .dead → γ n = some gi → gi.nil = false → gi.blk < w.heap.size:=by
  intro n o gi h1 h2 h3 h4
  obtain ⟨cur,fr,ha⟩:=hi.at_own h1 h2 h3 h4
  exact (Array.getElem?_eq_some_iff.1 ha.heap).1
 refine ⟨fun k o hk hm=>?_,?_,?_,?_,?_,fun b hb=>hb,fun n gi h=>h,fun b hb=>.inl hb,fun b _ _=>rfl,rfl,rfl,rfl,Nat.le_refl _,?_⟩
 rotate_right
 ·have notIc : ∀ x i j u b,TCell g x i j u → F x i j b → ¬ Ic I γ bs b:=by
   rintro x i j u b hu hf (hb | ⟨n',gi',b1,b2,b3,b4⟩)
   ·exact (hF.fr _ _ _ _ _ hu hf).2.1 hb
   ·obtain ⟨o',a1,a2⟩:=halive n' b1
    exact hF.nm _ _ _ _ _ hu hf n' o' gi' a1 a2 b2 b3 b4
  have tc : ∀ k i j u,TCell (fun n=>os[n]?) k i j u → ∃ x,refs[k]? = some x ∧ TCell g x i j u:=by
   rintro k i j u ⟨o',h1,h2,h3,h4⟩
   obtain ⟨n,o,f,k1,k2,k3,rfl,_⟩:=look k o' h1
   exact ⟨n,k1,o,k2,by rw [k3]; decide,zgs h3 h4,h4⟩
  refine ⟨fun k i j b=>∃ x,refs[k]? = some x ∧ F x i j b,fun k i j u hu gi cur et fr h1 h2 h3=>?_,?_,?_,?_⟩
  ·obtain ⟨x,k1,k2⟩:=tc k i j u hu
   simp only [k1,Option.bind_some] at h1
   obtain ⟨y,y1,y2⟩:=hF.at_ x i j u k2 gi cur et fr h1 h2 h3
   exact ⟨y,y1,y2.mono (Nat.le_refl _) (fun b hb=>⟨hI b hb,rfl⟩) (fun b hb=>⟨x,k1,hb⟩) fun b hb=>⟨rfl,fun h=>absurd h (notIc x i j u b k2 hb)⟩⟩
  ·rintro k i j u b hu ⟨x,k1,hf⟩
   obtain ⟨x',k1',k2⟩:=tc k i j u hu
   rw [k1] at k1'; cases k1'
   exact ⟨(hF.fr _ _ _ _ _ k2 hf).1,notIc x i j u b k2 hf,Or.inr (show wrOf γ g F refs os.length b from .inr ⟨k,x,i,j,u,k1,k2,hf⟩)⟩
  ·rintro k i j u b hu ⟨x,k1,hf⟩ m o gi h1 h2 h3 h4
   obtain ⟨x',k1',k2⟩:=tc k i j u hu
   rw [k1] at k1'; cases k1'
   obtain ⟨y,o0,f,l1,l2,l3,rfl,_⟩:=look m o h1
   simp only [l1,Option.bind_some] at h3
   exact hF.nm _ _ _ _ _ k2 hf y o0 gi l2 (by rw [l3]; decide) h3 h4
  ·rintro k i j u k' i' j' u' b hu hu' ⟨x,k1,hf⟩ ⟨x',k1',hf'⟩
   obtain ⟨y,l1,l2⟩:=tc k i j u hu
   rw [k1] at l1; cases l1
   obtain ⟨y',l1',l2'⟩:=tc k' i' j' u' hu'
   rw [k1'] at l1'; cases l1'
   obtain ⟨e1,e2,e3⟩:=hF.dj _ _ _ _ _ _ _ _ b l2 l2' hf hf'
   subst e1
   exact ⟨zjY hnd k1 k1',e2,e3⟩
 ·obtain ⟨n,o0,f,h1,h2,h3,rfl,h4⟩:=look k o hk
  have hm0 : o0.md ≠ .dead:=by rw [h3]; decide
  have ho:=hi.obj n o0 h2 hm0
  refine ho.via (fun gi q=>by simp [h1,q]) (fun i j u x hu hx=>(h4 i j u x hu hx).wider hI) (fun gi _ hro=>by rw [h3] at hro; cases hro) fun gi q1 hnn hrw hb hb'=>?_
  rcases hb' with hb' | ⟨n',gi',b1,b2,b3,b4⟩
  ·exact hb hb'
  ·obtain ⟨o',a1,a2⟩:=halive n' b1
   have:=hi.inj n' n o' o0 gi' gi a1 h2 a2 hm0 b2 q1 b3 hnn b4
   subst this
   exact hd _ b1 (List.mem_of_getElem? h1)
 ·intro a b o o' gi gi' h1 h2 d1 d2 g1 g2 n1 n2 hb
  obtain ⟨x,ox,fx,x1,x2,x3,rfl,_⟩:=look a o h1
  obtain ⟨y,oy,fy,y1,y2,y3,rfl,_⟩:=look b o' h2
  simp only [x1,Option.bind_some] at g1
  simp only [y1,Option.bind_some] at g2
  have:=hi.inj x y ox oy gi gi' x2 y2 (by rw [x3]; decide) (by rw [y3]; decide) g1 g2 n1 n2 hb
  subst this
  exact zjY hnd x1 y1
 ·intro n o gi h1 _ h3 h4
  exact Or.inr (show wrOf γ g F refs os.length gi.blk from .inl ⟨n,gi,(List.getElem?_eq_some_iff.1 h1).1,h3,h4,rfl⟩)
 ·intro n gi h1
  cases hn : refs[n]? with
  | none=>rw [hn] at h1; cases h1
  | some x =>
   obtain ⟨o,f,_,h2,_⟩:=hob n x hn
   rw [h2]; simp
 ·intro b hb
  rcases hb with hb | ⟨n,gi,b1,b2,b3,b4⟩
  ·exact hi.lt b hb
  ·obtain ⟨o,a1,a2⟩:=halive n b1
   rw [← b4]; exact hblk n o gi a1 a2 b2 b3
theorem zcJ {k n : Nat} (h : refs[k]? = some n) : zau refs nm k = n:=by simp [zau,h]
theorem zdh {j : Nat} : zau refs nm (refs.length + j) = nm + j:=by
 simp [zau]
theorem zho (k n : Nat) : ∀ x gi,γ x = some gi → zcU γ γ' nm k n x = some gi:=by
 intro x gi h
 simp [zcU,h]
theorem zeS {n : Nat} (hx : ∀ k x gi,refs[k]? = some x → γ' k = some gi → γ x = some gi) (hn : ∀ j,j < n → γ (nm + j) = none) (hd : ∀ k gi,γ' k = some gi → k < refs.length + n) :
 ∀ k gi,γ' k = some gi → zcU γ γ' nm refs.length n (zau refs nm k) = some gi:=by
 intro k gi hk
 by_cases hlt : k < refs.length
 ·have hr:=List.getElem?_eq_getElem hlt
  rw [zcJ hr]
  exact zho _ _ _ _ (hx k _ gi hr hk)
 ·have hk':=hd k gi hk
  obtain ⟨j,rfl⟩ : ∃ j,k = refs.length + j:=⟨k - refs.length,by omega⟩
  rw [zdh]
  have hj : j < n:=by omega
  simp only [zcU,hn j hj]
  rw [if_pos ⟨by omega,by omega⟩,show refs.length + (nm + j - nm) = refs.length + j by omega]
  exact hk
theorem zd4 (hi : Inv w0 ex I γ g w) {F : Nat → Nat → Nat → Nat → Prop} (hF : Trees w0 ex I γ g w F) (hr : Handed w I γ g refs os) (hd : ∀ n ∈ bs,n ∉ refs) (halive : ∀ n ∈ bs,∃ o,g n = some o ∧ o.md ≠ .dead)
 (hL : Leave w (Ic I γ bs) (fun k=>(refs[k]?).bind γ) (wrOf γ g F refs os.length) r w' I' γ' v) (hrl : refs.length ≤ r.objs.length) (hfr : ∀ j,j < (r.objs.drop refs.length).length → g (nm + j) = none)
 (I'' : Nat → Prop) (fz : List (Nat × AObj))
 (hI1 : ∀ b,I b → I'' b) (hI2 : ∀ b,I'' b → I' b)
 (hI3 : ∀ b,I' b → (w.heap.size ≤ b ∨ wrOf γ g F refs os.length b) → I'' b)
 (hsc : (∀ o ∈ r.objs,zbu o = true) ∨ ∀ b,I' b → I'' b)
 (hfz : (fz = [] ∧ (bs = [] ∨ ∀ b,I'' b → I b ∨ w.heap.size ≤ b ∨ wrOf γ g F refs os.length b)) ∨ (fz = freeze g bs ∧ ∀ b,I' b → I'' b)) :
 Inv w0 ex I'' (zcU γ γ' nm refs.length (r.objs.drop refs.length).length)
  (zas g (refs.zip (zbg (zau refs nm) (r.objs.take refs.length)) ++ numbered nm (zau refs nm) 0 (r.objs.drop refs.length) ++ fz)) w' ∧
 Ext I γ w I'' (zcU γ γ' nm refs.length (r.objs.drop refs.length).length) w':=by
 obtain ⟨hlen,hob0⟩:=hr
 have hob : ∀ (k : Nat) (n : Nat),refs[k]? = some n → ∃ o,os[k]? ≠ none ∧ g n = some o ∧ o.md = .rw ∧ True:=fun k n hk=>by
  obtain ⟨o,f,h1,h2,h3,_⟩:=hob0 k n hk
  exact ⟨o,by rw [h2]; simp,h1,h3,trivial⟩
 have hext : Ext I γ w I'' (zcU γ γ' nm refs.length (r.objs.drop refs.length).length) w' :=
  ⟨fun b hb=>⟨hI1 b hb,(hL.ext.imm b (.inl hb)).2⟩,zho _ _⟩
 have hγn : ∀ j,j < (r.objs.drop refs.length).length → γ (nm + j) = none:=by
  intro j hj
  cases hx : γ (nm + j) with
  | none=>rfl
  | some x=>exact absurd (hfr j hj) (hi.dom _ x hx)
 have hrefγ : ∀ (k x : Nat),refs[k]? = some x → ∃ gi,γ x = some gi ∧ γ' k = some gi:=by
  intro k x hk
  obtain ⟨o,o1,o2,o3,o4⟩:=hob k x hk
  have : ∃ gi,γ x = some gi:=by
   rcases (hi.obj x o o2 (by rw [o3]; decide)).at_ with ⟨_,gi,q,_⟩ | ⟨gi,_,_,q,_⟩ <;> exact ⟨gi,q⟩
  obtain ⟨gi,hg⟩:=this
  exact ⟨gi,hg,hL.ext.nam k gi (by simp [hk,hg])⟩
 have hnames:=zeS (γ:=γ) (γ':=γ') (nm:=nm) (refs:=refs) (n:=(r.objs.drop refs.length).length) (fun k x gi hk hx=>by
  obtain ⟨gi',h1,h2⟩:=hrefγ k x hk
  rw [hx] at h2; cases h2; exact h1) hγn (fun k gi hk=>by
  have:=hL.inv.dom k gi hk
  rw [List.length_drop]
  have hlt : k < r.objs.length:=by
   rcases Nat.lt_or_ge k r.objs.length with h | h
   ·exact h
   ·exact absurd (List.getElem?_eq_none h) this
  omega)
 have hzip : ∀ (x : Nat) (o : AObj),(x,o) ∈ refs.zip (zbg (zau refs nm) (r.objs.take refs.length)) → ∃ (k : Nat) (o' : AObj),refs[k]? = some x ∧ r.objs[k]? = some o' ∧ o = o'.ren (zau refs nm):=by
  intro x o hm
  obtain ⟨k,hk,hkv⟩:=List.mem_iff_getElem.1 hm
  rw [List.getElem_zip] at hkv
  simp only [Prod.mk.injEq] at hkv
  have hk':=hk
  simp only [List.length_zip,zeu,List.length_take] at hk'
  have hv : (zbg (zau refs nm) (r.objs.take refs.length))[k]? = some o:=by rw [List.getElem?_eq_getElem (by rw [zeu,List.length_take]; omega),hkv.2]
  rw [zj8,List.getElem?_take,if_pos (by omega)] at hv
  cases hx : r.objs[k]? with
  | none=>rw [hx] at hv; cases hv
  | some o' =>
   rw [hx] at hv; cases hv
   exact ⟨k,o',by rw [← hkv.1]; exact List.getElem?_eq_getElem (by omega),hx,rfl⟩
 have hgref : ∀ (k x : Nat),refs[k]? = some x → g x ≠ none:=fun k x hk=>by
  obtain ⟨o,_,h2,_⟩:=hob k x hk; rw [h2]; simp
 have hfzm : ∀ x o,(x,o) ∈ fz → x ∈ bs ∧ fz = freeze g bs ∧ ∃ o0,g x = some o0 ∧ o = { o0 with md:=.ro }:=by
  intro x o hm
  rcases hfz with ⟨rfl,_⟩ | ⟨rfl,_⟩
  ·cases hm
  ·obtain ⟨h1,h2⟩:=zd2 hm; exact ⟨h1,rfl,h2⟩
 generalize hG : zas g (refs.zip (zbg (zau refs nm) (r.objs.take refs.length)) ++ numbered nm (zau refs nm) 0 (r.objs.drop refs.length) ++ fz) = G
 have look : ∀ x o,G x = some o → (∃ (k : Nat) (o' : AObj),r.objs[k]? = some o' ∧ x = zau refs nm k ∧ o = o'.ren (zau refs nm)) ∨
  (x ∉ refs ∧ (∀ j,j < (r.objs.drop refs.length).length → x ≠ nm + j) ∧ ∃ o0,g x = some o0 ∧ ((o = o0 ∧ (fz = freeze g bs → x ∉ bs)) ∨ (o = { o0 with md:=.ro } ∧ x ∈ bs ∧ fz = freeze g bs))):=by
  intro x o hx
  rw [← hG] at hx
  rcases zcy (refs.zip (zbg (zau refs nm) (r.objs.take refs.length)) ++ numbered nm (zau refs nm) 0 (r.objs.drop refs.length) ++ fz) g x with ⟨o',h1,h2⟩ | ⟨h1,h2⟩
  ·rw [hx] at h2; cases h2
   rcases List.mem_append.1 h1 with h1 | h1
   ·rcases List.mem_append.1 h1 with h1 | h1
    ·obtain ⟨k,o',k1,k2,k3⟩:=hzip x o h1
     exact .inl ⟨k,o',k2,(zcJ k1).symm,k3⟩
    ·obtain ⟨i,o',i1,i2,i3⟩:=zh1 h1
     refine .inl ⟨refs.length + i,o',by rw [List.getElem?_drop] at i1; exact i1,?_,i3⟩
     rw [zdh,i2,Nat.zero_add]
   ·obtain ⟨q1,q2,o0,q3,q4⟩:=hfzm x o h1
    refine .inr ⟨hd x q1,fun j hj e=>?_,o0,q3,.inr ⟨q4,q1,q2⟩⟩
    rw [e,hfr j hj] at q3; cases q3
  ·rw [hx] at h2
   refine .inr ⟨fun hm=>?_,fun j hj e=>?_,o,h2.symm,.inl ⟨rfl,fun hz hm=>?_⟩⟩
   ·obtain ⟨k,hk,hkv⟩:=List.mem_iff_getElem.1 hm
    have hk' : k < (zbg (zau refs nm) (r.objs.take refs.length)).length:=by rw [zeu,List.length_take]; omega
    refine h1 (zbg (zau refs nm) (r.objs.take refs.length))[k] (List.mem_append_left _ (List.mem_append_left _ ?_))
    rw [← hkv,← List.getElem_zip (h:=by rw [List.length_zip]; omega)]
    exact List.getElem_mem _
   ·rw [e,hfr j hj] at h2; cases h2
   ·exact h1 _ (List.mem_append_right _ (by rw [hz]; exact zd5 hm h2.symm))
 have some_of : ∀ x,G x = none → g x = none ∧ ∀ j,j < (r.objs.drop refs.length).length → x ≠ nm + j:=by
  intro x hx
  rw [← hG] at hx
  rcases zcy (refs.zip (zbg (zau refs nm) (r.objs.take refs.length)) ++ numbered nm (zau refs nm) 0 (r.objs.drop refs.length) ++ fz) g x with ⟨o',h1,h2⟩ | ⟨h1,h2⟩
  ·rw [hx] at h2; cases h2
  ·refine ⟨by rw [← h2]; exact hx,fun j hj e=>?_⟩
   have:=zhX (nm:=nm) (f:=zau refs nm) (j:=0) (List.getElem?_eq_getElem hj)
   rw [Nat.zero_add,← e] at this
   exact h1 _ (List.mem_append_left _ (List.mem_append_right _ this))
 have outγ : ∀ x gi,(∀ j,j < (r.objs.drop refs.length).length → x ≠ nm + j) → zcU γ γ' nm refs.length (r.objs.drop refs.length).length x = some gi → γ x = some gi:=by
  intro x gi hx h
  unfold zcU at h
  cases hγ : γ x with
  | some y=>rw [hγ] at h; exact h
  | none =>
   rw [hγ] at h
   simp only at h
   split at h
   ·rename_i hr'; exact absurd (by omega : x = nm + (x - nm)) (hx (x - nm) (by omega))
   ·cases h
 have knownγ : ∀ (k : Nat) (o' : AObj),r.objs[k]? = some o' → o'.md ≠ .dead → ∃ gi,γ' k = some gi ∧ zcU γ γ' nm refs.length (r.objs.drop refs.length).length (zau refs nm k) = some gi:=by
  intro k o' hk hm
  have : ∃ gi,γ' k = some gi:=by
   rcases (hL.inv.obj k o' hk hm).at_ with ⟨_,gi,q,_⟩ | ⟨gi,_,_,q,_⟩ <;> exact ⟨gi,q⟩
  obtain ⟨gi,h⟩:=this
  exact ⟨gi,h,hnames k gi h⟩
 have outblk : ∀ x o0 gi,x ∉ refs → g x = some o0 → o0.md ≠ .dead → γ x = some gi → gi.nil = false → gi.blk < w.heap.size ∧ ¬ wrOf γ g F refs os.length gi.blk:=by
  intro x o0 gi h1 h2 h3 h4 h5
  obtain ⟨cur,fr,ha⟩:=hi.at_own h2 h3 h4 h5
  refine ⟨(Array.getElem?_eq_some_iff.1 ha.heap).1,fun hw=>?_⟩
  rcases hw with ⟨k,gi',k1,k2,k3,k4⟩ | ⟨q,y,i,j,u,q1,q2,q3⟩
  rotate_left
  ·exact hF.nm _ _ _ _ _ q2 q3 x o0 gi h2 h3 h4 h5 rfl
  replace k2 : (refs[k]?).bind γ = some gi':=k2
  cases hk : refs[k]? with
  | none=>rw [hk] at k2; cases k2
  | some y =>
   rw [hk] at k2
   obtain ⟨o,_,o2,o3,_⟩:=hob k y hk
   have:=hi.inj y x o o0 gi' gi o2 h2 (by rw [o3]; decide) h3 k2 h4 k3 h5 k4
   subst this
   exact h1 (List.mem_of_getElem? hk)
 have hback : ∀ b,I' b → Ic I γ bs b ∨ w.heap.size ≤ b ∨ wrOf γ g F refs os.length b:=hL.inv.back
 have exown : ∀ b,wrOf γ g F refs os.length b → w0.heap.size ≤ b ∨ ex.wr b:=by
  rintro b (⟨k,gi',k1,k2,k3,rfl⟩ | ⟨q,y,i,j,u,q1,q2,q3⟩)
  rotate_left
  ·exact (hF.fr _ _ _ _ _ q2 q3).2.2
  replace k2 : (refs[k]?).bind γ = some gi':=k2
  cases hk : refs[k]? with
  | none=>rw [hk] at k2; cases k2
  | some y =>
   rw [hk] at k2
   obtain ⟨o,_,o2,o3,_⟩:=hob k y hk
   exact hi.own y o gi' o2 (by rw [o3]; decide) k2 k3
 refine ⟨⟨fun x o hx hm=>?_,?_,?_,?_,fun b hb=>hL.inv.lt b (hI2 b hb),fun b hb=>hI1 b (hi.keep b hb),fun n gi h=>zho _ _ n gi (hi.fix n gi h),fun b hb=>?_,fun b hb hx=>?_,hL.inv.os.trans hi.os,hL.inv.tape.trans hi.tape,hL.inv.output.trans hi.output,Nat.le_trans hi.size hL.inv.size,?_⟩,hext⟩
 rotate_right
 ·obtain ⟨F',hF'⟩:=hL.inv.trees
  have tc : ∀ y i j u,TCell G y i j u → (∃ k,y = zau refs nm k ∧ TCell (fun n=>r.objs[n]?) k i j u) ∨ ((y ∉ refs ∧ ∀ j,j < (r.objs.drop refs.length).length → y ≠ nm + j) ∧ TCell g y i j u):=by
   rintro y i j u ⟨o,h1,h2,h3,h4⟩
   rcases look y o h1 with ⟨k,o',k1,rfl,rfl⟩ | ⟨p1,p2,o0,p3,p4⟩
   ·rw [AObj.ren_md] at h2
    exact .inl ⟨k,rfl,o',k1,h2,zgs h3 h4,h4⟩
   ·refine .inr ⟨⟨p1,p2⟩,o0,p3,?_,?_,h4⟩
    ·rcases p4 with ⟨rfl,_⟩ | ⟨rfl,hb,_⟩
     ·exact h2
     ·obtain ⟨o1,a1,a2⟩:=halive y hb
      rw [p3] at a1; cases a1; exact a2
    ·rcases p4 with ⟨rfl,_⟩ | ⟨rfl,hb,_⟩ <;> exact h3
  have apart : ∀ y i j u b,y ∉ refs → TCell g y i j u → F y i j b → b < w.heap.size ∧ ¬ wrOf γ g F refs os.length b ∧ ¬ I' b:=by
   intro y i j u b hy hu hf
   have hlt:=(hF.fr _ _ _ _ _ hu hf).1
   have hnw : ¬ wrOf γ g F refs os.length b:=by
    rintro (⟨k,gi',k1,k2,k3,k4⟩ | ⟨q,x,i',j',u',q1,q2,q3⟩)
    ·replace k2 : (refs[k]?).bind γ = some gi':=k2
     cases hk : refs[k]? with
     | none=>rw [hk] at k2; cases k2
     | some x =>
      rw [hk] at k2
      obtain ⟨o,_,o2,o3,_⟩:=hob k x hk
      exact hF.nm _ _ _ _ _ hu hf x o gi' o2 (by rw [o3]; decide) k2 k3 k4
    ·have:=(hF.dj _ _ _ _ _ _ _ _ b hu q2 hf q3).1
     subst this
     exact hy (List.mem_of_getElem? q1)
   refine ⟨hlt,hnw,fun hb=>?_⟩
   rcases hback b hb with h | h | h
   ·rcases h with h | ⟨n,gi,b1,b2,b3,b4⟩
    ·exact (hF.fr _ _ _ _ _ hu hf).2.1 h
    ·obtain ⟨o,a1,a2⟩:=halive n b1
     exact hF.nm _ _ _ _ _ hu hf n o gi a1 a2 b2 b3 b4
   ·omega
   ·exact hnw h
  have outer : ∀ z o gi,z ∉ refs → (∀ j,j < (r.objs.drop refs.length).length → z ≠ nm + j) → G z = some o → o.md ≠ .dead → zcU γ γ' nm refs.length (r.objs.drop refs.length).length z = some gi → gi.nil = false → ∃ o0,g z = some o0 ∧ o0.md ≠ .dead ∧ γ z = some gi:=by
   intro z o gi h1 h2 h3 h4 h5 h6
   rcases look z o h3 with ⟨k,o',k1,rfl,rfl⟩ | ⟨p1,p2,o0,p3,p4⟩
   ·exfalso
    by_cases hlt : k < refs.length
    ·rw [zcJ (List.getElem?_eq_getElem hlt)] at h1
     exact h1 (List.getElem_mem hlt)
    ·obtain ⟨j,rfl⟩ : ∃ j,k = refs.length + j:=⟨k - refs.length,by omega⟩
     have:=(List.getElem?_eq_some_iff.1 k1).1
     exact h2 j (by rw [List.length_drop]; omega) zdh
   ·refine ⟨o0,p3,?_,outγ z gi p2 h5⟩
    rcases p4 with ⟨rfl,_⟩ | ⟨rfl,hb,_⟩
    ·exact h4
    ·obtain ⟨o1,a1,a2⟩:=halive z hb
     rw [p3] at a1; cases a1; exact a2
  have isold : ∀ k (o' : AObj),r.objs[k]? = some o' → ¬ (zau refs nm k ∉ refs ∧ ∀ j,j < (r.objs.drop refs.length).length → zau refs nm k ≠ nm + j):=by
   rintro k o' k1 ⟨h1,h2⟩
   by_cases hlt : k < refs.length
   ·rw [zcJ (List.getElem?_eq_getElem hlt)] at h1
    exact h1 (List.getElem_mem hlt)
   ·obtain ⟨j,rfl⟩ : ∃ j,k = refs.length + j:=⟨k - refs.length,by omega⟩
    have:=(List.getElem?_eq_some_iff.1 k1).1
    exact h2 j (by rw [List.length_drop]; omega) zdh
  refine ⟨fun y i j b=>(∃ k u,y = zau refs nm k ∧ TCell (fun n=>r.objs[n]?) k i j u ∧ F' k i j b) ∨ ((y ∉ refs ∧ ∀ j,j < (r.objs.drop refs.length).length → y ≠ nm + j) ∧ F y i j b),fun y i j u hu gi cur et fr h1 h2 h3=>?_,fun y i j u b hu hf=>?_,fun y i j u b hu hf m o gi h1 h2 h3 h4=>?_,fun y i j u y2 i2 j2 u2 b hu hu2 hf hf2=>?_⟩
  ·rcases tc y i j u hu with ⟨k,rfl,k1⟩ | ⟨hy,k1⟩
   ·obtain ⟨o',l1,l2,l3,l4⟩:=k1
    obtain ⟨gi',q1,q2⟩:=knownγ k o' l1 l2
    rw [h1] at q2; cases q2
    obtain ⟨x,x1,x2⟩:=hF'.at_ k i j u ⟨o',l1,l2,l3,l4⟩ gi cur et fr q1 h2 h3
    refine ⟨x,x1,?_⟩
    have x3 : TreeAt w' I'' u x (F' k i j):=by
     rcases hsc with hsc | hsc
     ·exact x2.scal hI2 3 (zof (hsc o' (List.mem_of_getElem? l1)) (hL.inv.obj k o' l1 l2) i j u l3 l4)
     ·exact x2.mono (Nat.le_refl _) (fun b hb=>⟨hsc b hb,rfl⟩) (fun _ h=>h) fun b _=>⟨rfl,hI2 b⟩
    exact x3.mono (Nat.le_refl _) (fun b hb=>⟨hb,rfl⟩) (fun b hb=>.inl ⟨k,u,rfl,⟨o',l1,l2,l3,l4⟩,hb⟩) fun b _=>⟨rfl,id⟩
   ·have hγ:=outγ y gi hy.2 h1
    obtain ⟨o0,l1,l2,l3,l4⟩:=k1
    obtain ⟨b1,b2⟩:=outblk y o0 gi hy.1 l1 l2 hγ h2
    rw [hL.inv.frame _ b1 b2] at h3
    obtain ⟨x,x1,x2⟩:=hF.at_ y i j u ⟨o0,l1,l2,l3,l4⟩ gi cur et fr hγ h2 h3
    refine ⟨x,x1,x2.mono hL.inv.size (fun b hb=>hext.imm b hb) (fun b hb=>.inr ⟨hy,hb⟩) fun b hb=>?_⟩
    obtain ⟨a1,a2,a3⟩:=apart y i j u b hy.1 ⟨o0,l1,l2,l3,l4⟩ hb
    exact ⟨hL.inv.frame _ a1 a2,fun h=>absurd (hI2 _ h) a3⟩
  ·rcases hf with ⟨k,u',rfl,k1,hf⟩ | ⟨hy,hf⟩
   ·obtain ⟨q1,q2,q3⟩:=hF'.fr _ _ _ _ _ k1 hf
    refine ⟨q1,fun h=>q2 (hI2 _ h),?_⟩
    rcases q3 with h | h
    ·exact .inl (Nat.le_trans hi.size h)
    ·exact exown _ h
   ·rcases tc y i j u hu with ⟨k,rfl,o',l1,_⟩ | ⟨_,k1⟩
    ·exact absurd hy (isold k o' l1)
    ·obtain ⟨a1,a2,a3⟩:=apart y i j u b hy.1 k1 hf
     exact ⟨Nat.lt_of_lt_of_le a1 hL.inv.size,fun h=>a3 (hI2 _ h),(hF.fr _ _ _ _ _ k1 hf).2.2⟩
  ·rcases hf with ⟨k,u',rfl,k1,hf⟩ | ⟨hy,hf⟩
   ·rcases look m o h1 with ⟨l,o',l1,rfl,rfl⟩ | ⟨p1,p2,o0,p3,p4⟩
    ·rw [AObj.ren_md] at h2
     obtain ⟨gi',q1,q2⟩:=knownγ l o' l1 h2
     rw [h3] at q2; cases q2
     exact hF'.nm _ _ _ _ _ k1 hf l o' gi l1 h2 q1 h4
    ·obtain ⟨o1,a1,a2,a3⟩:=outer m o gi p1 p2 h1 h2 h3 h4
     obtain ⟨b1,b2⟩:=outblk m o1 gi p1 a1 a2 a3 h4
     intro e
     subst e
     rcases (hF'.fr _ _ _ _ _ k1 hf).2.2 with h | h
     ·replace h : w.heap.size ≤ gi.blk:=h
      omega
     ·exact b2 h
   ·rcases tc y i j u hu with ⟨k,rfl,o',l1,_⟩ | ⟨_,k1⟩
    ·exact absurd hy (isold k o' l1)
    ·rcases look m o h1 with ⟨l,o',l1,rfl,rfl⟩ | ⟨p1,p2,o0,p3,p4⟩
     ·rw [AObj.ren_md] at h2
      obtain ⟨gi',q1,q2⟩:=knownγ l o' l1 h2
      rw [h3] at q2; cases q2
      obtain ⟨a1,a2,a3⟩:=apart y i j u b hy.1 k1 hf
      intro e
      subst e
      rcases hL.inv.own l o' gi l1 h2 q1 h4 with h | h
      ·omega
      ·exact a2 h
     ·obtain ⟨o1,c1,c2,c3⟩:=outer m o gi p1 p2 h1 h2 h3 h4
      exact hF.nm _ _ _ _ _ k1 hf m o1 gi c1 c2 c3 h4
  ·have two : ∀ k i j u y i' j' u',TCell (fun n=>r.objs[n]?) k i j u → F' k i j b → (y ∉ refs ∧ ∀ j,j < (r.objs.drop refs.length).length → y ≠ nm + j) → TCell G y i' j' u' → F y i' j' b → False:=by
    intro k i j u y i' j' u' k1 k2 hy hv hf
    rcases tc y i' j' u' hv with ⟨l,rfl,o',l1,_⟩ | ⟨_,l1⟩
    ·exact isold l o' l1 hy
    ·obtain ⟨a1,a2,a3⟩:=apart y i' j' u' b hy.1 l1 hf
     rcases (hF'.fr _ _ _ _ _ k1 k2).2.2 with h | h
     ·replace h : w.heap.size ≤ b:=h
      omega
     ·exact a2 h
   rcases hf with ⟨k,u',rfl,k1,hf⟩ | ⟨hy,hf⟩ <;> rcases hf2 with ⟨k2,u2',rfl,l1,hf2⟩ | ⟨hy2,hf2⟩
   ·obtain ⟨e1,e2,e3⟩:=hF'.dj _ _ _ _ _ _ _ _ b k1 l1 hf hf2
    rw [e1]; exact ⟨rfl,e2,e3⟩
   ·exact (two _ _ _ _ _ _ _ _ k1 hf hy2 hu2 hf2).elim
   ·exact (two _ _ _ _ _ _ _ _ l1 hf2 hy hu hf).elim
   ·rcases tc y i j u hu with ⟨k,rfl,o',k1,_⟩ | ⟨_,k1⟩
    ·exact absurd hy (isold k o' k1)
    ·rcases tc y2 i2 j2 u2 hu2 with ⟨k,rfl,o',l1,_⟩ | ⟨_,l1⟩
     ·exact absurd hy2 (isold k o' l1)
     ·exact hF.dj _ _ _ _ _ _ _ _ b k1 l1 hf hf2
 ·rcases look x o hx with ⟨k,o',h1,rfl,rfl⟩ | ⟨h1,h2,o0,h3,h4⟩
  ·rw [AObj.ren_md] at hm
   have hk:=(hL.inv.obj k o' h1 hm).ren (f:=zau refs nm) hnames
   refine ⟨hk.rows,hk.cel,hk.closed,hk.scalar,?_⟩
   rcases hk.at_ with h | ⟨gi,cur,fr,hγ,ha⟩
   ·exact .inl h
   ·refine .inr ⟨gi,cur,fr,hγ,⟨ha.nn,ha.es,ha.heap,ha.frz,ha.size,ha.le,ha.tight,ha.max,fun i j u hu=>?_,fun hro=>?_,fun hrw hb=>ha.rw hrw (hI2 _ hb)⟩⟩
    ·obtain ⟨y,y1,y2⟩:=ha.cells _ _ _ hu
     refine ⟨y,y1,?_⟩
     rcases hsc with hsc | hsc
     ·have hu' : ∃ u0,zah o'.elems i j = some u0 ∧ u = u0.ren (zau refs nm) ∨ (zah o'.elems i j = some u):=by
       unfold AObj.ren at hu
       split at hu
       ·obtain ⟨u0,q1,q2⟩:=zdk hu; exact ⟨u0,.inl ⟨q1,q2⟩⟩
       ·exact ⟨u,.inr hu⟩
      have hsu : u.scalar = true:=by
       obtain ⟨u0,⟨q1,rfl⟩ | q1⟩:=hu'
       ·rw [zsB]; exact zh7 (hsc o' (List.mem_of_getElem? h1)) (hL.inv.obj k o' h1 hm) i j u0 q1
       ·exact zh7 (hsc o' (List.mem_of_getElem? h1)) (hL.inv.obj k o' h1 hm) i j u q1
      exact y2.scalar hsu _ _
     ·exact y2.wider hsc
    ·obtain ⟨gi',q1,q2⟩:=knownγ k o' h1 hm
     rw [hγ] at q2; cases q2
     exact hI3 _ (ha.ro hro) (hL.inv.own k o' gi h1 hm q1 ha.nn)
  ·have hm0 : o0.md ≠ .dead:=by
    rcases h4 with ⟨rfl,_⟩ | ⟨rfl,hb,_⟩
    ·exact hm
    ·obtain ⟨o1,a1,a2⟩:=halive x hb
     rw [h3] at a1; cases a1; exact a2
   have hk:=hi.obj x o0 h3 hm0
   have hat : (o0.elems = [] ∧ ∃ gi,zcU γ γ' nm refs.length (r.objs.drop refs.length).length x = some gi ∧ gi.nil = true) ∨ ∃ gi cur fr,zcU γ γ' nm refs.length (r.objs.drop refs.length).length x = some gi ∧ ObjAt w' I'' (zcU γ γ' nm refs.length (r.objs.drop refs.length).length) o gi cur fr:=by
    rcases hk.at_ with ⟨he,gi,q1,q2⟩ | ⟨gi,cur,fr,q1,ha⟩
    ·exact .inl ⟨he,gi,hext.nam _ _ q1,q2⟩
    ·obtain ⟨b1,b2⟩:=outblk x o0 gi h1 h3 hm0 q1 ha.nn
     have hheap : w'.heap[gi.blk]? = w.heap[gi.blk]?:=hL.inv.frame _ b1 b2
     refine .inr ⟨gi,cur,fr,hext.nam _ _ q1,?_⟩
     rcases h4 with ⟨rfl,hnb⟩ | ⟨rfl,hb,hz⟩
     ·refine ha.ext hext hheap fun hrw hb=>?_
      have hcase : I gi.blk ∨ w.heap.size ≤ gi.blk ∨ wrOf γ g F refs os.length gi.blk:=by
       rcases hfz with ⟨hz,hor⟩ | ⟨hz,_⟩
       ·rcases hor with hor | hor
        ·rcases hback _ (hI2 _ hb) with h | h
         ·rcases h with h | ⟨n,_,hn,_⟩
          ·exact .inl h
          ·rw [hor] at hn; cases hn
         ·exact .inr h
        ·exact hor _ hb
       ·rcases hback _ (hI2 _ hb) with h | h
        ·rcases h with h | ⟨n,gi',hn,n1,n2,n3⟩
         ·exact .inl h
         ·obtain ⟨o1,a1,a2⟩:=halive n hn
          have:=hi.inj n x o1 o gi' gi a1 h3 a2 hm0 n1 q1 n2 ha.nn n3
          subst this
          exact absurd hn (hnb hz)
        ·exact .inr h
      rcases hcase with h | h | h
      ·exact ha.rw hrw h
      ·omega
      ·exact b2 h
     ·refine ⟨ha.nn,ha.es,hheap.trans ha.heap,ha.frz,ha.size,ha.le,ha.tight,ha.max,fun i j u hu=>?_,fun _=>?_,fun h=>by cases h⟩
      ·obtain ⟨y,y1,y2⟩:=ha.cells i j u hu
       exact ⟨y,y1,hext.rd y2⟩
      ·have hII : ∀ b,I' b → I'' b:=by
        rcases hfz with ⟨hz',hor⟩ | ⟨_,h⟩
        ·exfalso
         have:=zd5 hb h3
         rw [← hz,hz'] at this; cases this
        ·exact h
       exact hII _ (hL.ext.imm _ (.inr ⟨x,gi,hb,q1,ha.nn,rfl⟩)).1
   rcases h4 with ⟨rfl,_⟩ | ⟨rfl,_,_⟩
   ·exact ⟨hk.rows,hk.cel,hk.closed,hk.scalar,hat⟩
   ·exact ⟨hk.rows,hk.cel,hk.closed,hk.scalar,hat⟩
 ·intro x y o1 o2 gi1 gi2 h1 h2 d1 d2 g1 g2 n1 n2 hb
  have known : ∀ (k : Nat) (o' : AObj),r.objs[k]? = some o' → (o'.ren (zau refs nm)).md ≠ .dead → ∀ gi,zcU γ γ' nm refs.length (r.objs.drop refs.length).length (zau refs nm k) = some gi → gi.nil = false → γ' k = some gi ∧ (w.heap.size ≤ gi.blk ∨ wrOf γ g F refs os.length gi.blk):=by
   intro k o' hk hm gi hgi hnn
   rw [AObj.ren_md] at hm
   obtain ⟨gi',q1,q2⟩:=knownγ k o' hk hm
   rw [hgi] at q2; cases q2
   exact ⟨q1,hL.inv.own k o' gi hk hm q1 hnn⟩
  have out : ∀ z o o0 gi,z ∉ refs → (∀ j,j < (r.objs.drop refs.length).length → z ≠ nm + j) → g z = some o0 → o.md ≠ .dead → ((o = o0 ∧ (fz = freeze g bs → z ∉ bs)) ∨ (o = { o0 with md:=.ro } ∧ z ∈ bs ∧ fz = freeze g bs)) → zcU γ γ' nm refs.length (r.objs.drop refs.length).length z = some gi → gi.nil = false →
   γ z = some gi ∧ o0.md ≠ .dead ∧ gi.blk < w.heap.size ∧ ¬ wrOf γ g F refs os.length gi.blk:=by
   intro z o o0 gi q1 q2 q3 q4 q5 q6 q7
   have hm0 : o0.md ≠ .dead:=by
    rcases q5 with ⟨rfl,_⟩ | ⟨rfl,hb,_⟩
    ·exact q4
    ·obtain ⟨o1,a1,a2⟩:=halive z hb
     rw [q3] at a1; cases a1; exact a2
   have hγ:=outγ z gi q2 q6
   exact ⟨hγ,hm0,outblk z o0 gi q1 q3 hm0 hγ q7⟩
  rcases look x o1 h1 with ⟨k,o',k1,rfl,rfl⟩ | ⟨p1,p2,o0,p3,p4⟩
  ·obtain ⟨a1,a2⟩:=known k o' k1 d1 gi1 g1 n1
   rcases look y o2 h2 with ⟨l,o'',l1,rfl,rfl⟩ | ⟨p1,p2,o0,p3,p4⟩
   ·obtain ⟨b1,b2⟩:=known l o'' l1 d2 gi2 g2 n2
    rw [AObj.ren_md] at d1 d2
    rw [hL.inv.inj k l o' o'' gi1 gi2 k1 l1 d1 d2 a1 b1 n1 n2 hb]
   ·obtain ⟨c1,c2,c3,c4⟩:=out y o2 o0 gi2 p1 p2 p3 d2 p4 g2 n2
    rw [hb] at a2
    rcases a2 with a2 | a2
    ·omega
    ·exact absurd a2 c4
  ·obtain ⟨c1,c2,c3,c4⟩:=out x o1 o0 gi1 p1 p2 p3 d1 p4 g1 n1
   rcases look y o2 h2 with ⟨l,o'',l1,rfl,rfl⟩ | ⟨q1,q2,o0',q3,q4⟩
   ·obtain ⟨b1,b2⟩:=known l o'' l1 d2 gi2 g2 n2
    rw [← hb] at b2
    rcases b2 with b2 | b2
    ·omega
    ·exact absurd b2 c4
   ·obtain ⟨e1,e2,e3,e4⟩:=out y o2 o0' gi2 q1 q2 q3 d2 q4 g2 n2
    exact hi.inj x y o0 o0' gi1 gi2 p3 q3 c2 e2 c1 e1 n1 n2 hb
 ·intro x o gi hx hm hγ hnn
  rcases look x o hx with ⟨k,o',k1,rfl,rfl⟩ | ⟨p1,p2,o0,p3,p4⟩
  ·rw [AObj.ren_md] at hm
   obtain ⟨gi',q1,q2⟩:=knownγ k o' k1 hm
   rw [hγ] at q2; cases q2
   rcases hL.inv.own k o' gi k1 hm q1 hnn with h | h
   ·exact .inl (Nat.le_trans hi.size h)
   ·exact exown _ h
  ·have hm0 : o0.md ≠ .dead:=by
    rcases p4 with ⟨rfl,_⟩ | ⟨rfl,hb,_⟩
    ·exact hm
    ·obtain ⟨o1,a1,a2⟩:=halive x hb
     rw [p3] at a1; cases a1; exact a2
   exact hi.own x o0 gi p3 hm0 (outγ x gi p2 hγ) hnn
 ·intro x gi hγ hx
  obtain ⟨h1,h2⟩:=some_of x hx
  exact hi.dom x gi (outγ x gi h2 hγ) h1
 ·rcases hback b (hI2 b hb) with h | h | h
  ·rcases h with h | ⟨n,gi,b1,b2,b3,b4⟩
   ·exact hi.back b h
   ·obtain ⟨o,a1,a2⟩:=halive n b1
    rw [← b4]; exact .inr (hi.own n o gi a1 a2 b2 b3)
  ·exact .inr (.inl (Nat.le_trans hi.size h))
  ·exact .inr (exown b h)
 ·have hb' : b < w.heap.size:=Nat.lt_of_lt_of_le hb hi.size
  rw [hL.inv.frame b hb' ?_]
  ·exact hi.frame b hb hx
  ·intro hw
   rcases exown b hw with h | h
   ·omega
   ·exact hx h
end
section
variable {P : Program} {T : TypeId → Option TI} {C : FuncId → List V → List AObj → Option CRes}
theorem zo2 {g : Nat → Option AObj} {refs : List Nat} : ∀ (k : Nat) {v v' : V} {bs : List Nat},deepV g refs k v = some (v',bs) → ∀ n ∈ bs,(∃ o,g n = some o ∧ o.md ≠ .dead) ∧ n ∉ refs:=by
 have base : ∀ {v v' : V} {bs : List Nat},(if v.closed then some (v,([] : List Nat)) else none) = some (v',bs) → ∀ n ∈ bs,(∃ o,g n = some o ∧ o.md ≠ .dead) ∧ n ∉ refs:=by
  intro v v' bs h
  split at h
  ·cases h; intro n hn; cases hn
  ·cases h
 have cells : ∀ {F : V → Option (V × List Nat)} {Q : Nat → Prop},(∀ u v b,F u = some (v,b) → ∀ n ∈ b,Q n) → ∀ {cs cs' : List V} {bs : List Nat},zbJ F cs = some (cs',bs) → ∀ n ∈ bs,Q n:=by
  intro F Q hF cs
  induction cs with
  | nil=>intro cs' bs h n hn; cases h; cases hn
  | cons c cs ih =>
   intro cs' bs h n hn
   simp only [zbJ] at h
   split at h
   ·rename_i h1 h2
    cases h
    exact (List.mem_append.1 hn).elim (hF _ _ _ h1 n) (ih h2 n)
   ·cases h
 have rows : ∀ {F : V → Option (V × List Nat)} {Q : Nat → Prop},(∀ u v b,F u = some (v,b) → ∀ n ∈ b,Q n) → ∀ {cs cs' : List (List V)} {bs : List Nat},zbH F cs = some (cs',bs) → ∀ n ∈ bs,Q n:=by
  intro F Q hF cs
  induction cs with
  | nil=>intro cs' bs h n hn; cases h; cases hn
  | cons c cs ih =>
   intro cs' bs h n hn
   simp only [zbH] at h
   split at h
   ·rename_i h1 h2
    cases h
    exact (List.mem_append.1 hn).elim (cells hF h1 n) (ih h2 n)
   ·cases h
 intro k
 induction k with
 | zero =>
  intro v v' bs h
  refine base (v:=v) (v':=v') (bs:=bs) ?_
  rw [← h]; cases v <;> rfl
 | succ k ih =>
  intro v v' bs h
  by_cases hown : ∃ nm off n,v = .own nm off n
  ·obtain ⟨nm,off,n,rfl⟩:=hown
   simp only [deepV] at h
   split at h
   ·cases h
   ·rename_i hnr
    split at h
    ·rename_i o hg
     split at h
     ·rename_i hc
      split at h
      ·rename_i rows' bs' hrows
       cases h
       intro x hx
       rcases List.mem_cons.1 hx with rfl | hx
       ·exact ⟨⟨o,hg,hc.1⟩,by simpa using hnr⟩
       ·split at hrows
        ·cases hrows; cases hx
        ·exact rows (Q:=fun n=>(∃ o,g n = some o ∧ o.md ≠ .dead) ∧ n ∉ refs) (fun u v b hu=>ih hu) hrows x hx
      ·cases h
     ·cases h
    ·cases h
  ·refine base (v:=v) (v':=v') (bs:=bs) ?_
   rw [← h]
   cases v <;> first | rfl | exact absurd ⟨_,_,_,rfl⟩ hown
theorem zhL {g : Nat → Option AObj} {refs : List Nat} {v v' : V} {bs : List Nat} (h : zbI g refs v = some (v',bs)) : ∀ n ∈ bs,∃ o,g n = some o ∧ o.md ≠ .dead:=by
 unfold zbI at h
 split at h
 ·split at h
  ·cases h; intro n hn; cases hn
  split at h
  ·rename_i o hg
   split at h
   ·rename_i hc
    cases h
    intro n hn
    simp at hn
    subst hn
    exact ⟨o,hg,hc.1⟩
   ·split at h
    ·exact fun n hn=>(zo2 3 h n hn).1
    ·cases h
  ·cases h
 ·split at h
  ·cases h; intro n hn; cases hn
  ·cases h
 ·split at h
  ·cases h; intro n hn; cases hn
  ·cases h
 ·split at h
  ·cases h; intro n hn; cases hn
  ·cases h
theorem zfK {g : Nat → Option AObj} {refs : List Nat} : ∀ {cs cs' : List V} {bs : List Nat},zbr g refs cs = some (cs',bs) → ∀ n ∈ bs,∃ o,g n = some o ∧ o.md ≠ .dead
 | [],cs',bs,h=>by cases h; intro n hn; cases hn
 | c :: cs,cs',bs,h=>by
  simp only [zbr] at h
  split at h
  ·rename_i v b vs bs' h1 h2
   cases h
   intro n hn
   exact (List.mem_append.1 hn).elim (zhL h1 n) (zfK h2 n)
  ·cases h
theorem zrx {g : Nat → Option AObj} {refs : List Nat} {v v' : V} {bs : List Nat} (h : argV g refs v = some (v',bs)) : ∀ n ∈ bs,∃ o,g n = some o ∧ o.md ≠ .dead:=by
 unfold argV at h
 split at h
 ·rename_i cs
  cases hcs : zbr g refs cs with
  | none=>rw [hcs] at h; cases h
  | some p=>obtain ⟨cs',bs'⟩:=p; rw [hcs] at h; cases h; exact zfK hcs
 ·exact zhL h
theorem zfY {g : Nat → Option AObj} {refs : List Nat} : ∀ {cs cs' : List V} {bs : List Nat},argVs g refs cs = some (cs',bs) → ∀ n ∈ bs,∃ o,g n = some o ∧ o.md ≠ .dead
 | [],cs',bs,h=>by cases h; intro n hn; cases hn
 | c :: cs,cs',bs,h=>by
  simp only [argVs] at h
  split at h
  ·rename_i v b vs bs' h1 h2
   cases h
   intro n hn
   exact (List.mem_append.1 hn).elim (zrx h1 n) (zfY h2 n)
  ·cases h
theorem zp8 {g : Nat → Option AObj} : ∀ {refs : List Nat} {os : List AObj},refs.Nodup → zdB g refs = some os → ∀ (l : List (Nat × AObj)),zas g (refs.zip os ++ l) = zas g l:=by
 intro refs os hnd hr l
 rw [zbZ]
 congr 1
 funext n
 obtain ⟨hl,ho⟩:=zdJ hr
 rcases zcy (refs.zip os) g n with ⟨o,h1,h2⟩ | ⟨_,h2⟩
 ·rw [h2]
  obtain ⟨k,hk,hkv⟩:=List.mem_iff_getElem.1 h1
  rw [List.getElem_zip] at hkv
  simp only [Prod.mk.injEq] at hkv
  have hk':=hk
  simp only [List.length_zip] at hk'
  obtain ⟨o',a1,a2,_⟩:=ho k n (by rw [← hkv.1]; exact List.getElem?_eq_getElem (by omega))
  rw [List.getElem?_eq_getElem (by omega)] at a1
  cases a1
  rw [a2,hkv.2]
 ·exact h2
theorem zki {g : Nat → Option AObj} {refs : List Nat} {os olds : List AObj} (hnd : refs.Nodup) (hr : zdB g refs = some os) {f : FuncId} (b : Decidable (kept f olds os)) (l : List (Nat × AObj)) : zas g ((@ite _ (kept f olds os) b [] (refs.zip olds)) ++ l) = zas g (refs.zip olds ++ l):=by
 split
 ·rename_i h
  rw [h.2,zp8 hnd hr]; rfl
 ·rfl
theorem zhF (hC : zai P C) {w0 w : World} {ex I γ g} (hi : Inv w0 ex I γ g w) (hgl : GlobAt w I) {nm : Nat} {f : FuncId} {args : List V} {vs : Array Value} {e : Eff} {refs : List Nat} (hnd : refs.Nodup) (hlen : args.length = vs.size)
 (hrd : ∀ (j : Nat) (u : V) (x : Value),args[j]? = some u → vs[j]? = some x → Rd w I γ u x) (h : zdU C g nm f args refs = some e) :
 (∃ fn, P.funcs[f]? = some fn ∧ (fn.name == "runtime.NumGoroutine") = false ∧ fn.body.isNone = false) ∧
 Calls P f vs w fun e' w'=>∃ v I' γ',e' = .returned v ∧ Rd w' I' γ' e.v v ∧ Inv w0 ex I' γ' (zas g e.wr) w' ∧ Ext I γ w I' γ' w':=by
 unfold zdU at h
 split at h
 ·rename_i vs' bs os hav hro
  split at h
  ·rename_i hdj
   split at h
   ·rename_i r hr
    simp only at h
    split at h
    ·rename_i hc
     obtain ⟨c1,c2,c3,c4⟩:=hc
     cases h
     have hspec:=hC f ⟨_,_,_,hr⟩
     refine ⟨hspec.body,?_⟩
     have hd : ∀ n ∈ bs,n ∉ refs:=by
      intro n hn hm
      have:=List.all_eq_true.1 hdj n hm
      simp [hn] at this
     have halive:=zfY hav
     obtain ⟨F,hF⟩:=hi.trees
     have hH:=Handed.of hi hro
     have hE:=znt (os:=os) hi hF hH hnd hd halive
     obtain ⟨ol,oa⟩:=zdJ hro
     obtain ⟨q1,q2⟩:=zlN (γc:=fun k=>(refs[k]?).bind γ) (BS:=bs) hi (fun k n hk=>by simp [hk]) hav (fun n hn=>hn)
     have hEntry : Entry w (Ic I γ bs) (fun k=>(refs[k]?).bind γ) (wrOf γ g F refs os.length) vs' os vs:=by
      refine ⟨q1.trans hlen,fun j u' x hu hx=>?_,hE,fun o ho=>?_,fun b hb=>?_,hgl.wider fun b hb=>.inl hb⟩
      ·obtain ⟨u,h1,h2⟩:=q2 j u' hu
       exact h2 x (hrd j u x h1 hx)
      ·obtain ⟨k,hk,hkv⟩:=List.mem_iff_getElem.1 ho
       obtain ⟨o',a1,a2,a3,a4⟩:=oa k _ (List.getElem?_eq_getElem (by rw [← ol]; exact hk))
       rw [List.getElem?_eq_getElem hk,hkv] at a1
       cases a1; exact a3
      ·rcases hb with ⟨k,gi',k1,k2,k3,rfl⟩ | ⟨q,x,i,j,u,q1,q2,q3⟩
       ·have hk : k < os.length:=k1
        obtain ⟨o',a1,a2,a3,a4⟩:=oa k _ (List.getElem?_eq_getElem (by rw [← ol]; exact hk))
        obtain ⟨cur,fr,ha⟩:=hE.at_own (nm:=k) (o:=o') a1 (by rw [a3]; decide) k2 k3
        exact ha.rw a3
       ·rintro (hb | ⟨n',gi',b1,b2,b3,b4⟩)
        ·exact (hF.fr _ _ _ _ _ q2 q3).2.1 hb
        ·obtain ⟨o',a1,a2⟩:=halive n' b1
         exact hF.nm _ _ _ _ _ q2 q3 n' o' gi' a1 a2 b2 b3 b4
     refine (hspec.calls vs' os r hr w _ _ _ vs hEntry).mono ?_
     rintro e' w' ⟨v,I',γ',rfl,hL⟩
     have hfr : ∀ j,j < (r.objs.drop refs.length).length → g (nm + j) = none:=fun j hj=>zeh c3 j (by omega)
     have hext1 : ∀ b,I b → I' b:=fun b hb=>(hL.ext.imm b (.inl hb)).1
     have hren : ∀ k gi,γ' k = some gi → zcU γ γ' nm refs.length (r.objs.drop refs.length).length (zau refs nm k) = some gi:=by
      refine zeS (fun k x gi hk hx=>?_) (fun j hj=>?_) (fun k gi hk=>?_)
      ·obtain ⟨o,o1,o2,o3,o4⟩:=oa k x hk
       have : ∃ gi,γ x = some gi:=by
        rcases (hi.obj x o o2 (by rw [o3]; decide)).at_ with ⟨_,gi,q,_⟩ | ⟨gi,_,_,q,_⟩ <;> exact ⟨gi,q⟩
       obtain ⟨gi',hg⟩:=this
       have:=hL.ext.nam k gi' (by simp [hk,hg])
       rw [hx] at this; cases this; exact hg
      ·cases hx : γ (nm + j) with
       | none=>rfl
       | some x=>exact absurd (hfr j hj) (hi.dom _ x hx)
      ·have:=hL.inv.dom k gi hk
       rw [List.length_drop]
       have hlt : k < r.objs.length:=by
        rcases Nat.lt_or_ge k r.objs.length with h | h
        ·exact h
        ·exact absurd (List.getElem?_eq_none h) this
       omega
     by_cases hsc : (r.v.scalar && zby r.objs) = true
     ·have hkeep : ((r.v.scalar && zby r.objs) || bs.isEmpty) = true:=by rw [hsc]; rfl
      rw [if_pos hkeep]
      simp only [Bool.and_eq_true] at hsc
      obtain ⟨s1,s2⟩:=hsc
      obtain ⟨r1,r2⟩:=zd4 (nm:=nm) hi hF hH hd halive hL c1 hfr (fun b=>I b ∨ (I' b ∧ (w.heap.size ≤ b ∨ wrOf γ g F refs os.length b))) []
       (fun b hb=>.inl hb) (fun b hb=>hb.elim (hext1 b) (·.1)) (fun b hb hor=>.inr ⟨hb,hor⟩) (.inl (zdQ s2)) (.inl ⟨rfl,.inr fun b hb=>hb.elim .inl (fun h=>.inr h.2)⟩)
      refine ⟨v,_,_,rfl,(hL.rd.scalar s1 _ _).ren hren,?_,r2⟩
      rw [zfy c4] at r1
      simp only [List.append_assoc]
      rw [zki hnd hro]
      simpa only [List.append_assoc] using r1
     ·by_cases hbs : bs = []
      ·subst hbs
       have hkeep : ((r.v.scalar && zby r.objs) || ([] : List Nat).isEmpty) = true:=by simp
       rw [if_pos hkeep]
       obtain ⟨r1,r2⟩:=zd4 (nm:=nm) hi hF hH hd halive hL c1 hfr I' [] hext1 (fun b hb=>hb) (fun b hb _=>hb) (.inr fun b hb=>hb) (.inl ⟨rfl,.inl rfl⟩)
       refine ⟨v,_,_,rfl,hL.rd.ren hren,?_,r2⟩
       rw [zfy c4] at r1
       simp only [List.append_assoc]
       rw [zki hnd hro]
       simpa only [List.append_assoc] using r1
      ·have hkeep : ((r.v.scalar && zby r.objs) || bs.isEmpty) = false:=by
        simp only [Bool.not_eq_true] at hsc
        rw [hsc]
        cases bs with
        | nil=>exact absurd rfl hbs
        | cons=>rfl
       rw [hkeep]
       simp only [Bool.false_eq_true,if_false]
       obtain ⟨r1,r2⟩:=zd4 (nm:=nm) hi hF hH hd halive hL c1 hfr I' (freeze g bs) hext1 (fun b hb=>hb) (fun b hb _=>hb) (.inr fun b hb=>hb) (.inr ⟨rfl,fun b hb=>hb⟩)
       refine ⟨v,_,_,rfl,hL.rd.ren hren,?_,r2⟩
       rw [zfy c4] at r1
       simp only [List.append_assoc]
       rw [zki hnd hro]
       simpa only [List.append_assoc] using r1
    ·cases h
   ·cases h
  ·cases h
 ·cases h
theorem zxv {f f' : Nat → Nat} {o : AObj} (h : ∀ i j u,zah o.elems i j = some u → o.fl = 0 → (u.ren f).ren f' = u) : (o.ren f).ren f' = o:=by
 by_cases hfl : o.fl = 0
 ·have e1 : o.ren f = { o with elems:=o.elems.map (V.ren.renAll f) }:=by unfold AObj.ren; rw [if_pos hfl]
  rw [e1]
  unfold AObj.ren
  rw [if_pos hfl]
  have : (o.elems.map (V.ren.renAll f)).map (V.ren.renAll f') = o.elems:=by
   apply List.ext_getElem?
   intro i
   rw [List.getElem?_map,List.getElem?_map]
   cases hi : o.elems[i]? with
   | none=>rfl
   | some r =>
    simp only [Option.map_some,Option.some.injEq]
    apply List.ext_getElem?
    intro j
    rw [zbx,zbx]
    cases hj : r[j]? with
    | none=>rfl
    | some u=>simp only [Option.map_some,h i j u (zay hi hj) hfl]
  simp only [this]
 ·rw [AObj.ren_eq hfl,AObj.ren_eq hfl]
theorem zj0 {refs : List Nat} {nm n : Nat} (h : (posOf n refs).isSome = true) : zau refs nm (zeG refs n) = n:=by
 obtain ⟨p,hp⟩:=Option.isSome_iff_exists.1 h
 have : zeG refs n = p:=by unfold zeG; rw [hp]
 rw [this]
 exact zcJ (zdp hp)
theorem znO {refs : List Nat} {nm : Nat} {u : V} (h : zbX refs u = true) : (u.ren (zeG refs)).ren (zau refs nm) = u:=by
 cases u with
 | own a off n=>simp only [V.ren]; rw [zj0 h]
 | ptr a i j=>simp only [V.ren]; rw [zj0 h]
 | _ =>
  simp only [zbX,Bool.or_eq_true] at h
  rw [V.ren_nl _ h,V.ren_nl _ h]
theorem zgZ {g : Nat → Option AObj} {refs : List Nat} {nm : Nat} : ∀ {l : List Nat} {os : List AObj},zck g refs l = some os → ∀ (k n : Nat),l[k]? = some n → (zbg (zau refs nm) os)[k]? = g n
 | [],os,h,k,n,hk=>by simp at hk
 | m :: l,os,h,k,n,hk=>by
  simp only [zck] at h
  split at h
  ·rename_i o os' h1 h2
   split at h
   ·rename_i hc
    cases h
    cases k with
    | zero =>
     simp at hk; subst hk
     simp only [zbg,List.getElem?_cons_zero]
     rw [h1,zxv]
     intro i j u hu hfl
     have h3:=hc.2
     unfold zbp at h3
     rw [if_neg (by simpa using hfl)] at h3
     obtain ⟨r,r1,r2⟩:=zan hu
     exact znO (List.all_eq_true.1 (List.all_eq_true.1 h3 r (List.mem_of_getElem? r1)) u (List.mem_of_getElem? r2))
    | succ k =>
     simp only [zbg,List.getElem?_cons_succ]
     exact zgZ h2 k n (by simpa using hk)
   ·cases h
  ·cases h
theorem zoi {g : Nat → Option AObj} {refs : List Nat} {os : List AObj} {nm : Nat} (hnd : refs.Nodup) (hr : zck g refs refs = some os) (l : List (Nat × AObj)) : zas g (refs.zip (zbg (zau refs nm) os) ++ l) = zas g l:=by
 rw [zbZ]
 congr 1
 funext n
 rcases zcy (refs.zip (zbg (zau refs nm) os)) g n with ⟨o,h1,h2⟩ | ⟨_,h2⟩
 ·rw [h2]
  obtain ⟨k,hk,hkv⟩:=List.mem_iff_getElem.1 h1
  rw [List.getElem_zip] at hkv
  simp only [Prod.mk.injEq] at hkv
  have hk':=hk
  simp only [List.length_zip] at hk'
  have:=zgZ (nm:=nm) hr k n (by rw [← hkv.1]; exact List.getElem?_eq_getElem (by omega))
  rw [List.getElem?_eq_getElem (by omega),hkv.2] at this
  exact this
 ·exact h2
theorem zhA {g : Nat → Option AObj} {refs : List Nat} {os olds : List AObj} {nm : Nat} (hnd : refs.Nodup) (hr : zck g refs refs = some os) {f : FuncId} (b : Decidable (kept f os olds)) (l : List (Nat × AObj)) : zas g ((@ite _ (kept f os olds) b [] (refs.zip (zbg (zau refs nm) olds))) ++ l) = zas g (refs.zip (zbg (zau refs nm) olds) ++ l):=by
 split
 ·rename_i h
  rw [← h.2,zoi hnd hr]; rfl
 ·rfl
theorem zmT (hC : zai P C) {w0 w : World} {ex I γ g} (hi : Inv w0 ex I γ g w) (hgl : GlobAt w I) {nm : Nat} {f : FuncId} {args : List V} {vs : Array Value} {e : Eff} {refs : List Nat} (hnd : refs.Nodup) (hlen : args.length = vs.size)
 (hrd : ∀ (j : Nat) (u : V) (x : Value),args[j]? = some u → vs[j]? = some x → Rd w I γ u x) (h : zgo C g nm f args refs = some e) :
 (∃ fn, P.funcs[f]? = some fn ∧ (fn.name == "runtime.NumGoroutine") = false ∧ fn.body.isNone = false) ∧
 Calls P f vs w fun e' w'=>∃ v I' γ',e' = .returned v ∧ Rd w' I' γ' e.v v ∧ Inv w0 ex I' γ' (zas g e.wr) w' ∧ Ext I γ w I' γ' w':=by
 unfold zgo at h
 split at h
 ·rename_i vs' bs os hav hro
  split at h
  ·rename_i hdj
   split at h
   ·rename_i r hr
    split at h
    ·rename_i hc
     obtain ⟨c1,c2,c3⟩:=hc
     cases h
     have hspec:=hC f ⟨_,_,_,hr⟩
     refine ⟨hspec.body,?_⟩
     have hd : ∀ n ∈ bs,n ∉ refs:=by
      intro n hn hm
      have:=List.all_eq_true.1 hdj n hm
      simp [hn] at this
     have halive:=zfY hav
     obtain ⟨F,hF⟩:=hi.trees
     have hH:=Handed.ofK hi hro
     have hE:=znt (os:=os) hi hF hH hnd hd halive
     obtain ⟨ol,oa⟩:=zer hro
     have hrw : ∀ (k : Nat) (o : AObj),os[k]? = some o → o.md = .rw:=fun k o hk=>by
      have hlt:=(List.getElem?_eq_some_iff.1 hk).1
      obtain ⟨o',a1,a2,a3,a4⟩:=oa k _ (List.getElem?_eq_getElem (by rw [← ol]; exact hlt))
      rw [hk] at a1
      cases a1; rw [AObj.ren_md]; exact a3
     obtain ⟨q1,q2⟩:=zlN (γc:=fun k=>(refs[k]?).bind γ) (BS:=bs) hi (fun k n hk=>by simp [hk]) hav (fun n hn=>hn)
     have hEntry : Entry w (Ic I γ bs) (fun k=>(refs[k]?).bind γ) (wrOf γ g F refs os.length) vs' os vs:=by
      refine ⟨q1.trans hlen,fun j u' x hu hx=>?_,hE,fun o ho=>?_,fun b hb=>?_,hgl.wider fun b hb=>.inl hb⟩
      ·obtain ⟨u,h1,h2⟩:=q2 j u' hu
       exact h2 x (hrd j u x h1 hx)
      ·obtain ⟨k,hk,hkv⟩:=List.mem_iff_getElem.1 ho
       exact hrw k o (by rw [List.getElem?_eq_getElem hk,hkv])
      ·rcases hb with ⟨k,gi',k1,k2,k3,rfl⟩ | ⟨q,x,i,j,u,q1,q2,q3⟩
       ·have hk : k < os.length:=k1
        have hok : os[k]? = some os[k]:=List.getElem?_eq_getElem hk
        have hm:=hrw k _ hok
        obtain ⟨cur,fr,ha⟩:=hE.at_own (nm:=k) (o:=os[k]) hok (by rw [hm]; decide) k2 k3
        exact ha.rw hm
       ·rintro (hb | ⟨n',gi',b1,b2,b3,b4⟩)
        ·exact (hF.fr _ _ _ _ _ q2 q3).2.1 hb
        ·obtain ⟨o',a1,a2⟩:=halive n' b1
         exact hF.nm _ _ _ _ _ q2 q3 n' o' gi' a1 a2 b2 b3 b4
     refine (hspec.calls vs' os r hr w _ _ _ vs hEntry).mono ?_
     rintro e' w' ⟨v,I',γ',rfl,hL⟩
     have hfr : ∀ j,j < (r.objs.drop refs.length).length → g (nm + j) = none:=fun j hj=>zeh c3 j (by omega)
     have hext1 : ∀ b,I b → I' b:=fun b hb=>(hL.ext.imm b (.inl hb)).1
     have hren : ∀ k gi,γ' k = some gi → zcU γ γ' nm refs.length (r.objs.drop refs.length).length (zau refs nm k) = some gi:=by
      refine zeS (fun k x gi hk hx=>?_) (fun j hj=>?_) (fun k gi hk=>?_)
      ·obtain ⟨o,o1,o2,o3,o4⟩:=oa k x hk
       have : ∃ gi,γ x = some gi:=by
        rcases (hi.obj x o o2 (by rw [o3]; decide)).at_ with ⟨_,gi,q,_⟩ | ⟨gi,_,_,q,_⟩ <;> exact ⟨gi,q⟩
       obtain ⟨gi',hg⟩:=this
       have:=hL.ext.nam k gi' (by simp [hk,hg])
       rw [hx] at this; cases this; exact hg
      ·cases hx : γ (nm + j) with
       | none=>rfl
       | some x=>exact absurd (hfr j hj) (hi.dom _ x hx)
      ·have:=hL.inv.dom k gi hk
       rw [List.length_drop]
       have hlt : k < r.objs.length:=by
        rcases Nat.lt_or_ge k r.objs.length with h | h
        ·exact h
        ·exact absurd (List.getElem?_eq_none h) this
       omega
     by_cases hsc : (r.v.scalar && zby r.objs) = true
     ·have hkeep : ((r.v.scalar && zby r.objs) || bs.isEmpty) = true:=by rw [hsc]; rfl
      rw [if_pos hkeep]
      simp only [Bool.and_eq_true] at hsc
      obtain ⟨s1,s2⟩:=hsc
      obtain ⟨r1,r2⟩:=zd4 (nm:=nm) hi hF hH hd halive hL c1 hfr (fun b=>I b ∨ (I' b ∧ (w.heap.size ≤ b ∨ wrOf γ g F refs os.length b))) []
       (fun b hb=>.inl hb) (fun b hb=>hb.elim (hext1 b) (·.1)) (fun b hb hor=>.inr ⟨hb,hor⟩) (.inl (zdQ s2)) (.inl ⟨rfl,.inr fun b hb=>hb.elim .inl (fun h=>.inr h.2)⟩)
      refine ⟨v,_,_,rfl,(hL.rd.scalar s1 _ _).ren hren,?_,r2⟩
      simp only [List.append_assoc]
      rw [zhA hnd hro]
      simpa only [List.append_assoc] using r1
     ·by_cases hbs : bs = []
      ·subst hbs
       have hkeep : ((r.v.scalar && zby r.objs) || ([] : List Nat).isEmpty) = true:=by simp
       rw [if_pos hkeep]
       obtain ⟨r1,r2⟩:=zd4 (nm:=nm) hi hF hH hd halive hL c1 hfr I' [] hext1 (fun b hb=>hb) (fun b hb _=>hb) (.inr fun b hb=>hb) (.inl ⟨rfl,.inl rfl⟩)
       refine ⟨v,_,_,rfl,hL.rd.ren hren,?_,r2⟩
       simp only [List.append_assoc]
       rw [zhA hnd hro]
       simpa only [List.append_assoc] using r1
      ·have hkeep : ((r.v.scalar && zby r.objs) || bs.isEmpty) = false:=by
        simp only [Bool.not_eq_true] at hsc
        rw [hsc]
        cases bs with
        | nil=>exact absurd rfl hbs
        | cons=>rfl
       rw [hkeep]
       simp only [Bool.false_eq_true,if_false]
       obtain ⟨r1,r2⟩:=zd4 (nm:=nm) hi hF hH hd halive hL c1 hfr I' (freeze g bs) hext1 (fun b hb=>hb) (fun b hb _=>hb) (.inr fun b hb=>hb) (.inr ⟨rfl,fun b hb=>hb⟩)
       refine ⟨v,_,_,rfl,hL.rd.ren hren,?_,r2⟩
       simp only [List.append_assoc]
       rw [zhA hnd hro]
       simpa only [List.append_assoc] using r1
    ·cases h
   ·cases h
  ·cases h
 ·cases h
theorem ziX (hC : zai P C) {w0 w : World} {ex I γ g} (hi : Inv w0 ex I γ g w) (hgl : GlobAt w I) {nm : Nat} {f : FuncId} {args : List V} {vs : Array Value} {e : Eff} (hlen : args.length = vs.size)
 (hrd : ∀ (j : Nat) (u : V) (x : Value),args[j]? = some u → vs[j]? = some x → Rd w I γ u x) (h : aCall C g nm f args = some e) :
 (∃ fn, P.funcs[f]? = some fn ∧ (fn.name == "runtime.NumGoroutine") = false ∧ fn.body.isNone = false) ∧
 Calls P f vs w fun e' w'=>∃ v I' γ',e' = .returned v ∧ Rd w' I' γ' e.v v ∧ Inv w0 ex I' γ' (zas g e.wr) w' ∧ Ext I γ w I' γ' w':=by
 unfold aCall at h
 split at h
 ·exact zmT hC hi hgl (zc4 _ _ (zc4 _ _ List.nodup_nil)) hlen hrd h
 split at h
 ·rename_i e1 h1; cases h
  simp only [Eff.behind]
  rw [zbZ]
  exact zhF (e:=e1) hC (zhi hi _) hgl (zc3 args) hlen hrd h1
 ·split at h
  ·rename_i e1 h1; cases h
   simp only [Eff.behind]
   rw [zbZ]
   exact zhF (e:=e1) hC (zhi hi _) hgl (zkv args) hlen hrd h1
  ·cases h
theorem zh6 {f : FuncId} {fn : Func} {args : Array Value} {w : World} (h1 : P.funcs[f]? = some fn) (h2 : (fn.name == "runtime.NumGoroutine") = false) (h3 : fn.body.isNone = false) : (callFunc f args).run P w = .ok (.enter f args) w := by
 unfold callFunc
 simp only [Sem.run_bind,run_program,Result.andThen_ok,h1,h2,h3,Bool.false_eq_true,if_false,Sem.run_pure]
theorem op_wp (hT : zaJ P T) (hC : zai P C) {w0 w : World} {ex I γ g} (hi : Inv w0 ex I γ g w) (hgl : GlobAt w I) {ρ : Operand → V} {a : Act} (hs : ∀ x,Rd w I γ (ρ x) (a.eval x)) {nm : Nat} {o : Oper} {e : Eff} (h : aop T C ρ g nm o.op = some e)
 {K : Act → World → Prop} {Q : Exit → Act → World → Prop} (hK : ∀ x w' I' γ',Rd w' I' γ' e.v x → Inv w0 ex I' γ' (zas g e.wr) w' → Ext I γ w I' γ' w' → K (a.put o.dst x) w') : o.wp P a w K Q:=by
 cases hnc : zqW o.op with
 | false=>exact zAq hT hi hs hnc h hK
 | true =>
  obtain ⟨dst,op,type,pos,after,guard⟩:=o
  simp only at h hnc hK
  unfold zqW at hnc
  split at hnc
  ·rename_i fo args tys
   simp only [aop] at h
   have hl : (args.toList.map ρ).length = (args.map a.eval).size:=by simp
   have hr : ∀ (j : Nat) (u : V) (x : Value),(args.toList.map ρ)[j]? = some u → (args.map a.eval)[j]? = some x → Rd w I γ u x:=by
    intro j u x h1 h2
    rw [List.getElem?_map] at h1
    rw [Array.getElem?_map] at h2
    cases hk : args[j]? with
    | none=>rw [Array.getElem?_toList,hk] at h1; cases h1
    | some p=>rw [Array.getElem?_toList,hk] at h1; rw [hk] at h2; cases h1; cases h2; exact hs p
   have fin : ∀ (f : FuncId) (us : List V) (xs : Array Value),a.eval fo = .func (.func f) #[] xs → us.length = xs.size → (∀ (j : Nat) (u : V) (x : Value),us[j]? = some u → xs[j]? = some x → Rd w I γ u x) → aCall C g nm f (args.toList.map ρ ++ us) = some e →
    Oper.wp P { dst:=dst,op:=.call ⟨.value fo,args,tys⟩,type:=type,pos:=pos,after:=after,guard:=guard } a w K Q:=by
    intro f us xs hfv hlu hru h
    obtain ⟨⟨fn,b1,b2,b3⟩,hcalls⟩:=ziX (vs:=args.map a.eval ++ xs) hC hi hgl (by simp [hlu]) (fun j u x h1 h2=>by
     rw [List.getElem?_append] at h1
     rw [Array.getElem?_append] at h2
     rw [hl] at h1
     split at h1
     ·rename_i hlt
      rw [if_pos hlt] at h2; exact hr j u x h1 h2
     ·rename_i hlt
      rw [if_neg hlt] at h2; exact hru _ u x h1 h2) h
    unfold Oper.wp
    have hex : execOp a.eval { dst:=dst,op:=.call ⟨.value fo,args,tys⟩,type:=type,pos:=pos,after:=after,guard:=guard } = callFunc f (args.map a.eval ++ xs):=by
     show (do let d ← resolve a.eval ⟨.value fo,args,tys⟩ type; invoke d.target d.args) = _
     simp only [resolve,hfv,Deferred.ofValue,pure_bind,invoke]
     simp
    rw [hex,zh6 b1 b2 b3]
    show Calls P f (args.map a.eval ++ xs) w _
    refine hcalls.mono ?_
    rintro e' w' ⟨v,I',γ',rfl,k1,k2,k3⟩
    exact hK v w' I' γ' k1 k2 k3
   split at h
   ·rename_i f hf
    have hfv : a.eval fo = .func (.func f) #[] #[]:=by
     have:=hs fo
     rw [hf] at this
     generalize a.eval fo = x at this
     cases this; rfl
    exact fin f [] #[] hfv rfl (fun j u x hu=>by simp at hu) (by simpa using h)
   ·rename_i f caps hf
    have hfv : ∃ xs,a.eval fo = .func (.func f) #[] xs ∧ caps.length = xs.size ∧ ∀ (j : Nat) (u : V) (x : Value),caps[j]? = some u → xs[j]? = some x → Rd w I noG u x:=by
     have:=hs fo
     rw [hf] at this
     generalize a.eval fo = x at this
     cases this with
     | clo _ _ _ xs hl hr=>exact ⟨xs,rfl,hl,hr⟩
    obtain ⟨xs,h1,h2,h3⟩:=hfv
    exact fin f caps xs h1 h2 (fun j u x hu hx=>(h3 j u x hu hx).ofNone γ) h
   ·rename_i f n hf
    have hfv : ∃ y,a.eval fo = .func (.func f) #[y] #[] ∧ Rd w I γ (.ptr n 0 0) y:=by
     have:=hs fo
     rw [hf] at this
     generalize a.eval fo = x at this
     cases this with
     | mth _ _ _ gi hγ hnn=>exact ⟨_,rfl,.ptr _ _ _ _ gi hγ hnn⟩
    obtain ⟨y,hfv,hy⟩:=hfv
    obtain ⟨⟨fn,b1,b2,b3⟩,hcalls⟩:=ziX (vs:=#[y] ++ args.map a.eval) hC hi hgl (by simp; omega) (fun j u x h1 h2=>by
     cases j with
     | zero =>
      have e2 : (#[y] ++ args.map a.eval)[0]? = some y:=by rw [Array.getElem?_append_left (by simp)]; rfl
      rw [e2] at h2
      simp at h1; cases h1; cases h2; exact hy
     | succ j =>
      rw [Array.getElem?_append_right (by simp)] at h2
      exact hr j u x (by simpa using h1) (by simpa using h2)) h
    unfold Oper.wp
    have hex : execOp a.eval { dst:=dst,op:=.call ⟨.value fo,args,tys⟩,type:=type,pos:=pos,after:=after,guard:=guard } = callFunc f (#[y] ++ args.map a.eval):=by
     show (do let d ← resolve a.eval ⟨.value fo,args,tys⟩ type; invoke d.target d.args) = _
     simp only [resolve,hfv,Deferred.ofValue,pure_bind,invoke]
     simp
    rw [hex,zh6 b1 b2 b3]
    show Calls P f (#[y] ++ args.map a.eval) w _
    refine hcalls.mono ?_
    rintro e' w' ⟨v,I',γ',rfl,k1,k2,k3⟩
    exact hK v w' I' γ' k1 k2 k3
   ·cases h
  ·cases hnc
end
variable {T : TypeId → Option TI} {C : FuncId → List V → List AObj → Option CRes}
def Agree (g g' : Nat → Option AObj) (l : List Nat) : Prop:=∀ n ∈ l,g' n = g n
theorem Agree.left {g g' : Nat → Option AObj} {a b : List Nat} (h : Agree g g' (a ++ b)) : Agree g g' a:=fun n hn=>h n (List.mem_append_left _ hn)
theorem Agree.right {g g' : Nat → Option AObj} {a b : List Nat} (h : Agree g g' (a ++ b)) : Agree g g' b:=fun n hn=>h n (List.mem_append_right _ hn)
theorem zdy {g g' : Nat → Option AObj} {nm : Nat} {o : AObj} {v : V} {rd : List Nat} {e : Eff} (h : fresh nm o v rd g = some e) (ha : Agree g g' (e.rd ++ e.wr.map (·.1))) : fresh nm o v rd g' = some e:=by
 obtain ⟨h1,h2,h3⟩:=zcC h
 have : g' nm = g nm:=ha.right nm (by rw [h3]; simp)
 unfold fresh at h ⊢
 rw [this]
 exact h
theorem zf7 {g g' : Nat → Option AObj} {x : V} {es : List (List V)} {rd : List Nat} (h : zco g x = some (es,rd)) (ha : Agree g g' rd) : zco g' x = some (es,rd) ∧ zcp g' x = zcp g x ∧ szOf g' x = szOf g x:=by
 unfold zco at h
 split at h
 ·cases h; exact ⟨rfl,rfl,rfl⟩
 ·rename_i nm off n
  split at h
  ·rename_i o hg
   split at h
   ·rename_i hc
    cases h
    have : g' nm = some o:=by rw [ha nm (by simp)]; exact hg
    refine ⟨by simp only [zco,this,if_pos hc],?_,?_⟩ <;> simp [zcp,szOf,this,hg]
   ·cases h
  ·cases h
 ·cases h
theorem znZ {g g' : Nat → Option AObj} {x : V} (ha : Agree g g' (ownRd x)) : ∀ nm off n,x = .own nm off n → g' nm = g nm:=by
 intro nm off n hx
 subst hx
 exact ha nm (by simp [ownRd])
theorem ziV {g g' : Nat → Option AObj} {nm : Nat} {e : TypeId} {x : V} {src : List (List V)} {sfl : Nat} {rd : List Nat} {eff : Eff} (h : zds T g nm e x src sfl rd = some eff) (ha : Agree g g' (eff.rd ++ eff.wr.map (·.1))) : zds T g' nm e x src sfl rd = some eff:=by
 unfold zds at h ⊢
 split at h
 ·cases h
 ·rename_i ei hei
  try simp only
  split at h
  ·cases h
  ·rename_i hsz
   rw [if_neg hsz]
   split at h
   ·split at h
    ·rename_i hc
     rw [if_pos hc]
     exact zdy h ha
    ·cases h
   ·rename_i m off n
    try simp only
    split at h
    ·rename_i o hg
     split at h
     ·cases h
     ·rename_i hc
      split at h
      ·rename_i hc2
       split at h
       ·rename_i hn
        cases h
        have e1 : (g' m).map (cutO n) = some o:=by rw [ha m (by simp)]; exact hg
        have e2 : g' nm = none:=by rw [ha nm (by simp)]; exact hn
        simp only [e1,if_neg hc,if_pos hc2,e2]
       ·cases h
      ·cases h
    ·cases h
   ·cases h
theorem zgy {F F' : V → Option (V × List Nat)} : ∀ {cs : List V},(∀ c ∈ cs,F' c = F c) → zbJ F' cs = zbJ F cs
 | [],_=>rfl
 | c :: cs,h=>by
  simp only [zbJ]
  rw [h c (List.mem_cons_self ..),zgy (cs:=cs) (fun x hx=>h x (List.mem_cons_of_mem _ hx))]
theorem zhO {F F' : V → Option (V × List Nat)} : ∀ {cs : List (List V)},(∀ r ∈ cs,∀ c ∈ r,F' c = F c) → zbH F' cs = zbH F cs
 | [],_=>rfl
 | c :: cs,h=>by
  simp only [zbH]
  rw [zgy (h c (List.mem_cons_self ..)),zhO (cs:=cs) (fun x hx=>h x (List.mem_cons_of_mem _ hx))]
theorem zue {g g' : Nat → Option AObj} {refs : List Nat} : ∀ (k : Nat) {v : V},Agree g g' (zaP g k v) → deepV g' refs k v = deepV g refs k v:=by
 intro k
 induction k with
 | zero=>intro v _; cases v <;> rfl
 | succ k ih =>
  intro v ha
  by_cases hown : ∃ nm off n,v = .own nm off n
  ·obtain ⟨nm,off,n,rfl⟩:=hown
   simp only [zaP] at ha
   simp only [deepV]
   rw [ha nm (List.mem_cons_self ..)]
   cases hg : g nm with
   | none=>rfl
   | some o =>
    rw [hg] at ha
    simp only at ha ⊢
    by_cases hf : o.fl = 0
    ·have e : zbH (deepV g' refs k) ((o.elems.drop off).take n) = zbH (deepV g refs k) ((o.elems.drop off).take n):=by
      refine zhO fun r hr c hc=>ih fun x hx=>ha x (List.mem_cons_of_mem _ ?_)
      rw [if_neg (by simp [hf])]
      exact List.mem_flatMap.2 ⟨r,List.mem_of_mem_drop (List.mem_of_mem_take hr),List.mem_flatMap.2 ⟨c,hc,hx⟩⟩
     simp only [e]
    ·simp only [if_pos (show o.fl ≠ 0 from hf)]
  ·cases v <;> first | rfl | exact absurd ⟨_,_,_,rfl⟩ hown
theorem zkX {g g' : Nat → Option AObj} : ∀ (k : Nat) {v : V},Agree g g' (zaP g k v) → zaP g' k v = zaP g k v:=by
 intro k
 induction k with
 | zero=>intro v _; cases v <;> rfl
 | succ k ih =>
  intro v ha
  by_cases hown : ∃ nm off n,v = .own nm off n
  ·obtain ⟨nm,off,n,rfl⟩:=hown
   simp only [zaP] at ha ⊢
   rw [ha nm (List.mem_cons_self ..)]
   cases hg : g nm with
   | none=>rfl
   | some o =>
    rw [hg] at ha
    simp only at ha ⊢
    by_cases hf : o.fl = 0
    ·rw [if_neg (by simp [hf]),if_neg (by simp [hf])]
     congr 1
     rw [if_neg (by simp [hf])] at ha
     have key : ∀ (l : List (List V)),(∀ r ∈ l,∀ c ∈ r,zaP g' k c = zaP g k c) → (l.flatMap fun r=>r.flatMap (zaP g' k)) = l.flatMap fun r=>r.flatMap (zaP g k):=by
      intro l
      induction l with
      | nil=>intro _; rfl
      | cons r l ihl =>
       intro h
       rw [List.flatMap_cons,List.flatMap_cons,ihl (fun x hx=>h x (List.mem_cons_of_mem _ hx))]
       congr 1
       have h1:=h r (List.mem_cons_self ..)
       clear h
       induction r with
       | nil=>rfl
       | cons c r ihr=>rw [List.flatMap_cons,List.flatMap_cons,h1 c (List.mem_cons_self ..),ihr (fun x hx=>h1 x (List.mem_cons_of_mem _ hx))]
     exact key _ fun r hr c hc=>ih fun x hx=>ha x (List.mem_cons_of_mem _ (List.mem_flatMap.2 ⟨r,hr,List.mem_flatMap.2 ⟨c,hc,hx⟩⟩))
    ·rw [if_pos hf,if_pos hf]
  ·cases v <;> first | rfl | exact absurd ⟨_,_,_,rfl⟩ hown
theorem zkR {g g' : Nat → Option AObj} : ∀ {cs : List V},Agree g g' (zdf g cs) → zdf g' cs = zdf g cs:=by
 have cells : ∀ {cs : List V},Agree g g' (cs.flatMap (zaP g 3)) → cs.flatMap (zaP g' 3) = cs.flatMap (zaP g 3):=by
  intro cs
  induction cs with
  | nil=>intro _; rfl
  | cons c cs ih =>
   intro ha
   rw [List.flatMap_cons] at ha
   rw [List.flatMap_cons,List.flatMap_cons,zkX 3 (fun n hn=>ha n (List.mem_append_left _ hn)),ih (fun n hn=>ha n (List.mem_append_right _ hn))]
 intro cs
 induction cs with
 | nil=>intro _; rfl
 | cons c cs ih =>
  intro ha
  simp only [zdf,List.flatMap_cons] at ha ih ⊢
  rw [ih (fun n hn=>ha n (List.mem_append_right _ hn))]
  congr 1
  have ha1 : Agree g g' (argNm g c):=fun n hn=>ha n (List.mem_append_left _ hn)
  cases c <;> first | exact zkX 3 ha1 | exact cells ha1
theorem zwT {g : Nat → Option AObj} {refs : List Nat} : ∀ (k : Nat) {v v' : V} {bs : List Nat},deepV g refs k v = some (v',bs) → ∀ n ∈ bs,n ∈ zaP g k v:=by
 have base : ∀ {v v' : V} {bs : List Nat} {l : List Nat},(if v.closed then some (v,([] : List Nat)) else none) = some (v',bs) → ∀ n ∈ bs,n ∈ l:=by
  intro v v' bs l h
  split at h
  ·cases h; intro n hn; cases hn
  ·cases h
 have cells : ∀ {F : V → Option (V × List Nat)} {G : V → List Nat},(∀ u v b,F u = some (v,b) → ∀ n ∈ b,n ∈ G u) → ∀ {cs cs' : List V} {bs : List Nat},zbJ F cs = some (cs',bs) → ∀ n ∈ bs,n ∈ cs.flatMap G:=by
  intro F Q hF cs
  induction cs with
  | nil=>intro cs' bs h n hn; cases h; cases hn
  | cons c cs ih =>
   intro cs' bs h n hn
   simp only [zbJ] at h
   split at h
   ·rename_i h1 h2
    cases h
    rw [List.flatMap_cons]
    exact (List.mem_append.1 hn).elim (fun h=>List.mem_append_left _ (hF _ _ _ h1 n h)) (fun h=>List.mem_append_right _ (ih h2 n h))
   ·cases h
 have rows : ∀ {F : V → Option (V × List Nat)} {G : V → List Nat},(∀ u v b,F u = some (v,b) → ∀ n ∈ b,n ∈ G u) → ∀ {cs cs' : List (List V)} {bs : List Nat},zbH F cs = some (cs',bs) → ∀ n ∈ bs,n ∈ cs.flatMap fun r=>r.flatMap G:=by
  intro F Q hF cs
  induction cs with
  | nil=>intro cs' bs h n hn; cases h; cases hn
  | cons c cs ih =>
   intro cs' bs h n hn
   simp only [zbH] at h
   split at h
   ·rename_i h1 h2
    cases h
    rw [List.flatMap_cons]
    exact (List.mem_append.1 hn).elim (fun h=>List.mem_append_left _ (cells hF h1 n h)) (fun h=>List.mem_append_right _ (ih h2 n h))
   ·cases h
 intro k
 induction k with
 | zero =>
  intro v v' bs h
  refine base (v:=v) (v':=v') (bs:=bs) ?_
  rw [← h]; cases v <;> rfl
 | succ k ih =>
  intro v v' bs h
  by_cases hown : ∃ nm off n,v = .own nm off n
  ·obtain ⟨nm,off,n,rfl⟩:=hown
   simp only [deepV] at h
   simp only [zaP]
   split at h
   ·cases h
   ·split at h
    ·rename_i o hg
     split at h
     ·split at h
      ·rename_i rows' bs' hrows
       cases h
       intro x hx
       rcases List.mem_cons.1 hx with rfl | hx
       ·exact List.mem_cons_self ..
       ·refine List.mem_cons_of_mem _ ?_
        try rw [hg]
        try simp only
        split at hrows
        ·cases hrows; cases hx
        ·rename_i hf
         rw [if_neg hf]
         have:=rows (G:=zaP g k) (fun u v b hu=>ih hu) hrows x hx
         obtain ⟨r,hr,hx⟩:=List.mem_flatMap.1 this
         exact List.mem_flatMap.2 ⟨r,List.mem_of_mem_drop (List.mem_of_mem_take hr),hx⟩
      ·cases h
     ·cases h
    ·cases h
  ·refine base (v:=v) (v':=v') (bs:=bs) ?_
   rw [← h]
   cases v <;> first | rfl | exact absurd ⟨_,_,_,rfl⟩ hown
theorem zkS {g g' : Nat → Option AObj} {refs : List Nat} {v : V} (ha : Agree g g' (zaP g 3 v)) : zbI g' refs v = zbI g refs v:=by
 unfold zbI
 cases v <;> try rfl
 rename_i nm off n
 simp only [ha nm (by simp [zaP]),zue 3 ha]
theorem zhK {g g' : Nat → Option AObj} {refs : List Nat} : ∀ {cs : List V},Agree g g' (cs.flatMap (zaP g 3)) → zbr g' refs cs = zbr g refs cs
 | [],_=>rfl
 | c :: cs,ha=>by
  simp only [zbr]
  rw [zkS (v:=c) (fun n hn=>ha n (by simp only [List.flatMap_cons]; exact List.mem_append_left _ hn)),zhK (cs:=cs) (fun n hn=>ha n (by simp only [List.flatMap_cons]; exact List.mem_append_right _ hn))]
theorem zwB {g g' : Nat → Option AObj} {refs : List Nat} {v : V} (ha : Agree g g' (argNm g v)) : argV g' refs v = argV g refs v:=by
 unfold argV
 cases v <;> try (exact zkS ha)
 simp only [zhK ha]
theorem zi7 {g g' : Nat → Option AObj} {refs : List Nat} : ∀ {cs : List V},Agree g g' (zdf g cs) → argVs g' refs cs = argVs g refs cs
 | [],_=>rfl
 | c :: cs,ha=>by
  simp only [argVs]
  rw [zwB (v:=c) (fun n hn=>ha n (by simp only [zdf,List.flatMap_cons]; exact List.mem_append_left _ hn)),zi7 (cs:=cs) (fun n hn=>ha n (by simp only [zdf,List.flatMap_cons]; exact List.mem_append_right _ hn))]
theorem zqw {g : Nat → Option AObj} {refs : List Nat} : ∀ {cs vs : List V} {bs : List Nat},argVs g refs cs = some (vs,bs) → ∀ n ∈ bs,n ∈ zdf g cs:=by
 have one : ∀ {v v' : V} {bs : List Nat},zbI g refs v = some (v',bs) → ∀ n ∈ bs,n ∈ zaP g 3 v:=by
  intro v v' bs h n hn
  unfold zbI at h
  split at h
  ·split at h
   ·cases h; cases hn
   ·split at h
    ·split at h
     ·cases h
      have : n = _:=List.mem_singleton.1 hn
      subst this
      exact List.mem_cons_self ..
     ·split at h
      ·exact zwT 3 h n hn
      ·cases h
    ·cases h
  ·split at h
   ·cases h; cases hn
   ·cases h
  ·split at h
   ·cases h; cases hn
   ·cases h
  ·split at h
   ·cases h; cases hn
   ·cases h
 have cells : ∀ {cs vs : List V} {bs : List Nat},zbr g refs cs = some (vs,bs) → ∀ n ∈ bs,n ∈ cs.flatMap (zaP g 3):=by
  intro cs
  induction cs with
  | nil=>intro vs bs h n hn; cases h; cases hn
  | cons c cs ih =>
   intro vs bs h n hn
   simp only [zbr] at h
   split at h
   ·rename_i h1 h2
    cases h
    rw [List.flatMap_cons]
    exact (List.mem_append.1 hn).elim (fun h=>List.mem_append_left _ (one h1 n h)) (fun h=>List.mem_append_right _ (ih h2 n h))
   ·cases h
 have val : ∀ {v v' : V} {bs : List Nat},argV g refs v = some (v',bs) → ∀ n ∈ bs,n ∈ argNm g v:=by
  intro v v' bs h n hn
  unfold argV at h
  split at h
  ·rename_i cs
   cases hcs : zbr g refs cs with
   | none=>rw [hcs] at h; cases h
   | some p=>obtain ⟨a,b⟩:=p; rw [hcs] at h; cases h; exact cells hcs n hn
  ·rename_i hne
   have:=one h n hn
   cases v <;> first | exact this | exact absurd rfl (hne _)
 intro cs
 induction cs with
 | nil=>intro vs bs h n hn; cases h; cases hn
 | cons c cs ih =>
  intro vs bs h n hn
  simp only [argVs] at h
  split at h
  ·rename_i h1 h2
   cases h
   simp only [zdf]
   rw [List.flatMap_cons]
   exact (List.mem_append.1 hn).elim (fun h=>List.mem_append_left _ (val h1 n h)) (fun h=>List.mem_append_right _ (ih h2 n h))
  ·cases h
theorem zda : ∀ {cs : List V},∀ n ∈ za1 cs,n ∈ cs.flatMap zaU
 | [],n,h=>by cases h
 | c :: cs,n,h=>by
  rw [List.flatMap_cons]
  cases c <;> simp only [za1] at h <;> try exact List.mem_append_right _ (zda n h)
  split at h
  ·exact List.mem_append_right _ (zda n h)
  ·rcases List.mem_cons.1 h with rfl | h
   ·exact List.mem_append_left _ (by simp [zaU,zbR])
   ·exact List.mem_append_right _ (zda n h)
theorem zm8 {cs : List V} : ∀ n ∈ zca cs,n ∈ cs.flatMap zaU:=by
 have : ∀ (r l : List Nat) (n : Nat),n ∈ zeD l r → n ∈ l ∨ n ∈ r:=by
  intro r
  induction r with
  | nil=>intro l n h; exact .inl h
  | cons m r ih =>
   intro l n h
   simp only [zeD] at h
   split at h
   ·exact (ih l n h).imp id (List.mem_cons_of_mem _)
   ·rcases ih _ n h with h | h
    ·rcases List.mem_append.1 h with h | h
     ·exact .inl h
     ·simp at h; subst h; exact .inr (List.mem_cons_self ..)
    ·exact .inr (List.mem_cons_of_mem _ h)
 intro n hn
 rcases this _ _ n hn with h | h
 ·cases h
 ·exact h
theorem zj4 {g g' : Nat → Option AObj} : ∀ {l : List Nat},Agree g g' l → zdB g' l = zdB g l
 | [],_=>rfl
 | n :: l,ha=>by
  simp only [zdB]
  rw [ha n (by simp),zj4 (l:=l) (fun m hm=>ha m (List.mem_cons_of_mem _ hm))]
theorem zeR {g g' : Nat → Option AObj} {nm : Nat} : ∀ {k : Nat},(∀ j,j < k → g' (nm + j) = g (nm + j)) → zdj g' nm k = zdj g nm k
 | 0,_=>rfl
 | k + 1,h=>by
  simp only [zdj]
  rw [h k (by omega),zeR (k:=k) (fun j hj=>h j (by omega))]
theorem zhn {g g' : Nat → Option AObj} : ∀ {l : List Nat},Agree g g' l → freeze g' l = freeze g l
 | [],_=>rfl
 | n :: l,ha=>by
  simp only [freeze]
  rw [ha n (by simp),zhn (l:=l) (fun m hm=>ha m (List.mem_cons_of_mem _ hm))]
theorem zrq {g g' : Nat → Option AObj} {nm : Nat} {f : FuncId} {args : List V} {refs : List Nat} (hrefs : ∀ n ∈ refs,n ∈ args.flatMap zaU) (ha0 : Agree g g' (args.flatMap zaU)) (ha : Agree g g' (zdf g args)) (hf : ∀ j,j < 8 → g' (nm + j) = g (nm + j)) : zdU C g' nm f args refs = zdU C g nm f args refs:=by
 unfold zdU
 rw [zi7 ha,zj4 (fun n hn=>ha0 n (hrefs n hn)),zeR hf]
 split
 ·rename_i vs bs os h1 h2
  rw [zhn (l:=bs) (fun n hn=>ha n (zqw h1 n hn))]
 ·rfl
theorem zdN : ∀ {L : List (Nat × AObj)} {g g' : Nat → Option AObj} {l : List Nat},Agree g g' l → Agree (zas g L) (zas g' L) l
 | [],_,_,_,h=>h
 | (k,o) :: L,g,g',l,h=>zdN (L:=L) (g:=upd g k (some o)) (g':=upd g' k (some o)) fun n hn=>by
  unfold upd; split
  ·rfl
  ·exact h n hn
theorem zth {g g' : Nat → Option AObj} : ∀ (k : Nat) {l : List Nat},Agree g g' (l.flatMap (visit g k)) → l.flatMap (visit g' k) = l.flatMap (visit g k):=by
 intro k
 induction k with
 | zero=>intro l _; rfl
 | succ k ih =>
  have one : ∀ n,Agree g g' (visit g (k + 1) n) → visit g' (k + 1) n = visit g (k + 1) n:=by
   intro n h
   have h0 : g' n = g n:=h n (by simp [visit])
   simp only [visit,h0]
   cases hg : g n with
   | none=>rfl
   | some o =>
    simp only
    split
    ·rfl
    ·rename_i hfl
     split
     ·rename_i row hrow
      congr 1
      refine ih fun m hm=>h m ?_
      simp only [visit,hg,if_neg hfl,hrow]
      exact List.mem_cons_of_mem _ hm
     ·rfl
  intro l
  induction l with
  | nil=>intro _; rfl
  | cons n l ihl =>
   intro h
   simp only [List.flatMap_cons] at h ⊢
   rw [one n h.left,ihl h.right]
theorem zi3 {g g' : Nat → Option AObj} : ∀ {l : List Nat},Agree g g' l → zdt g' l = zdt g l
 | [],_=>rfl
 | n :: l,h=>by
  simp only [zdt]
  rw [h n (by simp),zi3 (l:=l) fun m hm=>h m (List.mem_cons_of_mem _ hm)]
theorem zrB {g g' : Nat → Option AObj} {refs : List Nat} (h : Agree g g' refs) (h2 : Agree g g' (zf1 g refs)) : zcL g' refs = zcL g refs ∧ zf1 g' refs = zf1 g refs:=by
 unfold zcL zf1
 unfold zf1 at h2
 rw [zi3 h]
 by_cases hs : zdt g refs = true
 ·simp only [if_pos hs,and_self]
 ·simp only [if_neg hs] at h2 ⊢
  rw [zth 4 h2]
  refine ⟨?_,rfl⟩
  have : zd7 (refs.flatMap (visit g 4)) g' = zd7 (refs.flatMap (visit g 4)) g:=by
   funext n
   unfold zd7
   split
   ·rename_i hc; exact h2 n (by simpa using hc)
   ·rfl
  rw [this]
theorem zh3 {g g' : Nat → Option AObj} {refs : List Nat} : ∀ {l : List Nat},Agree g g' l → zck g' refs l = zck g refs l
 | [],_=>rfl
 | n :: l,ha=>by
  simp only [zck]
  rw [ha n (by simp),zh3 (l:=l) (fun m hm=>ha m (List.mem_cons_of_mem _ hm))]
theorem zlx {g g' : Nat → Option AObj} {v : V} (h : Agree g g' (zbR v)) : zcg g' v = zcg g v:=by
 cases v <;> try rfl
 rename_i nm off n
 simp only [zcg]
 rw [h nm (by simp [zbR])]
theorem zsU {g g' : Nat → Option AObj} {v : V} (h : Agree g g' (zaU v)) : zbC g' v = zbC g v:=by
 cases v with
 | agg cs =>
  simp only [zbC]
  simp only [zaU] at h
  induction cs with
  | nil=>rfl
  | cons c cs ih =>
   simp only [List.flatMap_cons] at h ⊢
   rw [zlx h.left,ih h.right]
 | own a b c=>exact zlx (v:=.own a b c) h
 | _=>rfl
theorem zlz {g : Nat → Option AObj} {v : V} : ∀ n ∈ zcg g v,n ∈ zbR v:=by
 intro n hn
 cases v <;> simp only [zcg] at hn <;> first | cases hn; done | skip
 ·split at hn
  ·split at hn
   ·cases hn
   ·exact hn
  ·cases hn
 ·exact hn
 ·exact hn
theorem zsV {g : Nat → Option AObj} {v : V} : ∀ n ∈ zbC g v,n ∈ zaU v:=by
 intro n hn
 cases v with
 | agg cs =>
  simp only [zbC,zaU,List.mem_flatMap] at hn ⊢
  obtain ⟨c,h1,h2⟩:=hn
  exact ⟨c,h1,zlz n h2⟩
 | own a b c=>exact zlz (v:=.own a b c) n hn
 | ptr a b c=>exact hn
 | mth a b=>exact hn
 | _=>cases hn
theorem zmp {g g' : Nat → Option AObj} {args : List V} (h : Agree g g' (zca args)) : zdz g' args = zdz g args:=by
 have h0 : Agree g g' (args.flatMap zaU):=fun n hn=>h n (zfs (.inr hn))
 have e1 : args.flatMap (zbC g') = args.flatMap (zbC g):=by
  clear h
  induction args with
  | nil=>rfl
  | cons a l ih =>
   simp only [List.flatMap_cons] at h0 ⊢
   rw [zsU h0.left,ih h0.right]
 unfold zdz
 rw [e1]
 congr 1
 have h2 : Agree g g' (args.flatMap (zbC g)):=fun n hn=>by
  simp only [List.mem_flatMap] at hn
  obtain ⟨a,a1,a2⟩:=hn
  exact h0 n (List.mem_flatMap.2 ⟨a,a1,zsV n a2⟩)
 generalize args.flatMap (zbC g) = l at h2
 induction l with
 | nil=>rfl
 | cons n l ih =>
  simp only [List.flatMap_cons]
  rw [ih fun m hm=>h2 m (List.mem_cons_of_mem _ hm)]
  unfold zgr
  rw [h2 n (by simp)]
theorem zmS {g : Nat → Option AObj} {nm : Nat} {f : FuncId} {args : List V} {refs : List Nat} {e : Eff} (h : zgo C g nm f args refs = some e) : ∃ bs,e.rd = zca args ++ zdf g args ++ refs ++ bs ++ (List.range 8).map (nm + ·):=by
 unfold zgo at h
 split at h
 ·split at h
  ·split at h
   ·split at h
    ·cases h; exact ⟨_,rfl⟩
    ·cases h
   ·cases h
  ·cases h
 ·cases h
theorem zrp {g g' : Nat → Option AObj} {nm : Nat} {f : FuncId} {args : List V} {refs : List Nat} {e : Eff} (h : zgo C g nm f args refs = some e) (ha : Agree g g' e.rd) : zgo C g' nm f args refs = some e:=by
 obtain ⟨bs,hrd⟩:=zmS h
 rw [hrd] at ha
 have h1 : Agree g g' (zdf g args):=fun n hn=>ha n (by simp [hn])
 have h2 : Agree g g' refs:=fun n hn=>ha n (by simp [hn])
 have h3 : ∀ j,j < 8 → g' (nm + j) = g (nm + j):=fun j hj=>ha _ (List.mem_append_right _ (List.mem_map.2 ⟨j,List.mem_range.2 hj,rfl⟩))
 rw [← h]
 unfold zgo
 rw [zi7 h1,zh3 h2,zeR h3,zkR h1]
 split
 ·rename_i vs bs os q1 q2
  rw [zhn (l:=bs) (fun n hn=>h1 n (zqw q1 n hn))]
 ·rfl
theorem ziW {g g' : Nat → Option AObj} {nm : Nat} {f : FuncId} {args : List V} {e : Eff} (h : aCall C g nm f args = some e) (ha : Agree g g' (e.rd ++ e.wr.map (·.1))) : aCall C g' nm f args = some e:=by
 have hrd' : ∀ {refs : List Nat} {e1 : Eff} {L : List (Nat × AObj)},zdU C (zas g L) nm f args refs = some e1 → ∀ j,j < 8 → nm + j ∈ e1.rd:=by
  intro refs e1 L h1 j hj
  unfold zdU at h1
  split at h1
  ·split at h1
   ·split at h1
    ·simp only at h1
     split at h1
     ·cases h1
      exact List.mem_append_right _ (List.mem_map.2 ⟨j,List.mem_range.2 hj,rfl⟩)
     ·cases h1
    ·cases h1
   ·cases h1
  ·cases h1
 have main : ∀ {refs : List Nat},(∀ n ∈ refs,n ∈ args.flatMap zaU) → Agree g g' (args.flatMap zaU) → Agree g g' (zdw g args refs) → (∀ j,j < 8 → g' (nm + j) = g (nm + j)) →
  zcL g' refs = zcL g refs ∧ zdw g' args refs = zdw g args refs ∧ zdU C (zas g' (zcL g refs)) nm f args refs = zdU C (zas g (zcL g refs)) nm f args refs:=by
  intro refs hr hn hc hf
  obtain ⟨q1,q2⟩:=zrB (fun n hm=>hn n (hr n hm)) hc.right
  have q3 : Agree (zas g (zcL g refs)) (zas g' (zcL g refs)) (zdf (zas g (zcL g refs)) args):=zdN hc.left
  refine ⟨q1,?_,zrq hr (zdN hn) q3 fun j hj=>zdN (l:=[nm + j]) (fun n hm=>by simp at hm; subst hm; exact hf j hj) _ (by simp)⟩
  unfold zdw
  rw [q1,q2,zkR q3]
 have names : ∀ {e1 : Eff} {L : List (Nat × AObj)} {R : List Nat} {refs : List Nat},zdU C (zas g L) nm f args refs = some e1 → e = e1.behind L (zca args ++ R) → Agree g g' (args.flatMap zaU) ∧ Agree g g' R ∧ ∀ j,j < 8 → g' (nm + j) = g (nm + j):=by
  intro e1 L R refs h1 he
  subst he
  have ha':=ha.left
  refine ⟨fun n hn=>ha' n (List.mem_append_right _ (List.mem_append_left _ (zfs (.inr hn)))),fun n hn=>ha' n (List.mem_append_right _ (List.mem_append_right _ hn)),fun j hj=>ha' _ (List.mem_append_left _ (hrd' h1 j hj))⟩
 unfold aCall at h
 split at h
 ·rename_i hlk
  have hl : zdz g' args = zdz g args:=zmp fun n hn=>by
   refine ha.left n ?_
   obtain ⟨bs,hrd⟩:=zmS h
   rw [hrd]; simp [hn]
  unfold aCall
  rw [if_pos hlk,hl]
  exact zrp h ha.left
 rename_i hlk
 split at h
 ·rename_i e1 h1
  obtain ⟨n1,n2,n3⟩:=names (R:=zdw g args (za1 args)) h1 (by cases h; rfl)
  obtain ⟨m1,m2,m3⟩:=main zda n1 n2 n3
  unfold aCall
  rw [if_neg hlk,m1,m2,m3,h1]; exact h
 ·rename_i h0
  split at h
  ·rename_i e1 h1
   obtain ⟨n1,n2,n3⟩:=names (R:=zdw g args (za1 args) ++ zdw g args (zca args)) h1 (by cases h; simp)
   obtain ⟨m1,m2,m3⟩:=main zda n1 n2.left n3
   obtain ⟨k1,k2,k3⟩:=main zm8 n1 n2.right n3
   unfold aCall
   rw [if_neg hlk,m1,m2,m3,k1,k2,k3,h0,h1]; exact h
  ·cases h
theorem ziY {g g' : Nat → Option AObj} {t : TypeId} {x : V} {e : Eff} (h : aLoad T g t x = some e) (ha : Agree g g' (e.rd ++ e.wr.map (·.1))) : aLoad T g' t x = some e:=by
 unfold aLoad at h ⊢
 split at h
 ·cases h
 ·rename_i ti ht
  try simp only
  split at h
  ·exact h
  ·rename_i n i j
   try simp only
   split at h
   ·rename_i o hg
    split at h
    ·cases h
    ·rename_i hmd
     split at h
     ·rename_i r hr
      obtain ⟨v,hv,he⟩:=Option.map_eq_some_iff.1 h
      have : g' n = some o:=by rw [ha.left n (by rw [← he]; simp)]; exact hg
      simp only [this,if_neg hmd,hr]
      exact h
     ·cases h
   ·cases h
  ·cases h
theorem zrs {g g' : Nat → Option AObj} {nm : Nat} {t : TypeId} {x : V} {e : Eff} (h : zhG T g nm t x = some e) (ha : Agree g g' (e.rd ++ e.wr.map (·.1))) : zhG T g' nm t x = some e:=by
 unfold zhG at h ⊢
 split at h
 ·rename_i n i j
  split at h
  ·rename_i o hg
   have hn : n ∈ e.rd → g' n = some o:=fun hm=>by rw [ha.left n hm]; exact hg
   have ofLoad : aLoad T g t (.ptr n i j) = some e → n ∈ e.rd:=by
    intro hl
    unfold aLoad at hl
    split at hl
    ·cases hl
    ·simp only [hg] at hl
     split at hl
     ·cases hl
     ·split at hl
      ·obtain ⟨v,hv,he⟩:=Option.map_eq_some_iff.1 hl
       rw [← he]; simp
      ·cases hl
   split at h
   ·rename_i hfl
    simp only [hn (ofLoad h),if_pos hfl]
    exact ziY h ha
   ·rename_i hfl
    unfold zkN at h
    split at h
    ·rename_i r hr
     split at h
     ·rename_i sl et es rows tight fl hc
      split at h
      ·rename_i hcond
       split at h
       ·rename_i hnm
        cases h
        have e1 : g' n = some o:=hn (by simp)
        have e2 : g' nm = none:=by rw [ha.right nm (by simp)]; exact hnm
        simp only [e1,if_neg hfl,zkN,hr,hc,if_pos hcond,e2]
       ·cases h
      ·cases h
     ·rename_i hne
      have e1:=hn (ofLoad h)
      simp only [e1,if_neg hfl]
      have:=ziY h ha
      unfold zkN
      simp only [hr]
      first
       | exact this
       | (split
          ·rename_i sl et es rows tight fl hc
           exact absurd hc (hne sl et es rows tight fl)
          ·exact this)
    ·cases h
  ·cases h
 ·exact ziY h ha
theorem ztN {ρ : Operand → V} {g g' : Nat → Option AObj} {nm : Nat} {op : Op} {e : Eff} (h : aop T C ρ g nm op = some e) (ha : Agree g g' (e.rd ++ e.wr.map (·.1))) : aop T C ρ g' nm op = some e:=by
 unfold aop at h ⊢
 split at h
 case h_4 t =>
  try simp only
  split at h
  ·rename_i ei hei
   split at h
   ·rename_i hc; rw [if_pos hc]; exact zdy h ha
   ·cases h
  ·cases h
 case h_5 t x =>
  try simp only
  split at h
  ·rename_i hc; rw [if_pos hc]; exact zdy h ha
  ·cases h
 case h_7 t len ps =>
  try simp only
  unfold zcW at h ⊢
  split at h
  ·rename_i el hd
   try simp only
   split at h
   ·rename_i ei hei
    try simp only
    split at h
    ·rename_i hc
     rw [if_pos hc]
     split at h
     ·rename_i cs hf
      split at h
      ·rename_i hcel; simp only [hf,if_pos hcel]; exact zdy h ha
      ·cases h
     ·cases h
    ·cases h
   ·cases h
  ·cases h
 case h_8 t x =>
  try simp only
  exact zrs h ha
 case h_9 t x y =>
  try simp only
  unfold zkP at h ⊢
  split at h
  ·rename_i ti n i j ht hx
   try simp only
   split at h
   ·rename_i o hg
    split at h
    ·rename_i hmd
     split at h
     ·rename_i r hr
      split at h
      ·rename_i hc
       cases h
       have : g' n = some o:=by rw [ha.left n (by simp)]; exact hg
       simp only [this,if_pos hmd,hr,if_pos hc]
      ·cases h
     ·cases h
    ·cases h
   ·cases h
  ·cases h
 case h_13 src dst x =>
  try simp only
  unfold aConv at h ⊢
  split at h
  ·exact h
  ·exact h
  ·rename_i el h1 h2 h3
   split at h
   ·rename_i hb
    split at h
    ·rename_i es rd he
     obtain ⟨l,hl,hee⟩:=Option.map_eq_some_iff.1 h
     have hag : Agree g g' rd:=by intro n hn; exact ha.left n (by rw [← hee]; exact hn)
     simp only [if_pos hb,(zf7 he hag).1]
     exact h
    ·cases h
   ·cases h
  ·rename_i el s h1 h2
   split at h
   ·rename_i hb; simp only [if_pos hb]; exact zdy h ha
   ·cases h
  ·cases h
 case h_14 t l c =>
  try simp only
  unfold aMake at h ⊢
  split at h
  ·rename_i el kl l kc c hd _ _
   try simp only
   split at h
   ·rename_i ei hei
    try simp only
    split at h
    ·rename_i hc; rw [if_pos hc]; exact zdy h ha
    ·cases h
   ·cases h
  ·cases h
 case h_15 t x lo hi mx =>
  try simp only
  obtain ⟨v,hv,he⟩:=Option.map_eq_some_iff.1 h
  have hag : Agree g g' (ownRd (ρ x)):=by intro n hn; exact ha.left n (by rw [← he]; exact hn)
  have hl:=znZ hag
  have : zhH T g' t (ρ x) (lo.map ρ) (hi.map ρ) (mx.map ρ) = zhH T g t (ρ x) (lo.map ρ) (hi.map ρ) (mx.map ρ):=by
   unfold zhH
   split
   ·rfl
   ·rfl
   ·rename_i hx; rw [hl _ _ _ hx]
   ·rfl
  rw [this]; exact h
 case h_18 t x i =>
  try simp only
  obtain ⟨v,hv,he⟩:=Option.map_eq_some_iff.1 h
  have hag : Agree g g' (ownRd (ρ x)):=by intro n hn; exact ha.left n (by rw [← he]; exact hn)
  have hl:=znZ hag
  have : zcA T g' t (ρ x) (ρ i) = zcA T g t (ρ x) (ρ i):=by
   unfold zcA
   split
   ·rfl
   ·rename_i hx _; rw [hl _ _ _ hx]
   ·rfl
   ·rfl
   ·rfl
  rw [this]; exact h
 case h_21 b args tys =>
  try simp only
  unfold ze8 at h ⊢
  split at h
  ·exact h
  ·exact h
  ·rename_i x y
   try simp only
   split at h
   ·rename_i el tt tx h1 h2
    try simp only
    split at h
    ·rename_i s h3 h4
     split at h
     ·rename_i hb; simp only [if_pos hb]; exact ziV h ha
     ·cases h
    ·rename_i e' h3
     split at h
     ·rename_i es rd he
      split at h
      ·rename_i hsz
       have hag : Agree g g' rd:=by
        unfold zds at h
        split at h
        ·cases h
        ·split at h
         ·cases h
         ·split at h
          ·split at h
           ·unfold fresh at h
            split at h
            ·cases h; exact ha.left
            ·cases h
           ·cases h
          ·split at h
           ·split at h
            ·cases h
            ·split at h
             ·split at h
              ·cases h; intro n hn; exact ha.left n (List.mem_cons_of_mem _ hn)
              ·cases h
             ·cases h
           ·cases h
          ·cases h
       obtain ⟨k1,k2,k3⟩:=zf7 he hag
       simp only [k1,k2,k3,if_pos hsz]
       exact ziV h ha
      ·cases h
     ·cases h
    ·try simp only
     split at h
     ·unfold zm3 at h ⊢
      split at h
      ·try simp only
       split at h
       ·rename_i hc; rw [if_pos hc]; exact zdy h ha
       ·cases h
      ·cases h
     ·cases h
    ·cases h
   ·cases h
  ·exact h
  ·exact h
  ·unfold aCopy at h ⊢
   split at h
   ·try simp only
    split at h
    ·rename_i el e' m off n es rd h1 h2 he _
     split at h
     ·rename_i ei o hei hg
      split at h
      ·rename_i hc
       cases h
       have hag : Agree g g' rd:=by intro n hn; exact ha.left n (List.mem_cons_of_mem _ hn)
       have hm : g' m = some o:=by rw [ha.left m (List.mem_cons_self ..)]; exact hg
       obtain ⟨k1,k2,k3⟩:=zf7 he hag
       have hc':=hc
       rw [← k3] at hc'
       simp only [h1,h2,k1,k2,hei,hm,if_pos hc']
      ·cases h
     ·cases h
    ·cases h
   ·cases h
  ·cases h
 case h_22 f args tys =>
  try simp only
  split at h
  ·exact ziW h ha
  ·exact ziW h ha
  ·exact ziW h ha
  ·cases h
 all_goals first | exact h | cases h
variable {P : Program} {T : TypeId → Option TI} {C : FuncId → List V → List AObj → Option CRes}
structure Sim (w0 : World) (ex : Ex) (N : Nat) (st : St) (a : Act) (w : World) (I : Nat → Prop) (γ : Nat → Option GI) : Prop where
 size : a.tmps.size = N
 slots : ∀ n,Rd w I γ (st.s n) (a.tmps.getD n undef)
 inv : Inv w0 ex I γ st.g w
 defers : a.defers = []
 glob : GlobAt w I
theorem Sim.ev {w0 ex N st a w I γ} (h : Sim w0 ex N st a w I γ) (x : Operand) : Rd w I γ (st.ev x) (a.eval x):=by
 cases x with
 | tmp t=>exact h.slots t
 | const v=>exact Rd.ofConst w I γ v
 | global g =>
  show Rd w I γ (match GLB g with | some cs=>V.pp cs | none=>.junk) _
  cases hg : GLB g with
  | none=>exact .junk _ _
  | some cs =>
   refine .pp _ cs _ (fun j=>(w.cell? ⟨g,j,none⟩).getD undef) (fun j u hu=>?_) (fun j u hu=>?_)
   ·obtain ⟨h1,x,h2,h3⟩:=h.glob g cs hg j u hu
    refine ⟨h1,?_⟩
    rw [zcx,Nat.zero_add,h2]; rfl
   ·obtain ⟨h1,x,h2,h3⟩:=h.glob g cs hg j u hu
    simp only [h2]; exact h3
 | func f=>exact .fn _ _
theorem Sim.put {w0 ex N st a w I γ} (h : Sim w0 ex N st a w I γ) {d : Option Tmp} (hd : ∀ t,d = some t → t < N) {v : V} {x : Value} {g' : Nat → Option AObj} {w' I' γ'} (hr : Rd w' I' γ' v x) (hi : Inv w0 ex I' γ' g' w') (he : Ext I γ w I' γ' w') :
 Sim w0 ex N { st with s:=putS st.s d v,g:=g' } (a.put d x) w' I' γ':=by
 cases d with
 | none=>exact ⟨h.size,fun n=>he.rd (h.slots n),hi,h.defers,he.glob h.glob⟩
 | some t =>
  have ht:=hd t rfl
  refine ⟨by simp [Act.put,h.size],fun n=>?_,hi,h.defers,he.glob h.glob⟩
  by_cases e : n = t
  ·subst e
   simp only [putS,zaD,Act.put]
   have : (a.tmps.setIfInBounds n x).getD n undef = x:=by simp [Array.getD,h.size,ht]
   rw [this]; exact hr
  ·simp only [putS,zaz _ _ e,Act.put]
   have : (a.tmps.setIfInBounds t x).getD n undef = a.tmps.getD n undef:=by
    rw [Array.getD_eq_getD_getElem?,Array.getD_eq_getD_getElem?,Array.getElem?_setIfInBounds_ne (fun h=>e h.symm)]
   rw [this]; exact he.rd (h.slots n)
theorem zjL {w0 ex N st a w I γ} (h : Sim w0 ex N st a w I γ) {ops : Array Oper} {o : Oper} {b : Bool} (hg : zcq ops o st.s = some b) : Region.wanted o (yielded ops a.tmps) = b:=by
 unfold zcq at hg
 unfold Region.wanted
 split at hg
 ·rename_i h0; rw [h0]; cases hg; rfl
 ·rename_i j want h0
  rw [h0]
  simp only
  split at hg
  ·rename_i d hd
   split at hg
   ·rename_i c hs
    cases hg
    have hr:=h.slots d
    rw [hs] at hr
    have hv : a.tmps[d]? = some (.bool c):=by
     generalize hx : a.tmps.getD d undef = x at hr
     cases hr
     rw [Array.getD_eq_getD_getElem?] at hx
     cases hk : a.tmps[d]? with
     | none=>rw [hk] at hx; cases hx
     | some y=>rw [hk] at hx; rw [← hx]; rfl
    have : yielded ops a.tmps j = some c:=by unfold yielded; rw [hd]; simp [hv]
    rw [this]
    cases c <;> cases want <;> rfl
   ·rename_i hs
    cases hg
    have hr:=h.slots d
    rw [hs] at hr
    have hv : a.tmps.getD d undef = .tuple #[]:=by
     generalize hx : a.tmps.getD d undef = x at hr
     cases hr with
     | tup _ _ xs hl _ =>
      have : xs = #[]:=Array.eq_empty_of_size_eq_zero hl.symm
      rw [this]
    have : yielded ops a.tmps j = none:=by
     unfold yielded
     rw [hd]
     rw [Array.getD_eq_getD_getElem?] at hv
     cases hk : a.tmps[d]? with
     | none=>simp [hk]
     | some y=>rw [hk] at hv; simp at hv; subst hv; simp [hk]
    rw [this]
    rfl
   ·cases hg
  ·cases hg
theorem zi9 (hT : zaJ P T) (hC : zai P C) {w0 ex N st a w I γ} (h : Sim w0 ex N st a w I γ) {ops : Array Oper} {i : Nat} {st' : St} {rd wr : List Nat} (hs : astep T C ops i st = some (st',rd,wr))
 (hN : ∀ (o : Oper) t,ops[i]? = some o → o.dst = some t → t < N) {K : Act → World → Prop} {Q : Exit → Act → World → Prop} (hK : ∀ a' w' I' γ',Sim w0 ex N st' a' w' I' γ' → K a' w') : wpOp P ops Q i K a w:=by
 unfold astep at hs
 unfold wpOp
 split at hs
 ·cases hs
 ·rename_i o ho
  rw [ho]
  simp only
  split at hs
  ·cases hs
  ·rename_i hg
   cases hs
   rw [zjL h hg]
   simp only [Bool.false_eq_true,if_false]
   have:=h.put (d:=o.dst) (fun t ht=>hN o t ho ht) (v:=.tup []) (x:=undef) (.tup _ [] #[] rfl (fun j u x hu=>by simp at hu)) h.inv (Ext.refl _ _ _)
   exact hK _ _ _ _ this
  ·rename_i hg
   split at hs
   ·cases hs
   ·rename_i e he
    cases hs
    rw [zjL h hg]
    simp only [if_true]
    exact .inl (op_wp hT hC h.inv h.glob h.ev he fun x w' I' γ' h1 h2 h3=>hK _ _ _ _ (h.put (fun t ht=>hN o t ho ht) h1 h2 h3))
noncomputable def runL (T : TypeId → Option TI) (C : FuncId → List V → List AObj → Option CRes) (ops : Array Oper) : List Nat → St → Option (St × List (Nat × List Nat × List Nat))
 | [],st=>some (st,[])
 | i :: r,st=>match astep T C ops i st with
  | some (st',rd,wr)=>match runL T C ops r st' with
   | some (st'',l)=>some (st'',(i,rd,wr) :: l)
   | none=>none
  | none=>none
theorem zls (hT : zaJ P T) (hC : zai P C) {w0 ex N} {ops : Array Oper} (hN : ∀ (i : Nat) (o : Oper) t,ops[i]? = some o → o.dst = some t → t < N) {Q : Exit → Act → World → Prop} : ∀ {l : List Nat} {st st' : St} {fp a w I γ},Sim w0 ex N st a w I γ → runL T C ops l st = some (st',fp) →
 (∀ a' w' I' γ',Sim w0 ex N st' a' w' I' γ' → Q .normal a' w') → wpOps P ops Q l a w
 | [],st,st',fp,a,w,I,γ,h,hr,hQ=>by cases hr; exact hQ _ _ _ _ h
 | i :: l,st,st',fp,a,w,I,γ,h,hr,hQ=>by
  rw [wpOps_cons]
  simp only [runL] at hr
  split at hr
  ·rename_i st1 rd wr hs
   split at hr
   ·rename_i st2 l' h2
    cases hr
    exact zi9 hT hC h hs (hN i) fun a' w' I' γ' h'=>zls hT hC hN h' h2 hQ
   ·cases hr
  ·cases hr
theorem zgp {ρ ρ' : Operand → V} {g : Nat → Option AObj} {nm : Nat} {op : Op} (h : ∀ x ∈ op.operands,ρ' x = ρ x) : aop T C ρ' g nm op = aop T C ρ g nm op:=by
 have pairs : ∀ ps : Array (Nat × Operand),(∀ x ∈ ps.map (·.2),ρ' x = ρ x) → (ps.toList.map fun (i,x)=>(i,ρ' x)) = (ps.toList.map fun (i,x)=>(i,ρ x)):=fun ps hp =>
  List.map_congr_left fun p hm=>by
   obtain ⟨i,x⟩:=p
   simp only [hp x (Array.mem_map.2 ⟨(i,x),Array.mem_toList_iff.1 hm,rfl⟩)]
 have opt : ∀ o : Option Operand,(∀ x ∈ o.toArray,ρ' x = ρ x) → o.map ρ' = o.map ρ:=fun o ho=>by
  cases o with
  | none=>rfl
  | some x=>simp [ho x (by simp)]
 unfold aop
 cases op <;> simp only [Op.operands] at h <;> simp only
 case build t ps=>rw [pairs ps fun x hx=>h x (by simpa using hx)]
 case buildSlice t n ps=>rw [pairs ps fun x hx=>h x (by simpa using hx)]
 case slice t x lo hi mx=>rw [h x (by simp),opt lo (fun y hy=>h y (by simp at hy ⊢; exact .inr (.inl hy))),opt hi (fun y hy=>h y (by simp at hy ⊢; exact .inr (.inr (.inl hy)))),opt mx (fun y hy=>h y (by simp at hy ⊢; exact .inr (.inr (.inr hy))))]
 case call c =>
  obtain ⟨cal,args,tys⟩:=c
  have ha : args.toList.map ρ' = args.toList.map ρ:=List.map_congr_left fun x hx=>h x (by simp only [Call.operands,Array.mem_append]; exact .inr (Array.mem_toList_iff.1 hx))
  cases cal with
  | value f=>simp only [ha,h f (by simp [Call.operands])]
  | builtin b=>simp only [ha]
  | invoke r m=>rfl
 case makeFunc fn first caps =>
  have hc : caps.toList.map ρ' = caps.toList.map ρ:=List.map_congr_left fun x hx=>h x (by simp only [Array.mem_append]; exact .inr (Array.mem_toList_iff.1 hx))
  have hf : first.toList.map ρ' = first.toList.map ρ:=List.map_congr_left fun x hx=>h x (by simp only [Array.mem_append]; exact .inl (Array.mem_toList_iff.1 hx))
  cases fn <;> simp only [hc,hf]
 all_goals (first | rfl | (simp_all; done))
end Go.Lift

