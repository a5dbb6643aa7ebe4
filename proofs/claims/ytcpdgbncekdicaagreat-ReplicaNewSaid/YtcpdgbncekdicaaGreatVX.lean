/-
  What the last texts need besides.
-/
import Derived.Test.YtcpdgbncekdicaaGreatV6
set_option linter.unusedSimpArgs false
set_option linter.unusedVariables false
namespace Go.Lift
variable {P : Program} {T : TypeId → Option TI} {C : FuncId → List V → List AObj → Option CRes}
end Go.Lift
namespace Go.Lift
variable {P : Program} {T : TypeId → Option TI} {C : FuncId → List V → List AObj → Option CRes}
end Go.Lift
namespace Go.Lift
variable {P : Program} {T : TypeId → Option TI} {C : FuncId → List V → List AObj → Option CRes}
end Go.Lift
namespace Go.Lift
variable {P : Program} {T : TypeId → Option TI} {C : FuncId → List V → List AObj → Option CRes} {k : Nat}
section
variable (T : TypeId → Option TI) (C : FuncId → List V → List AObj → Option CRes) (ρ : Operand → V) (g : Nat → Option AObj) (nm : Nat)
end
section
variable (T : TypeId → Option TI) (g : Nat → Option AObj) (nm : Nat) (t : TypeId) (k : IntKind) (a b : Int)
end
section
variable (g : Nat → Option AObj) (refs : List Nat)
end
end Go.Lift
namespace Go.Lift
variable {P : Program} {T : TypeId → Option TI} {C : FuncId → List V → List AObj → Option CRes}
theorem zpc (W : World) (args : List V) (vs : Array Value) (hlen : args.length = vs.size) (hrd : ∀ (j : Nat) (u : V) (x : Value),args[j]? = some u → vs[j]? = some x → Rd W (fun b=>b < W.heap.size) noG u x) (hgl : GlobAt W (fun b=>b < W.heap.size)) :
 Entry W (fun b=>b < W.heap.size) noG (fun _=>False) args [] vs:=by
 refine ⟨hlen,hrd,⟨(fun n o h=>by simp at h),(fun n m o o' gi gi' h=>by simp at h),(fun n o gi h=>by simp at h),(fun n gi h=>by cases h),fun b h=>h,fun b h=>h,fun n gi h=>h,fun b h=>.inl h,fun b _ _=>rfl,rfl,rfl,rfl,Nat.le_refl _,⟨fun _ _ _ _=>False,⟨fun n i j u h=>by obtain ⟨o,h,_⟩:=h; simp at h,fun n i j u b _ h=>h.elim,fun n i j u b _ h=>h.elim,fun n i j u n' i' j' u' b _ _ h=>h.elim⟩⟩⟩,fun o h=>by simp at h,fun b h=>h.elim,hgl⟩
theorem zcv {n : Int} (h : (Lit.int .i64 n).wf = true) : -9223372036854775808 ≤ n ∧ n ≤ 9223372036854775807:=by
 simp [Lit.wf,IntKind.min,IntKind.max,IntKind.bits,IntKind.signed] at h
 omega
end Go.Lift
namespace Go.Lift
end Go.Lift
namespace Go.Lift
variable {P : Program} {T : TypeId → Option TI} {C : FuncId → List V → List AObj → Option CRes}
end Go.Lift
namespace Go.Lift
open Go.RowKit
variable {P : Program}
def rdInt {t : TypeId} (k : IntKind) (h : P.underlying t = some (.int k)) (hc : P.cellsOf t = 1) : Reader P t Int where
 enc n:=[.int k n]
 ok n:=(Lit.int k n).wf = true
 siz _:=1
 len _:=hc.symm
 cel _ u hu:=by simp at hu; subst hu; rfl
 pos _:=Nat.le_refl _
 read hd:=by
  obtain ⟨n,rfl,hx,hw⟩:=DataW.trod_int h hd
  cases hx
  exact ⟨n,.one (.int _ _ _),hw,fun m hm=>hm.one _⟩
def zAD {t : TypeId} (h : P.underlying t = some .bool) (hc : P.cellsOf t = 1) : Reader P t Bool where
 enc b:=[.bool b]
 ok _:=True
 siz _:=1
 len _:=hc.symm
 cel _ u hu:=by simp at hu; subst hu; rfl
 pos _:=Nat.le_refl _
 read hd:=by
  obtain ⟨n,rfl,hx⟩:=DataW.trod_bool h hd
  cases hx
  exact ⟨n,.one (.bool _ _),trivial,fun m hm=>hm.one _⟩
theorem zuj {α β : Type} {Good : Nat → α → β → Prop} : ∀ (ys : List β) (k : Nat),(∀ (i : Nat) (y : β),ys[i]? = some y → ∃ a,Good (k + i) a y) → ∃ l : List α,l.length = ys.length ∧ ∀ (i : Nat) (a : α) (y : β),l[i]? = some a → ys[i]? = some y → Good (k + i) a y
 | [],k,_=>⟨[],rfl,fun i a y h=>by simp at h⟩
 | y :: ys,k,h=>by
  obtain ⟨a,ha⟩:=h 0 y rfl
  obtain ⟨l,h1,h2⟩:=zuj ys (k + 1) (fun i y hy=>by
   obtain ⟨a,ha⟩:=h (i + 1) y (by simpa using hy)
   exact ⟨a,by rw [show k + 1 + i = k + (i + 1) by omega]; exact ha⟩)
  refine ⟨a :: l,by simp [h1],fun i b z hb hz=>?_⟩
  cases i with
  | zero=>simp at hb hz; subst hb; subst hz; exact ha
  | succ i =>
   have:=h2 i b z (by simpa using hb) (by simpa using hz)
   rw [show k + 1 + i = k + (i + 1) by omega] at this
   exact this
theorem zyt {α β : Type} (f : α → Nat) (g : β → Nat) : ∀ (l : List α) (ys : List β),l.length = ys.length → (∀ (i : Nat) (a : α) (y : β),l[i]? = some a → ys[i]? = some y → f a ≤ g y) → (l.map f).sum ≤ (ys.map g).sum
 | [],[],_,_=>Nat.le_refl _
 | a :: l,y :: ys,hl,h=>by
  have h1:=h 0 a y rfl rfl
  have h2:=zyt f g l ys (by simpa using hl) (fun i a y ha hy=>h (i + 1) a y (by simpa using ha) (by simpa using hy))
  simp only [List.map_cons,List.sum_cons]
  omega
 | [],y :: ys,hl,_=>by simp at hl
 | a :: l,[],hl,_=>by simp at hl
def zu9 {t e : TypeId} {α : Type} (h : P.underlying t = some (.slice e)) (hc : P.cellsOf t = 1) (R : Reader P e α) : Reader P t (List α) where
 enc l:=[.sl 2 (P.cellsOf e) (l.map R.enc)]
 ok l:=∀ a ∈ l,R.ok a
 siz l:=(l.map R.siz).sum + 1
 len _:=hc.symm
 cel _ u hu:=by simp at hu; subst hu; rfl
 pos _:=by omega
 read {H eh w fuel cs d ps} hd:=by
  rcases DataW.trod_slice h hd with ⟨rfl,hx⟩ | ⟨a,len,cap,elems,rest,n,_,rfl,hx,_,hl,hm,hlen,hel,_,_⟩
  ·cases hx
   exact ⟨[],.one (.nil _ 2 _ (by decide)),(fun a h=>by cases h),fun m hm=>hm.one _⟩
  ·cases hx
   have key : ∀ (i : Nat) (y : DataW H × List MemPlace),elems[i]? = some y → ∃ b,(∃ cs,w.cells? 0 (a.add ((0 + i) * P.cellsOf e)) (P.cellsOf e) = some cs ∧ ReadsAs w (R.enc b) cs) ∧ R.ok b ∧ ∀ m : DataW H → Nat,Meas m → R.siz b ≤ m y.1:=by
    intro i y hy
    have hi : i < len:=by rw [← hlen]; exact (List.getElem?_eq_some_iff.1 hy).1
    have he:=hel i hi
    rw [hy] at he
    cases hcs : w.cells? 0 (a.add (i * P.cellsOf e)) (P.cellsOf e) with
    | none=>rw [hcs] at he; cases he
    | some cs =>
     rw [hcs] at he
     obtain ⟨y1,y2⟩:=y
     obtain ⟨b,b1,b2,b3⟩:=R.read he
     exact ⟨b,⟨cs,by rw [Nat.zero_add]; exact hcs,b1⟩,b2,b3⟩
   obtain ⟨l,l1,l2⟩:=zuj elems 0 (Good:=fun i b y=>(∃ cs,w.cells? 0 (a.add (i * P.cellsOf e)) (P.cellsOf e) = some cs ∧ ReadsAs w (R.enc b) cs) ∧ R.ok b ∧ ∀ m : DataW H → Nat,Meas m → R.siz b ≤ m y.1) key
   have at_ : ∀ (i : Nat) (b : α),l[i]? = some b → ∃ y,elems[i]? = some y ∧ (∃ cs,w.cells? 0 (a.add (i * P.cellsOf e)) (P.cellsOf e) = some cs ∧ ReadsAs w (R.enc b) cs) ∧ R.ok b:=by
    intro i b hb
    have hi : i < elems.length:=by rw [← l1]; exact (List.getElem?_eq_some_iff.1 hb).1
    have hy:=List.getElem?_eq_getElem hi
    have:=l2 i b _ hb hy
    rw [Nat.zero_add] at this
    exact ⟨_,hy,this.1,this.2.1⟩
   refine ⟨l,.one ?_,fun b hb=>?_,fun m hm=>?_⟩
   ·have hcell : ∀ (i j : Nat) (u : V),zah (l.map R.enc) i j = some u → ∃ x,w.cell? (a.add (i * P.cellsOf e + j)) = some x ∧ Rd w (fun b=>b < w.heap.size) noG u x:=by
     intro i j u hu
     obtain ⟨r,r1,r2⟩:=zan hu
     rw [List.getElem?_map] at r1
     cases hb : l[i]? with
     | none=>rw [hb] at r1; cases r1
     | some b =>
      rw [hb] at r1; cases r1
      obtain ⟨y,_,⟨cs,c1,c2⟩,_⟩:=at_ i b hb
      obtain ⟨_,e1,e2⟩:=World.cells?_some c1
      have hj : j < P.cellsOf e:=by rw [← R.len b]; exact (List.getElem?_eq_some_iff.1 r2).1
      have hjc : j < cs.length:=by rw [← c2.1,R.len]; exact hj
      have e3:=e2 j hj
      rw [List.getElem?_eq_getElem hjc,Addr.add_add] at e3
      exact ⟨_,e3,c2.2 j u _ r2 (List.getElem?_eq_getElem hjc)⟩
    refine .sl _ 2 _ _ a len cap (fun i j=>(w.cell? (a.add (i * P.cellsOf e + j))).getD undef) (by decide) (fun h=>by rcases h with h | h <;> cases h) (by simp [l1,hlen]) hl hm (fun r hr=>?_) (fun i j u hu=>?_) (fun i j u hu=>?_) (fun i j u hu=>?_)
    ·obtain ⟨b,_,rfl⟩:=List.mem_map.1 hr; exact R.len b
    ·obtain ⟨r,r1,r2⟩:=zan hu
     have:=List.mem_of_getElem? r1
     obtain ⟨b,_,rfl⟩:=List.mem_map.1 this
     exact R.cel b u (List.mem_of_getElem? r2)
    ·obtain ⟨x,x1,x2⟩:=hcell i j u hu
     have hb:=World.block_lt_of_cell? w _ x1
     rw [zeJ] at hb
     exact ⟨hb,by rw [x1]; rfl⟩
    ·obtain ⟨x,x1,x2⟩:=hcell i j u hu
     simp only [x1]; exact x2
   ·obtain ⟨i,hi⟩:=List.getElem?_of_mem hb
    obtain ⟨_,_,_,h2⟩:=at_ i b hi
    exact h2
   ·have h1:=hm.sl (elems.map (·.1)) (rest.map (·.1))
    have h2:=zyt R.siz (fun y : DataW H × List MemPlace=>m y.1) l elems l1 (fun i b y hb hy=>(l2 i b y hb hy).2.2 m hm)
    rw [List.map_map] at h1
    exact Nat.le_trans (Nat.add_le_add_right h2 1) h1
structure FReader (P : Program) (fs : List Field) (off : Nat) (β : Type) where
 enc : β → List V
 ok : β → Prop
 siz : β → Nat
 cells : Nat
 len : ∀ b,(enc b).length = cells
 cel : ∀ b u,u ∈ enc b → u.cellular = true
 read : ∀ {H : Type} {eh : TypeId × Value → H} {w : World} {fuel : Nat} {cs : List Value} {xs : List (DataW H × List MemPlace)},xs.length = fs.length →
  (∀ (i : Nat) (f : Field),fs[i]? = some f → DataW.trod eh P w 0 (fun _=>true) true fuel f.type ((cs.drop f.offset).take (P.cellsOf f.type)) = xs[i]?) → cs.length = off + cells →
  ∃ b,ReadsAs w (enc b) (cs.drop off) ∧ ok b ∧ ∀ m : DataW H → Nat,Meas m → siz b ≤ (xs.map fun x=>m x.1).sum
def frNil {off : Nat} : FReader P [] off Unit where
 enc _:=[]
 ok _:=True
 siz _:=0
 cells:=0
 len _:=rfl
 cel _ u hu:=by cases hu
 read {H eh w fuel cs xs} hl hf hc:=by
  refine ⟨(),⟨by simp; omega,fun j u x h1 h2=>by simp at h1⟩,trivial,fun m hm=>Nat.zero_le _⟩
def zbG {f : Field} {fs : List Field} {off off' : Nat} {α β : Type} (R : Reader P f.type α) (Q : FReader P fs off' β) (ho : f.offset = off) (ho' : off' = off + P.cellsOf f.type) : FReader P (f :: fs) off (α × β) where
 enc b:=R.enc b.1 ++ Q.enc b.2
 ok b:=R.ok b.1 ∧ Q.ok b.2
 siz b:=R.siz b.1 + Q.siz b.2
 cells:=P.cellsOf f.type + Q.cells
 len b:=by simp [R.len,Q.len]
 cel b u hu:=by rcases List.mem_append.1 hu with h | h; exact R.cel _ u h; exact Q.cel _ u h
 read {H eh w fuel cs xs} hl hf hc:=by
  cases xs with
  | nil=>simp at hl
  | cons x xs =>
   have h0:=hf 0 f rfl
   simp only [List.getElem?_cons_zero] at h0
   rw [ho] at h0
   obtain ⟨d,ps⟩:=x
   obtain ⟨a,a1,a2,a3⟩:=R.read h0
   obtain ⟨b,b1,b2,b3⟩:=Q.read (xs:=xs) (cs:=cs) (eh:=eh) (w:=w) (fuel:=fuel) (by simpa using hl) (fun i g hg=>by have:=hf (i + 1) g (by simpa using hg); simpa using this) (by omega)
   refine ⟨(a,b),?_,⟨a2,b2⟩,fun m hm=>?_⟩
   ·have:=a1.append b1
    have e : (cs.drop off).take (P.cellsOf f.type) ++ cs.drop off' = cs.drop off:=by
     rw [ho',← List.drop_drop]; exact List.take_append_drop _ _
    rw [e] at this; exact this
   ·have:=a3 m hm
    have:=b3 m hm
    simp only [List.map_cons,List.sum_cons]
    omega
def ziF {t : TypeId} {fs : Array Field} {β α : Type} (h : P.underlying t = some (.struct fs)) (Q : FReader P fs.toList 0 β) (hc : P.cellsOf t = Q.cells) (mk : β → α) (e : α → List V) (he : ∀ b,e (mk b) = Q.enc b) (hsur : ∀ a,∃ b,mk b = a) (okA : α → Prop) (hok : ∀ b,Q.ok b → okA (mk b)) (sz : α → Nat) (hsz : ∀ b,sz (mk b) ≤ Q.siz b) : Reader P t α where
 enc:=e
 ok:=okA
 siz a:=sz a + 1
 len a:=by obtain ⟨b,rfl⟩:=hsur a; rw [he,Q.len,hc]
 cel a u hu:=by obtain ⟨b,rfl⟩:=hsur a; rw [he] at hu; exact Q.cel b u hu
 pos _:=by omega
 read {H eh w fuel cs d ps} hd:=by
  obtain ⟨xs,n,_,hx,hl,hlen,hf⟩:=DataW.trod_struct h hd
  cases hx
  obtain ⟨b,b1,b2,b3⟩:=Q.read (xs:=xs) (cs:=cs) (eh:=eh) (w:=w) (fuel:=n) (by simpa using hlen) (fun i f hf'=>hf i f (by simpa using hf')) (by omega)
  refine ⟨mk b,by rw [he]; simpa using b1,hok b b2,fun m hm=>?_⟩
  have h1:=b3 m hm
  have h2:=hm.agg (xs.map (·.1))
  rw [List.map_map] at h2
  have h3:=hsz b
  have : (xs.map fun x=>m x.1).sum + 1 ≤ m (.agg (xs.map (·.1))):=h2
  omega
theorem zt5 {t : TypeId} {k : IntKind} (h : P.underlying t = some (.int k)) {w r b0 v} (hv : Value.okWide P w r b0 t v) : v.cells = #[v]:=by
 obtain ⟨n,rfl⟩:=WideShapes.okWide_int h hv; rfl
theorem zoP {t e : TypeId} (h : P.underlying t = some (.slice e)) {w r b0 v} (hv : Value.okWide P w r b0 t v) : v.cells = #[v]:=by
 obtain ⟨a,l,c,rfl⟩:=WideShapes.okWide_slice h hv; rfl
theorem zg9 {H : Type} {eh : TypeId × Value → H} (hl : laidOutB P = true) {W W' : World} (hb : Below W.heap.size W W') : ∀ {ts : List TypeId} {vs : List Value} {ds : List (DataW H)} {ps : List MemPlace},(∀ t ∈ ts,P.readableRec t = true ∧ t < P.types.size) →
 DataW.TrodAll eh P W 0 (fun _=>true) true ts vs ds ps → (∀ x ∈ ps,x.block < W.heap.size) → DataW.TrodAll eh P W' 0 (fun b=>decide (b < W.heap.size)) true ts vs ds ps
 | [],[],[],ps,_,h,_=>h
 | t :: ts,v :: vs,d :: ds,ps,ht,h,hlt=>by
  obtain ⟨p,q,h1,h2,rfl⟩:=h
  exact ⟨p,q,Below.trod hl (ht t (List.mem_cons_self ..)).1 (ht t (List.mem_cons_self ..)).2 h1 hb (fun x hx=>hlt x (List.mem_append_left _ hx)),
   zg9 hl hb (fun t h=>ht t (List.mem_cons_of_mem _ h)) h2 (fun x hx=>hlt x (List.mem_append_right _ hx)),rfl⟩
 | [],_ :: _,_,_,_,h,_=>h.elim
 | [],[],_ :: _,_,_,h,_=>h.elim
 | _ :: _,[],_,_,_,h,_=>h.elim
 | _ :: _,_ :: _,[],_,_,h,_=>h.elim
theorem law_post {H : Type} {eh : TypeId × Value → H} {f : Func} {s : ChangeSpec} {W W' : World} {args : Array Value} {ds gs : List (DataW H)} {before : List MemPlace} {t : TypeId} (hl : laidOutB P = true)
 (hW : DataW.Whole eh P f.params.toList s.vars false W args.toList ds gs before) (hvars : s.vars = []) (hfn : (s.fn H (ds ++ gs)).results = [.lit (.bool true)] ∧ (s.fn H (ds ++ gs)).args = ds ∧ (s.fn H (ds ++ gs)).vars = [])
 (hrt : f.resultTypes = #[t]) (ht : P.underlying t = some .bool) (hall : ∀ t ∈ f.params.toList,P.readableRec t = true ∧ t < P.types.size) (hb : Below W.heap.size W W') : s.post eh P f false true false false W args (.bool true) W':=by
 have hlt:=hW.lt
 have hW0:=hW
 obtain ⟨p,q,h1,h2,rfl,h3,h4⟩:=hW
 rw [hvars] at h2
 obtain ⟨rfl,rfl⟩:=ChangeShapes.trodVars_none h2
 obtain ⟨f1,f2,f3⟩:=hfn
 refine ⟨ds,[],_,[],p,[],hW0,?_,?_,?_,?_,fun h=>by cases h⟩
 ·rw [f1,hrt]
  exact ⟨[],[],⟨1,by simp [DataW.trod,ht,Value.cells]⟩,rfl,rfl⟩
 ·rw [f2]
  exact zg9 hl hb hall h1 (fun x hx=>hlt x (List.mem_append_left _ hx))
 ·rw [f3,hvars]; rfl
 ·exact hb.frame _
theorem zjz {f : FuncId} {ι : Type} {A : ι → List V} {ok : ι → Prop} (hS : Spec P f (fam A (fun _=>[]) ok (fun _=>⟨.bool true,[]⟩))) (i : ι) (hi : ok i) {W : World} {vs : List Value} (hlen : (A i).length = vs.length)
 (hrd : ∀ (j : Nat) (u : V) (x : Value),(A i)[j]? = some u → vs[j]? = some x → Rd W (fun b=>b < W.heap.size) noG u x) (hgl : GlobAt W (fun b=>b < W.heap.size)) : Calls P f vs.toArray W fun e w'=>e = .returned (.bool true) ∧ Below W.heap.size W w':=by
 refine (hS.calls (A i) [] ⟨.bool true,[]⟩ (zag (fun _ _ _ _=>rfl) i hi) W _ noG _ vs.toArray (zpc W (A i) vs.toArray (by simpa using hlen) (fun j u x h1 h2=>hrd j u x h1 (by simpa using h2)) hgl)).mono ?_
 rintro e w' ⟨v,I',γ',rfl,hL⟩
 have hv:=hL.rd
 refine ⟨by cases hv; rfl,hL.inv.os,hL.inv.tape,hL.inv.output,hL.inv.size,fun b hb=>hL.inv.frame b hb fun h=>h⟩
theorem zvb {W : World} : ∀ (j : Nat) (u : V) (x : Value),([] : List V)[j]? = some u → ([] : List Value)[j]? = some x → Rd W (fun b=>b < W.heap.size) noG u x:=fun j u x h=>by simp at h
theorem zgg {W : World} {u : V} {x : Value} {us : List V} {xs : List Value} (h : Rd W (fun b=>b < W.heap.size) noG u x) (hs : ∀ (j : Nat) (u : V) (x : Value),us[j]? = some u → xs[j]? = some x → Rd W (fun b=>b < W.heap.size) noG u x) :
 ∀ (j : Nat) (u' : V) (x' : Value),(u :: us)[j]? = some u' → (x :: xs)[j]? = some x' → Rd W (fun b=>b < W.heap.size) noG u' x':=fun j u' x' h1 h2=>by
 cases j with
 | zero=>simp at h1 h2; subst h1; subst h2; exact h
 | succ j=>exact hs j u' x' (by simpa using h1) (by simpa using h2)
theorem Rd.sl_len {w : World} {I : Nat → Prop} {γ : Nat → Option GI} {t es : Nat} {rows : List (List V)} {v : Value} (h : Rd w I γ (.sl t es rows) v) : rows.length ≤ 9223372036854775807:=by
 cases h with
 | nil=>exact Nat.zero_le _
 | sl _ _ _ _ _ n c _ _ _ hlen hnc hcm =>
  have : maxLen = 9223372036854775807:=by decide
  omega
end Go.Lift
namespace Go.Lift
variable {w0 w : World} {ex : Ex} {I : Nat → Prop} {γ : Nat → Option GI} {g : Nat → Option AObj}
end Go.Lift
namespace Go.Lift
section
variable {v : V} {g : Nat → Option AObj}
end
end Go.Lift
namespace Go.Lift
end Go.Lift

set_option maxRecDepth 20000
namespace Go.Proofs.YtcpdgbncekdicaaGreat
open Go.Lift
theorem laid : laidOutB Tryz.prog = true:=by kernel_rfl
theorem glob0 {W : World} {I : Nat → Prop} (h : ∀ g,GLB g = none) : GlobAt W I:=fun g cs hg=>by rw [h g] at hg; cases hg
theorem zb0 : Tryz.prog.cellsOf 3 = 1:=by kernel_rfl
noncomputable def R3 : Reader Tryz.prog 3 Int:=rdInt .i64 Tryz.underlying3 zb0
theorem zt2 : Tryz.prog.cellsOf 4 = 1:=by kernel_rfl
noncomputable def R4 : Reader Tryz.prog 4 Bool:=zAD Tryz.underlying4 zt2
theorem zoO : Tryz.prog.cellsOf 53 = 9:=by kernel_rfl
noncomputable def Q53 : FReader Tryz.prog [⟨ "Kind", 3, 0, false, "", "", 0⟩, ⟨ "Tick", 3, 1, false, "", "", 8⟩, ⟨ "Tenant", 3, 2, false, "", "", 16⟩, ⟨ "Cell", 3, 3, false, "", "", 24⟩, ⟨ "Other", 3, 4, false, "", "", 32⟩, ⟨ "Epoch", 3, 5, false, "", "", 40⟩, ⟨ "From", 3, 6, false, "", "", 48⟩, ⟨ "Until", 3, 7, false, "", "", 56⟩, ⟨ "N", 3, 8, false, "", "", 64⟩] 0 (Int × Int × Int × Int × Int × Int × Int × Int × Int × Unit) := zbG (f := ⟨ "Kind", 3, 0, false, "", "", 0⟩) (off := 0) (off' := 1) R3 (zbG (f := ⟨ "Tick", 3, 1, false, "", "", 8⟩) (off := 1) (off' := 2) R3 (zbG (f := ⟨ "Tenant", 3, 2, false, "", "", 16⟩) (off := 2) (off' := 3) R3 (zbG (f := ⟨ "Cell", 3, 3, false, "", "", 24⟩) (off := 3) (off' := 4) R3 (zbG (f := ⟨ "Other", 3, 4, false, "", "", 32⟩) (off := 4) (off' := 5) R3 (zbG (f := ⟨ "Epoch", 3, 5, false, "", "", 40⟩) (off := 5) (off' := 6) R3 (zbG (f := ⟨ "From", 3, 6, false, "", "", 48⟩) (off := 6) (off' := 7) R3 (zbG (f := ⟨ "Until", 3, 7, false, "", "", 56⟩) (off := 7) (off' := 8) R3 (zbG (f := ⟨ "N", 3, 8, false, "", "", 64⟩) (off := 8) (off' := 9) R3 (frNil) rfl (by rw [show Tryz.prog.cellsOf 3 = 1 from zb0])) rfl (by rw [show Tryz.prog.cellsOf 3 = 1 from zb0])) rfl (by rw [show Tryz.prog.cellsOf 3 = 1 from zb0])) rfl (by rw [show Tryz.prog.cellsOf 3 = 1 from zb0])) rfl (by rw [show Tryz.prog.cellsOf 3 = 1 from zb0])) rfl (by rw [show Tryz.prog.cellsOf 3 = 1 from zb0])) rfl (by rw [show Tryz.prog.cellsOf 3 = 1 from zb0])) rfl (by rw [show Tryz.prog.cellsOf 3 = 1 from zb0])) rfl (by rw [show Tryz.prog.cellsOf 3 = 1 from zb0])
noncomputable def R53 : Reader Tryz.prog 53 GEntry:=ziF Tryz.underlying53 Q53 (by rw [zoO]; simp [Q53,zbG,frNil,zb0]) (fun b=>⟨b.1,b.2.1,b.2.2.1,b.2.2.2.1,b.2.2.2.2.1,b.2.2.2.2.2.1,b.2.2.2.2.2.2.1,b.2.2.2.2.2.2.2.1,b.2.2.2.2.2.2.2.2.1⟩) GEntry.cells (fun b=>by
 show _ = (R3).enc b.1 ++ ((R3).enc b.2.1 ++ ((R3).enc b.2.2.1 ++ ((R3).enc b.2.2.2.1 ++ ((R3).enc b.2.2.2.2.1 ++ ((R3).enc b.2.2.2.2.2.1 ++ ((R3).enc b.2.2.2.2.2.2.1 ++ ((R3).enc b.2.2.2.2.2.2.2.1 ++ ((R3).enc b.2.2.2.2.2.2.2.2.1 ++ (([] : List V))))))))))
 rfl) (fun a=>⟨⟨a.Kind,a.Tick,a.Tenant,a.Cell,a.Other,a.Epoch,a.From,a.Until,a.N,()⟩,rfl⟩) GEntry.ok (fun b h=>by
 obtain ⟨o0,o1,o2,o3,o4,o5,o6,o7,o8,_⟩:=h
 exact ⟨zcv o0,zcv o1,zcv o2,zcv o3,zcv o4,zcv o5,zcv o6,zcv o7,zcv o8⟩) (fun _=>0) (fun _=>Nat.zero_le _)
theorem enc53 (a : GEntry) : (R53).enc a = a.cells:=rfl
theorem zt4 : Tryz.prog.cellsOf 56 = 10:=by kernel_rfl
noncomputable def Q56 : FReader Tryz.prog [⟨ "Term", 3, 0, false, "", "", 0⟩, ⟨ "Entry", 53, 1, false, "", "", 8⟩] 0 (Int × GEntry × Unit) := zbG (f := ⟨ "Term", 3, 0, false, "", "", 0⟩) (off := 0) (off' := 1) R3 (zbG (f := ⟨ "Entry", 53, 1, false, "", "", 8⟩) (off := 1) (off' := 10) R53 (frNil) rfl (by rw [show Tryz.prog.cellsOf 53 = 9 from zoO])) rfl (by rw [show Tryz.prog.cellsOf 3 = 1 from zb0])
noncomputable def R56 : Reader Tryz.prog 56 GLogged:=ziF Tryz.underlying56 Q56 (by rw [zt4]; simp [Q56,zbG,frNil,zb0,zoO]) (fun b=>⟨b.1,b.2.1⟩) GLogged.cells (fun b=>by
 show _ = (R3).enc b.1 ++ ((R53).enc b.2.1 ++ (([] : List V)))
 have h1:=enc53 (b.2.1);
 rw [h1]; rfl) (fun a=>⟨⟨a.Term,a.Entry,()⟩,rfl⟩) GLogged.ok (fun b h=>by
 obtain ⟨o0,o1,_⟩:=h
 exact ⟨zcv o0,o1⟩) (fun _=>0) (fun _=>Nat.zero_le _)
theorem enc56 (a : GLogged) : (R56).enc a = a.cells:=rfl
theorem zoM : Tryz.prog.cellsOf 39 = 1:=by kernel_rfl
noncomputable def R39 : Reader Tryz.prog 39 (List GLogged):=zu9 Tryz.underlying39 zoM R56
theorem enc39 (a : List GLogged) : (R39).enc a = [.sl 2 10 (GLogged.row a)]:=by
 show [V.sl 2 (Tryz.prog.cellsOf 56) (a.map (R56).enc)] = _
 rw [zt4]
 first | rfl | (congr 1; congr 1; exact congrArg (fun f=>a.map f) (funext fun x=>enc56 x))
theorem zoN : Tryz.prog.cellsOf 41 = 9:=by kernel_rfl
noncomputable def Q41 : FReader Tryz.prog [⟨ "Kind", 3, 0, false, "", "", 0⟩, ⟨ "From", 3, 1, false, "", "", 8⟩, ⟨ "To", 3, 2, false, "", "", 16⟩, ⟨ "Term", 3, 3, false, "", "", 24⟩, ⟨ "Index", 3, 4, false, "", "", 32⟩, ⟨ "PrevTerm", 3, 5, false, "", "", 40⟩, ⟨ "Commit", 3, 6, false, "", "", 48⟩, ⟨ "OK", 4, 7, false, "", "", 56⟩, ⟨ "Entries", 39, 8, false, "", "", 64⟩] 0 (Int × Int × Int × Int × Int × Int × Int × Bool × (List GLogged) × Unit) := zbG (f := ⟨ "Kind", 3, 0, false, "", "", 0⟩) (off := 0) (off' := 1) R3 (zbG (f := ⟨ "From", 3, 1, false, "", "", 8⟩) (off := 1) (off' := 2) R3 (zbG (f := ⟨ "To", 3, 2, false, "", "", 16⟩) (off := 2) (off' := 3) R3 (zbG (f := ⟨ "Term", 3, 3, false, "", "", 24⟩) (off := 3) (off' := 4) R3 (zbG (f := ⟨ "Index", 3, 4, false, "", "", 32⟩) (off := 4) (off' := 5) R3 (zbG (f := ⟨ "PrevTerm", 3, 5, false, "", "", 40⟩) (off := 5) (off' := 6) R3 (zbG (f := ⟨ "Commit", 3, 6, false, "", "", 48⟩) (off := 6) (off' := 7) R3 (zbG (f := ⟨ "OK", 4, 7, false, "", "", 56⟩) (off := 7) (off' := 8) R4 (zbG (f := ⟨ "Entries", 39, 8, false, "", "", 64⟩) (off := 8) (off' := 9) R39 (frNil) rfl (by rw [show Tryz.prog.cellsOf 39 = 1 from zoM])) rfl (by rw [show Tryz.prog.cellsOf 4 = 1 from zt2])) rfl (by rw [show Tryz.prog.cellsOf 3 = 1 from zb0])) rfl (by rw [show Tryz.prog.cellsOf 3 = 1 from zb0])) rfl (by rw [show Tryz.prog.cellsOf 3 = 1 from zb0])) rfl (by rw [show Tryz.prog.cellsOf 3 = 1 from zb0])) rfl (by rw [show Tryz.prog.cellsOf 3 = 1 from zb0])) rfl (by rw [show Tryz.prog.cellsOf 3 = 1 from zb0])) rfl (by rw [show Tryz.prog.cellsOf 3 = 1 from zb0])
noncomputable def R41 : Reader Tryz.prog 41 GMessage:=ziF Tryz.underlying41 Q41 (by rw [zoN]; simp [Q41,zbG,frNil,zb0,zoM,zt2]) (fun b=>⟨b.1,b.2.1,b.2.2.1,b.2.2.2.1,b.2.2.2.2.1,b.2.2.2.2.2.1,b.2.2.2.2.2.2.1,b.2.2.2.2.2.2.2.1,b.2.2.2.2.2.2.2.2.1⟩) GMessage.cells (fun b=>by
 show _ = (R3).enc b.1 ++ ((R3).enc b.2.1 ++ ((R3).enc b.2.2.1 ++ ((R3).enc b.2.2.2.1 ++ ((R3).enc b.2.2.2.2.1 ++ ((R3).enc b.2.2.2.2.2.1 ++ ((R3).enc b.2.2.2.2.2.2.1 ++ ((R4).enc b.2.2.2.2.2.2.2.1 ++ ((R39).enc b.2.2.2.2.2.2.2.2.1 ++ (([] : List V))))))))))
 have h8:=enc39 (b.2.2.2.2.2.2.2.2.1);
 rw [h8]; rfl) (fun a=>⟨⟨a.Kind,a.From,a.To,a.Term,a.Index,a.PrevTerm,a.Commit,a.OK,a.Entries,()⟩,rfl⟩) GMessage.ok (fun b h=>by
 obtain ⟨o0,o1,o2,o3,o4,o5,o6,o7,o8,_⟩:=h
 exact ⟨zcv o0,zcv o1,zcv o2,zcv o3,zcv o4,zcv o5,zcv o6,(fun y hy=>o8 y hy)⟩) (fun _=>0) (fun _=>Nat.zero_le _)
theorem enc41 (a : GMessage) : (R41).enc a = a.cells:=rfl
theorem zt3 : Tryz.prog.cellsOf 48 = 12:=by kernel_rfl
noncomputable def Q48 : FReader Tryz.prog [⟨ "Which", 3, 0, false, "", "", 0⟩, ⟨ "A", 3, 1, false, "", "", 8⟩, ⟨ "B", 3, 2, false, "", "", 16⟩, ⟨ "M", 41, 3, false, "", "", 24⟩] 0 (Int × Int × Int × GMessage × Unit) := zbG (f := ⟨ "Which", 3, 0, false, "", "", 0⟩) (off := 0) (off' := 1) R3 (zbG (f := ⟨ "A", 3, 1, false, "", "", 8⟩) (off := 1) (off' := 2) R3 (zbG (f := ⟨ "B", 3, 2, false, "", "", 16⟩) (off := 2) (off' := 3) R3 (zbG (f := ⟨ "M", 41, 3, false, "", "", 24⟩) (off := 3) (off' := 12) R41 (frNil) rfl (by rw [show Tryz.prog.cellsOf 41 = 9 from zoN])) rfl (by rw [show Tryz.prog.cellsOf 3 = 1 from zb0])) rfl (by rw [show Tryz.prog.cellsOf 3 = 1 from zb0])) rfl (by rw [show Tryz.prog.cellsOf 3 = 1 from zb0])
noncomputable def R48 : Reader Tryz.prog 48 GL09Step:=ziF Tryz.underlying48 Q48 (by rw [zt3]; simp [Q48,zbG,frNil,zb0,zoN]) (fun b=>⟨b.1,b.2.1,b.2.2.1,b.2.2.2.1⟩) GL09Step.cells (fun b=>by
 show _ = (R3).enc b.1 ++ ((R3).enc b.2.1 ++ ((R3).enc b.2.2.1 ++ ((R41).enc b.2.2.2.1 ++ (([] : List V)))))
 have h3:=enc41 (b.2.2.2.1);
 rw [h3]; rfl) (fun a=>⟨⟨a.Which,a.A,a.B,a.M,()⟩,rfl⟩) GL09Step.ok (fun b h=>by
 obtain ⟨o0,o1,o2,o3,_⟩:=h
 exact ⟨zcv o0,zcv o1,zcv o2,o3⟩) (fun _=>0) (fun _=>Nat.zero_le _)
theorem enc48 (a : GL09Step) : (R48).enc a = a.cells:=rfl
theorem zzb : Tryz.prog.cellsOf 44 = 1:=by kernel_rfl
noncomputable def R44 : Reader Tryz.prog 44 (List GL09Step):=zu9 Tryz.underlying44 zzb R48
theorem enc44 (a : List GL09Step) : (R44).enc a = [.sl 2 12 (GL09Step.row a)]:=by
 show [V.sl 2 (Tryz.prog.cellsOf 48) (a.map (R48).enc)] = _
 rw [zt3]
 first | rfl | (congr 1; congr 1; exact congrArg (fun f=>a.map f) (funext fun x=>enc48 x))
theorem sarg3 {H : Type} {eh : TypeId × Value → H} {w W0 : World} {r : Reach} {b0 : Nat} {v : Value} {d : DataW H} {ps : List MemPlace} (hval : Value.okWide Tryz.prog W0 r b0 3 v) (hd : DataW.Trod eh Tryz.prog w 0 (fun _=>true) true 3 v d ps) : ∃ a : Int,Rd w (fun b=>b < w.heap.size) noG ((fun a : Int=>V.int .i64 a) a) v ∧ (In64 a):=by
 obtain ⟨a,h0,h1,h2⟩:=(R3).cell (e:=fun a : Int=>V.int .i64 a) (fun _=>rfl) (fun h=>zt5 Tryz.underlying3 h) hval hd
 exact ⟨a,h0,zcv h1⟩
theorem zvj {H : Type} {eh : TypeId × Value → H} {w W0 : World} {r : Reach} {b0 : Nat} {v : Value} {d : DataW H} {ps : List MemPlace} (hval : Value.okWide Tryz.prog W0 r b0 44 v) (hd : DataW.Trod eh Tryz.prog w 0 (fun _=>true) true 44 v d ps) : ∃ a : List GL09Step,Rd w (fun b=>b < w.heap.size) noG ((fun a : List GL09Step=>V.sl 2 12 (GL09Step.row a)) a) v ∧ (a.length ≤ 9223372036854775807 ∧ ∀ x ∈ a,GL09Step.ok x):=by
 obtain ⟨a,h0,h1,h2⟩:=(R44).cell (e:=fun a : List GL09Step=>V.sl 2 12 (GL09Step.row a)) (enc44) (fun h=>zoP Tryz.underlying44 h) hval hd
 exact ⟨a,h0,⟨by have:=Rd.sl_len h0; simpa using this,(fun y hy=>h1 y hy)⟩⟩
end Go.Proofs.YtcpdgbncekdicaaGreat

