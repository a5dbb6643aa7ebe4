/-
  What the last texts need besides.
-/
import Derived.Test.YtcpdgbncekdicaaGreatW5
set_option linter.unusedSimpArgs false
set_option linter.unusedVariables false
namespace Go.Lift
variable {P : Program} {T : TypeId → Option TI} {C : FuncId → List V → List AObj → Option CRes}
end Go.Lift
namespace Go.Lift
variable {P : Program} {T : TypeId → Option TI} {C : FuncId → List V → List AObj → Option CRes}
end Go.Lift
namespace Go.Lift
variable {P : Program} {T : TypeId → Option TI} {C : FuncId → List V → List AObj → Option CRes}
end Go.Lift
namespace Go.Lift
variable {P : Program} {T : TypeId → Option TI} {C : FuncId → List V → List AObj → Option CRes} {k : Nat}
section
variable (T : TypeId → Option TI) (C : FuncId → List V → List AObj → Option CRes) (ρ : Operand → V) (g : Nat → Option AObj) (nm : Nat)
end
section
variable (T : TypeId → Option TI) (g : Nat → Option AObj) (nm : Nat) (t : TypeId) (k : IntKind) (a b : Int)
end
section
variable (g : Nat → Option AObj) (refs : List Nat)
end
end Go.Lift
namespace Go.Lift
variable {P : Program} {T : TypeId → Option TI} {C : FuncId → List V → List AObj → Option CRes}
theorem entry_plain (W : World) (args : List V) (vs : Array Value) (hlen : args.length = vs.size) (hrd : ∀ (j : Nat) (u : V) (x : Value),args[j]? = some u → vs[j]? = some x → Rd W (fun b => b < W.heap.size) noG u x) (hgl : GlobAt W (fun b => b < W.heap.size)) :
 Entry W (fun b => b < W.heap.size) noG (fun _ => False) args [] vs := by
 refine ⟨hlen,hrd,⟨(fun n o h => by simp at h),(fun n m o o' gi gi' h => by simp at h),(fun n o gi h => by simp at h),(fun n gi h => by cases h),fun b h => h,fun b h => h,fun n gi h => h,fun b h => .inl h,fun b _ _ => rfl,rfl,rfl,rfl,Nat.le_refl _,⟨fun _ _ _ _ => False,⟨fun n i j u h => by obtain ⟨o,h,_⟩ := h; simp at h,fun n i j u b _ h => h.elim,fun n i j u b _ h => h.elim,fun n i j u n' i' j' u' b _ _ h => h.elim⟩⟩⟩,fun o h => by simp at h,fun b h => h.elim,hgl⟩
theorem wf_i64 {n : Int} (h : (Lit.int .i64 n).wf = true) : -9223372036854775808 ≤ n ∧ n ≤ 9223372036854775807 := by
 simp [Lit.wf,IntKind.min,IntKind.max,IntKind.bits,IntKind.signed] at h
 omega
end Go.Lift
namespace Go.Lift
end Go.Lift
namespace Go.Lift
variable {P : Program} {T : TypeId → Option TI} {C : FuncId → List V → List AObj → Option CRes}
end Go.Lift
namespace Go.Lift
open Go.RowKit
variable {P : Program}
def rdInt {t : TypeId} (k : IntKind) (h : P.underlying t = some (.int k)) (hc : P.cellsOf t = 1) : Reader P t Int where
 enc n := [.int k n]
 ok n := (Lit.int k n).wf = true
 siz _ := 1
 len _ := hc.symm
 cel _ u hu := by simp at hu; subst hu; rfl
 pos _ := Nat.le_refl _
 read hd := by
  obtain ⟨n,rfl,hx,hw⟩ := DataW.trod_int h hd
  cases hx
  exact ⟨n,.one (.int _ _ _),hw,fun m hm => hm.one _⟩
theorem each_of {α β : Type} {Good : Nat → α → β → Prop} : ∀ (ys : List β) (k : Nat),(∀ (i : Nat) (y : β),ys[i]? = some y → ∃ a,Good (k + i) a y) → ∃ l : List α,l.length = ys.length ∧ ∀ (i : Nat) (a : α) (y : β),l[i]? = some a → ys[i]? = some y → Good (k + i) a y
 | [],k,_ => ⟨[],rfl,fun i a y h => by simp at h⟩
 | y :: ys,k,h => by
  obtain ⟨a,ha⟩ := h 0 y rfl
  obtain ⟨l,h1,h2⟩ := each_of ys (k + 1) (fun i y hy => by
   obtain ⟨a,ha⟩ := h (i + 1) y (by simpa using hy)
   exact ⟨a,by rw [show k + 1 + i = k + (i + 1) by omega]; exact ha⟩)
  refine ⟨a :: l,by simp [h1],fun i b z hb hz => ?_⟩
  cases i with
  | zero => simp at hb hz; subst hb; subst hz; exact ha
  | succ i =>
   have := h2 i b z (by simpa using hb) (by simpa using hz)
   rw [show k + 1 + i = k + (i + 1) by omega] at this
   exact this
theorem sum_le {α β : Type} (f : α → Nat) (g : β → Nat) : ∀ (l : List α) (ys : List β),l.length = ys.length → (∀ (i : Nat) (a : α) (y : β),l[i]? = some a → ys[i]? = some y → f a ≤ g y) → (l.map f).sum ≤ (ys.map g).sum
 | [],[],_,_ => Nat.le_refl _
 | a :: l,y :: ys,hl,h => by
  have h1 := h 0 a y rfl rfl
  have h2 := sum_le f g l ys (by simpa using hl) (fun i a y ha hy => h (i + 1) a y (by simpa using ha) (by simpa using hy))
  simp only [List.map_cons,List.sum_cons]
  omega
 | [],y :: ys,hl,_ => by simp at hl
 | a :: l,[],hl,_ => by simp at hl
def rdSlice {t e : TypeId} {α : Type} (h : P.underlying t = some (.slice e)) (hc : P.cellsOf t = 1) (R : Reader P e α) : Reader P t (List α) where
 enc l := [.sl 2 (P.cellsOf e) (l.map R.enc)]
 ok l := ∀ a ∈ l,R.ok a
 siz l := (l.map R.siz).sum + 1
 len _ := hc.symm
 cel _ u hu := by simp at hu; subst hu; rfl
 pos _ := by omega
 read {H eh w fuel cs d ps} hd := by
  rcases DataW.trod_slice h hd with ⟨rfl,hx⟩ | ⟨a,len,cap,elems,rest,n,_,rfl,hx,_,hl,hm,hlen,hel,_,_⟩
  ·cases hx
   exact ⟨[],.one (.nil _ 2 _ (by decide)),(fun a h => by cases h),fun m hm => hm.one _⟩
  ·cases hx
   have key : ∀ (i : Nat) (y : DataW H × List MemPlace),elems[i]? = some y → ∃ b,(∃ cs,w.cells? 0 (a.add ((0 + i) * P.cellsOf e)) (P.cellsOf e) = some cs ∧ ReadsAs w (R.enc b) cs) ∧ R.ok b ∧ ∀ m : DataW H → Nat,Meas m → R.siz b ≤ m y.1 := by
    intro i y hy
    have hi : i < len := by rw [← hlen]; exact (List.getElem?_eq_some_iff.1 hy).1
    have he := hel i hi
    rw [hy] at he
    cases hcs : w.cells? 0 (a.add (i * P.cellsOf e)) (P.cellsOf e) with
    | none => rw [hcs] at he; cases he
    | some cs =>
     rw [hcs] at he
     obtain ⟨y1,y2⟩ := y
     obtain ⟨b,b1,b2,b3⟩ := R.read he
     exact ⟨b,⟨cs,by rw [Nat.zero_add]; exact hcs,b1⟩,b2,b3⟩
   obtain ⟨l,l1,l2⟩ := each_of elems 0 (Good := fun i b y => (∃ cs,w.cells? 0 (a.add (i * P.cellsOf e)) (P.cellsOf e) = some cs ∧ ReadsAs w (R.enc b) cs) ∧ R.ok b ∧ ∀ m : DataW H → Nat,Meas m → R.siz b ≤ m y.1) key
   have at_ : ∀ (i : Nat) (b : α),l[i]? = some b → ∃ y,elems[i]? = some y ∧ (∃ cs,w.cells? 0 (a.add (i * P.cellsOf e)) (P.cellsOf e) = some cs ∧ ReadsAs w (R.enc b) cs) ∧ R.ok b := by
    intro i b hb
    have hi : i < elems.length := by rw [← l1]; exact (List.getElem?_eq_some_iff.1 hb).1
    have hy := List.getElem?_eq_getElem hi
    have := l2 i b _ hb hy
    rw [Nat.zero_add] at this
    exact ⟨_,hy,this.1,this.2.1⟩
   refine ⟨l,.one ?_,fun b hb => ?_,fun m hm => ?_⟩
   ·have hcell : ∀ (i j : Nat) (u : V),zag (l.map R.enc) i j = some u → ∃ x,w.cell? (a.add (i * P.cellsOf e + j)) = some x ∧ Rd w (fun b => b < w.heap.size) noG u x := by
     intro i j u hu
     obtain ⟨r,r1,r2⟩ := zam hu
     rw [List.getElem?_map] at r1
     cases hb : l[i]? with
     | none => rw [hb] at r1; cases r1
     | some b =>
      rw [hb] at r1; cases r1
      obtain ⟨y,_,⟨cs,c1,c2⟩,_⟩ := at_ i b hb
      obtain ⟨_,e1,e2⟩ := World.cells?_some c1
      have hj : j < P.cellsOf e := by rw [← R.len b]; exact (List.getElem?_eq_some_iff.1 r2).1
      have hjc : j < cs.length := by rw [← c2.1,R.len]; exact hj
      have e3 := e2 j hj
      rw [List.getElem?_eq_getElem hjc,Addr.add_add] at e3
      exact ⟨_,e3,c2.2 j u _ r2 (List.getElem?_eq_getElem hjc)⟩
    refine .sl _ 2 _ _ a len cap (fun i j => (w.cell? (a.add (i * P.cellsOf e + j))).getD undef) (by decide) (fun h => by rcases h with h | h <;> cases h) (by simp [l1,hlen]) hl hm (fun r hr => ?_) (fun i j u hu => ?_) (fun i j u hu => ?_) (fun i j u hu => ?_)
    ·obtain ⟨b,_,rfl⟩ := List.mem_map.1 hr; exact R.len b
    ·obtain ⟨r,r1,r2⟩ := zam hu
     have := List.mem_of_getElem? r1
     obtain ⟨b,_,rfl⟩ := List.mem_map.1 this
     exact R.cel b u (List.mem_of_getElem? r2)
    ·obtain ⟨x,x1,x2⟩ := hcell i j u hu
     have hb := World.block_lt_of_cell? w _ x1
     rw [zfl] at hb
     exact ⟨hb,by rw [x1]; rfl⟩
    ·obtain ⟨x,x1,x2⟩ := hcell i j u hu
     simp only [x1]; exact x2
   ·obtain ⟨i,hi⟩ := List.getElem?_of_mem hb
    obtain ⟨_,_,_,h2⟩ := at_ i b hi
    exact h2
   ·have h1 := hm.sl (elems.map (·.1)) (rest.map (·.1))
    have h2 := sum_le R.siz (fun y : DataW H × List MemPlace => m y.1) l elems l1 (fun i b y hb hy => (l2 i b y hb hy).2.2 m hm)
    rw [List.map_map] at h1
    exact Nat.le_trans (Nat.add_le_add_right h2 1) h1
theorem cells_int {t : TypeId} {k : IntKind} (h : P.underlying t = some (.int k)) {w r b0 v} (hv : Value.okWide P w r b0 t v) : v.cells = #[v] := by
 obtain ⟨n,rfl⟩ := WideShapes.okWide_int h hv; rfl
theorem cells_slice {t e : TypeId} (h : P.underlying t = some (.slice e)) {w r b0 v} (hv : Value.okWide P w r b0 t v) : v.cells = #[v] := by
 obtain ⟨a,l,c,rfl⟩ := WideShapes.okWide_slice h hv; rfl
theorem trodAll_below {H : Type} {eh : TypeId × Value → H} (hl : laidOutB P = true) {W W' : World} (hb : Below W.heap.size W W') : ∀ {ts : List TypeId} {vs : List Value} {ds : List (DataW H)} {ps : List MemPlace},(∀ t ∈ ts,P.readableRec t = true ∧ t < P.types.size) →
 DataW.TrodAll eh P W 0 (fun _ => true) true ts vs ds ps → (∀ x ∈ ps,x.block < W.heap.size) → DataW.TrodAll eh P W' 0 (fun b => decide (b < W.heap.size)) true ts vs ds ps
 | [],[],[],ps,_,h,_ => h
 | t :: ts,v :: vs,d :: ds,ps,ht,h,hlt => by
  obtain ⟨p,q,h1,h2,rfl⟩ := h
  exact ⟨p,q,Below.trod hl (ht t (List.mem_cons_self ..)).1 (ht t (List.mem_cons_self ..)).2 h1 hb (fun x hx => hlt x (List.mem_append_left _ hx)),
   trodAll_below hl hb (fun t h => ht t (List.mem_cons_of_mem _ h)) h2 (fun x hx => hlt x (List.mem_append_right _ hx)),rfl⟩
 | [],_ :: _,_,_,_,h,_ => h.elim
 | [],[],_ :: _,_,_,h,_ => h.elim
 | _ :: _,[],_,_,_,h,_ => h.elim
 | _ :: _,_ :: _,[],_,_,h,_ => h.elim
theorem law_post {H : Type} {eh : TypeId × Value → H} {f : Func} {s : ChangeSpec} {W W' : World} {args : Array Value} {ds gs : List (DataW H)} {before : List MemPlace} {t : TypeId} (hl : laidOutB P = true)
 (hW : DataW.Whole eh P f.params.toList s.vars false W args.toList ds gs before) (hvars : s.vars = []) (hfn : (s.fn H (ds ++ gs)).results = [.lit (.bool true)] ∧ (s.fn H (ds ++ gs)).args = ds ∧ (s.fn H (ds ++ gs)).vars = [])
 (hrt : f.resultTypes = #[t]) (ht : P.underlying t = some .bool) (hall : ∀ t ∈ f.params.toList,P.readableRec t = true ∧ t < P.types.size) (hb : Below W.heap.size W W') : s.post eh P f false true false false W args (.bool true) W' := by
 have hlt := hW.lt
 have hW0 := hW
 obtain ⟨p,q,h1,h2,rfl,h3,h4⟩ := hW
 rw [hvars] at h2
 obtain ⟨rfl,rfl⟩ := ChangeShapes.trodVars_none h2
 obtain ⟨f1,f2,f3⟩ := hfn
 refine ⟨ds,[],_,[],p,[],hW0,?_,?_,?_,?_,fun h => by cases h⟩
 ·rw [f1,hrt]
  exact ⟨[],[],⟨1,by simp [DataW.trod,ht,Value.cells]⟩,rfl,rfl⟩
 ·rw [f2]
  exact trodAll_below hl hb hall h1 (fun x hx => hlt x (List.mem_append_left _ hx))
 ·rw [f3,hvars]; rfl
 ·exact hb.frame _
theorem fam_calls {f : FuncId} {ι : Type} {A : ι → List V} {ok : ι → Prop} (hS : Spec P f (fam A (fun _ => []) ok (fun _ => ⟨.bool true,[]⟩))) (i : ι) (hi : ok i) {W : World} {vs : List Value} (hlen : (A i).length = vs.length)
 (hrd : ∀ (j : Nat) (u : V) (x : Value),(A i)[j]? = some u → vs[j]? = some x → Rd W (fun b => b < W.heap.size) noG u x) (hgl : GlobAt W (fun b => b < W.heap.size)) : Calls P f vs.toArray W fun e w' => e = .returned (.bool true) ∧ Below W.heap.size W w' := by
 refine (hS.calls (A i) [] ⟨.bool true,[]⟩ (zai (fun _ _ _ _ => rfl) i hi) W _ noG _ vs.toArray (entry_plain W (A i) vs.toArray (by simpa using hlen) (fun j u x h1 h2 => hrd j u x h1 (by simpa using h2)) hgl)).mono ?_
 rintro e w' ⟨v,I',γ',rfl,hL⟩
 have hv := hL.rd
 refine ⟨by cases hv; rfl,hL.inv.os,hL.inv.tape,hL.inv.output,hL.inv.size,fun b hb => hL.inv.frame b hb fun h => h⟩
theorem rd_nil {W : World} : ∀ (j : Nat) (u : V) (x : Value),([] : List V)[j]? = some u → ([] : List Value)[j]? = some x → Rd W (fun b => b < W.heap.size) noG u x := fun j u x h => by simp at h
theorem rd_cons {W : World} {u : V} {x : Value} {us : List V} {xs : List Value} (h : Rd W (fun b => b < W.heap.size) noG u x) (hs : ∀ (j : Nat) (u : V) (x : Value),us[j]? = some u → xs[j]? = some x → Rd W (fun b => b < W.heap.size) noG u x) :
 ∀ (j : Nat) (u' : V) (x' : Value),(u :: us)[j]? = some u' → (x :: xs)[j]? = some x' → Rd W (fun b => b < W.heap.size) noG u' x' := fun j u' x' h1 h2 => by
 cases j with
 | zero => simp at h1 h2; subst h1; subst h2; exact h
 | succ j => exact hs j u' x' (by simpa using h1) (by simpa using h2)
theorem Rd.sl_len {w : World} {I : Nat → Prop} {γ : Nat → Option GI} {t es : Nat} {rows : List (List V)} {v : Value} (h : Rd w I γ (.sl t es rows) v) : rows.length ≤ 9223372036854775807 := by
 cases h with
 | nil => exact Nat.zero_le _
 | sl _ _ _ _ _ n c _ _ _ hlen hnc hcm =>
  have : maxLen = 9223372036854775807 := by decide
  omega
end Go.Lift
namespace Go.Lift
variable {w0 w : World} {ex : Ex} {I : Nat → Prop} {γ : Nat → Option GI} {g : Nat → Option AObj}
end Go.Lift
namespace Go.Lift
section
variable {v : V} {g : Nat → Option AObj}
end
end Go.Lift
namespace Go.Lift
end Go.Lift

set_option maxRecDepth 20000
namespace Go.Proofs.YtcpdgbncekdicaaGreat
open Go.Lift
theorem laid : laidOutB Tryz.prog = true := by kernel_rfl
theorem glob0 {W : World} {I : Nat → Prop} (h : ∀ g,GLB g = none) : GlobAt W I := fun g cs hg => by rw [h g] at hg; cases hg
theorem cells3 : Tryz.prog.cellsOf 3 = 1 := by kernel_rfl
noncomputable def R3 : Reader Tryz.prog 3 Int := rdInt .i64 Tryz.underlying3 cells3
theorem cells33 : Tryz.prog.cellsOf 33 = 1 := by kernel_rfl
noncomputable def R33 : Reader Tryz.prog 33 (List Int) := rdSlice Tryz.underlying33 cells33 R3
theorem enc33 (a : List Int) : (R33).enc a = [.sl 2 1 (zaL a)] := by
 show [V.sl 2 (Tryz.prog.cellsOf 3) (a.map (R3).enc)] = _
 rw [cells3]
 first | rfl | (congr 1; congr 1; exact congrArg (fun f => a.map f) (funext fun x => rfl))
theorem sarg3 {H : Type} {eh : TypeId × Value → H} {w W0 : World} {r : Reach} {b0 : Nat} {v : Value} {d : DataW H} {ps : List MemPlace} (hval : Value.okWide Tryz.prog W0 r b0 3 v) (hd : DataW.Trod eh Tryz.prog w 0 (fun _ => true) true 3 v d ps) : ∃ a : Int,Rd w (fun b => b < w.heap.size) noG ((fun a : Int => V.int .i64 a) a) v ∧ (In64 a) := by
 obtain ⟨a,h0,h1,h2⟩ := (R3).cell (e := fun a : Int => V.int .i64 a) (fun _ => rfl) (fun h => cells_int Tryz.underlying3 h) hval hd
 exact ⟨a,h0,wf_i64 h1⟩
theorem sarg33 {H : Type} {eh : TypeId × Value → H} {w W0 : World} {r : Reach} {b0 : Nat} {v : Value} {d : DataW H} {ps : List MemPlace} (hval : Value.okWide Tryz.prog W0 r b0 33 v) (hd : DataW.Trod eh Tryz.prog w 0 (fun _ => true) true 33 v d ps) : ∃ a : List Int,Rd w (fun b => b < w.heap.size) noG ((fun a : List Int => V.sl 2 1 (zaL a)) a) v ∧ (a.length ≤ 9223372036854775807 ∧ ∀ x ∈ a,In64 x) := by
 obtain ⟨a,h0,h1,h2⟩ := (R33).cell (e := fun a : List Int => V.sl 2 1 (zaL a)) (enc33) (fun h => cells_slice Tryz.underlying33 h) hval hd
 exact ⟨a,h0,⟨by have := Rd.sl_len h0; simpa using this,(fun y hy => wf_i64 (h1 y hy))⟩⟩
end Go.Proofs.YtcpdgbncekdicaaGreat

