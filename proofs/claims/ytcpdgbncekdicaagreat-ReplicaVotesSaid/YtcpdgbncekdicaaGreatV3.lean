/-
  Texts: PLC, T1, PLD, T2, M1, P0, P1, PW1, PW2, PD.
-/
import Derived.Test.YtcpdgbncekdicaaGreatV2
import Derived.KernelRfl
import Derived.Below
import Derived.Carry
import Derived.ChangeSame
import Derived.WideShapes
import Derived.OpenShut
import Derived.Test.YtcpdgbncekdicaaGreatRows
import Derived.Laws.Strings
set_option linter.unusedSimpArgs false
set_option linter.unusedVariables false
namespace Go.Lift
variable {P : Program} {T : TypeId → Option TI} {C : FuncId → List V → List AObj → Option CRes}
def zlT (o : Oper) : List Nat:=(o.after.toList.filter fun e=>Region.binds .any e).map (·.on)
def direct (ops : Array Oper) (j : Nat) : List Nat:=match ops[j]? with | some o=>zlT o | none=>[]
def orAll (tab : List Nat) : List Nat → Nat
 | []=>0
 | k :: r=>(2 ^ k ||| tab.getD k 0) ||| orAll tab r
def befores : List Oper → List Nat → List Nat
 | [],acc=>acc
 | o :: r,acc=>befores r (acc ++ [orAll acc (zlT o)])
def zfN (ops : Array Oper) (tab : List Nat) : Bool :=
 (List.range ops.size).all fun j=>(direct ops j).all (fun k=>decide (k < j)) && (tab.getD j 0 == orAll tab (direct ops j)) &&
  (List.range j).all fun i=>(tab.getD j 0).testBit i || match ops[i]?,ops[j]? with
   | some a,some b=>a.apart ops b
   | _,_=>false
def disj (a b : List Nat) : Bool:=a.all fun x=>!b.contains x
def indep (f g : List Nat × List Nat) : Bool:=disj f.2 (g.1 ++ g.2) && disj g.2 f.1
def fpOk (tab : List Nat) : List (Nat × List Nat × List Nat) → Bool
 | []=>true
 | (i,f) :: r=>r.all (fun p=>(tab.getD p.1 0).testBit i || indep f p.2) && fpOk tab r
theorem znj {a b : List Nat} (h : disj a b = true) : ∀ x ∈ a,x ∉ b:=by
 intro x hx hb
 have:=List.all_eq_true.1 h x hx
 simp [hb] at this
theorem znY {tab : List Nat} {i : Nat} : ∀ {l : List Nat},(orAll tab l).testBit i = true → ∃ k ∈ l,i = k ∨ (tab.getD k 0).testBit i = true
 | [],h=>by simp [orAll] at h
 | k :: r,h=>by
  simp only [orAll,Nat.testBit_or,Bool.or_eq_true] at h
  rcases h with (h | h) | h
  ·refine ⟨k,List.mem_cons_self ..,.inl ?_⟩
   rw [Nat.testBit_two_pow] at h
   exact (show k = i by simpa using h).symm
  ·exact ⟨k,List.mem_cons_self ..,.inr h⟩
  ·obtain ⟨k',h1,h2⟩:=znY h
   exact ⟨k',List.mem_cons_of_mem _ h1,h2⟩
theorem zf6 {ops : Array Oper} {tab : List Nat} (h : zfN ops tab = true) : ∀ j,j < ops.size → (∀ k ∈ direct ops j,k < j) ∧ tab.getD j 0 = orAll tab (direct ops j) ∧
 ∀ i,i < j → (tab.getD j 0).testBit i = true ∨ ∃ a b,ops[i]? = some a ∧ ops[j]? = some b ∧ a.apart ops b = true:=by
 simp only [zfN,Bool.and_eq_true,List.all_eq_true,List.mem_range] at h
 intro j hj
 obtain ⟨⟨h1,h2⟩,h3⟩:=h j hj
 refine ⟨fun k hk=>by simpa using h1 k hk,by simpa using h2,fun i hi=>?_⟩
 have:=h3 i hi
 simp only [Bool.or_eq_true] at this
 rcases this with h | h
 ·exact .inl h
 ·split at h
  ·rename_i a b ha hb; exact .inr ⟨a,b,ha,hb,h⟩
  ·cases h
theorem zm6 {ops : Array Oper} {tab : List Nat} (hd : zfN ops tab = true) {L : Nat → Prop} (hcl : ∀ j,L j → ∀ k ∈ direct ops j,L k) : ∀ (j : Nat),j < ops.size → (∀ k ∈ direct ops j,L k) → ∀ i,(tab.getD j 0).testBit i = true → L i:=by
 intro j
 induction j using Nat.strongRecOn with
 | _ j ih =>
  intro hj hk i hi
  obtain ⟨h1,h2,_⟩:=zf6 hd j hj
  rw [h2] at hi
  obtain ⟨k,k1,k2⟩:=znY hi
  rcases k2 with rfl | k2
  ·exact hk i k1
  ·exact ih k (h1 k k1) (Nat.lt_trans (h1 k k1) hj) (hcl k (hk k k1)) i k2
theorem zhf {ops : Array Oper} {i : Nat} {st st' : St} {rd wr : List Nat} (h : astep T C ops i st = some (st',rd,wr)) :
 ∃ o,ops[i]? = some o ∧ ((zcq ops o st.s = some false ∧ st' = { st with s:=putS st.s o.dst (.tup []) } ∧ rd = [] ∧ wr = []) ∨
  (zcq ops o st.s = some true ∧ ∃ e,aop T C st.ev st.g (st.c + 8 * i) o.op = some e ∧ st' = { st with s:=putS st.s o.dst e.v,g:=zas st.g e.wr } ∧ rd = e.rd ∧ wr = e.wr.map (·.1))):=by
 unfold astep at h
 split at h
 ·cases h
 ·rename_i o ho
  refine ⟨o,ho,?_⟩
  split at h
  ·cases h
  ·rename_i hg; cases h; exact .inl ⟨hg,rfl,rfl,rfl⟩
  ·rename_i hg
   split at h
   ·cases h
   ·rename_i e he; cases h; exact .inr ⟨hg,e,he,rfl,rfl,rfl⟩
theorem zu5 {s : Nat → V} {d : Option Tmp} {v : V} {n : Nat} (h : ∀ t,d = some t → n ≠ t) : putS s d v n = s n:=by
 cases d with
 | none=>rfl
 | some t=>exact zaz _ _ (h t rfl)
theorem ze4 {l : List (Nat × AObj)} {g : Nat → Option AObj} {n : Nat} (h : n ∉ l.map (·.1)) : zas g l n = g n:=by
 rcases zcy l g n with ⟨o,h1,_⟩ | ⟨_,h2⟩
 ·exact absurd (List.mem_map.2 ⟨(n,o),h1,rfl⟩) h
 ·exact h2
theorem ze3 : ∀ {l : List (Nat × AObj)} {g g' : Nat → Option AObj} {n : Nat},g n = g' n → zas g l n = zas g' l n
 | [],_,_,_,h=>h
 | (k,o) :: l,g,g',n,h=>by
  show zas (upd g k (some o)) l n = zas (upd g' k (some o)) l n
  refine ze3 ?_
  unfold upd; split
  ·rfl
  ·exact h
theorem zeI : ∀ {l : List (Nat × AObj)} {g g' : Nat → Option AObj} {n : Nat},n ∈ l.map (·.1) → zas g l n = zas g' l n
 | [],_,_,_,h=>by simp at h
 | (k,o) :: l,g,g',n,h=>by
  show zas (upd g k (some o)) l n = zas (upd g' k (some o)) l n
  by_cases hm : n ∈ l.map (·.1)
  ·exact zeI hm
  ·have : n = k:=by simpa [hm] using h
   subst this
   refine ze3 ?_
   simp
theorem zp7 {a b : List (Nat × AObj)} {g : Nat → Option AObj} (h : ∀ x ∈ a.map (·.1),x ∉ b.map (·.1)) : zas (zas g a) b = zas (zas g b) a:=by
 funext n
 by_cases ha : n ∈ a.map (·.1)
 ·rw [ze4 (h n ha)]
  exact zeI ha
 ·rw [ze4 (l:=a) ha]
  exact ze3 (ze4 ha)
theorem zbA {ops : Array Oper} {o : Oper} {s s' : Nat → V} (h : ∀ d,d ∈ o.looksAt ops → s' d = s d) : zcq ops o s' = zcq ops o s:=by
 unfold zcq
 cases hg : o.guard with
 | none=>rfl
 | some p =>
  obtain ⟨j,want⟩:=p
  simp only
  cases hd : (ops[j]?).bind (·.dst) with
  | none=>rfl
  | some d =>
   simp only
   rw [h d (by simp [Oper.looksAt,hg,hd])]
theorem swap {ops : Array Oper} {x i : Nat} {s0 s1 s2 : St} {rx wx ri wi : List Nat} {ox oi : Oper} (hox : ops[x]? = some ox) (hoi : ops[i]? = some oi) (hap : ox.apart ops oi = true)
 (hx : astep T C ops x s0 = some (s1,rx,wx)) (hi : astep T C ops i s1 = some (s2,ri,wi)) (hin : indep (rx,wx) (ri,wi) = true) :
 ∃ s1',astep T C ops i s0 = some (s1',ri,wi) ∧ astep T C ops x s1' = some (s2,rx,wx):=by
 obtain ⟨p1,p2,p3⟩:=Oper.apart_spec hap
 simp only [indep,Bool.and_eq_true] at hin
 have d1:=znj hin.1
 have d2:=znj hin.2
 have operands : ∀ {o : Oper} {st st' : St},(∀ d,d ∈ o.looksAt ops → st'.s d = st.s d) → ∀ y ∈ o.op.operands,st'.ev y = st.ev y:=by
  intro o st st' h y hy
  cases y with
  | tmp t=>exact h t (by simp only [Oper.looksAt,List.mem_append,List.mem_filterMap]; exact .inl ⟨.tmp t,Array.mem_toList_iff.2 hy,rfl⟩)
  | _=>rfl
 obtain ⟨ox',hox',hxx⟩:=zhf hx
 obtain ⟨oi',hoi',hii⟩:=zhf hi
 rw [hox] at hox'; cases hox'
 rw [hoi] at hoi'; cases hoi'
 have putcomm : ∀ (s : Nat → V) (u v : V),putS (putS s ox.dst u) oi.dst v = putS (putS s oi.dst v) ox.dst u:=by
  intro s u v
  cases hdx : ox.dst with
  | none=>rfl
  | some d =>
   cases hdi : oi.dst with
   | none=>rfl
   | some d' =>
    have hne : d ≠ d':=fun e=>p2 d hdx (by rw [hdi,e])
    funext n
    simp only [putS,upd]
    by_cases h1 : n = d <;> by_cases h2 : n = d' <;> simp [h1,h2]
    ·exact absurd (h1.symm.trans h2) hne
    ·intro h; exact absurd h hne
    ·intro h; exact absurd h.symm hne
 have sx : ∀ u,∀ d,d ∈ oi.looksAt ops → putS s0.s ox.dst u d = s0.s d:=fun u d hd=>zu5 fun t ht e=>p1 t ht (e ▸ hd)
 have si : ∀ (s : Nat → V) u,∀ d,d ∈ ox.looksAt ops → putS s oi.dst u d = s d:=fun s u d hd=>zu5 fun t ht e=>p3 t ht (e ▸ hd)
 rcases hxx with ⟨gx,rfl,rfl,rfl⟩ | ⟨gx,ex,hex,rfl,rfl,rfl⟩
 ·rcases hii with ⟨gi,rfl,rfl,rfl⟩ | ⟨gi,ei,hei,rfl,rfl,rfl⟩
  ·rw [zbA (sx _)] at gi
   refine ⟨{ s0 with s:=putS s0.s oi.dst (.tup []) },by simp only [astep,hoi,gi],?_⟩
   have:=zbA (ops:=ops) (o:=ox) (s:=s0.s) (si s0.s (.tup []))
   simp only [astep,hox,this,gx,putcomm]
  ·simp only at gi hei
   rw [zbA (sx _)] at gi
   rw [zgp (ρ:=s0.ev) (operands (st:=s0) (o:=oi) (sx _))] at hei
   refine ⟨{ s0 with s:=putS s0.s oi.dst ei.v,g:=zas s0.g ei.wr },by simp only [astep,hoi,gi,hei],?_⟩
   have:=zbA (ops:=ops) (o:=ox) (s:=s0.s) (si s0.s ei.v)
   simp only [astep,hox,this,gx,putcomm]
 ·rcases hii with ⟨gi,rfl,rfl,rfl⟩ | ⟨gi,ei,hei,rfl,rfl,rfl⟩
  ·simp only at gi
   rw [zbA (sx _)] at gi
   refine ⟨{ s0 with s:=putS s0.s oi.dst (.tup []) },by simp only [astep,hoi,gi],?_⟩
   have hg:=zbA (ops:=ops) (o:=ox) (s:=s0.s) (si s0.s (.tup []))
   have ho:=zgp (T:=T) (C:=C) (ρ:=s0.ev) (ρ':=({ s0 with s:=putS s0.s oi.dst (.tup []) } : St).ev) (g:=s0.g) (nm:=s0.c + 8 * x) (operands (st:=s0) (o:=ox) (si s0.s (.tup [])))
   simp only [astep,hox,hg,gx,ho,hex,putcomm]
  ·simp only at gi hei d1 d2
   rw [zbA (sx _)] at gi
   rw [zgp (ρ:=s0.ev) (operands (st:=s0) (o:=oi) (sx _))] at hei
   have hei':=ztN hei (g':=s0.g) (fun n hn=>(ze4 (fun h=>d1 n h hn)).symm)
   refine ⟨{ s0 with s:=putS s0.s oi.dst ei.v,g:=zas s0.g ei.wr },by simp only [astep,hoi,gi,hei'],?_⟩
   have hg:=zbA (ops:=ops) (o:=ox) (s:=s0.s) (si s0.s ei.v)
   have ho:=zgp (T:=T) (C:=C) (ρ:=s0.ev) (ρ':=({ s0 with s:=putS s0.s oi.dst ei.v,g:=zas s0.g ei.wr } : St).ev) (g:=zas s0.g ei.wr) (nm:=s0.c + 8 * x) (operands (st:=s0) (o:=ox) (si s0.s ei.v))
   have hex':=ztN hex (g':=zas s0.g ei.wr) (fun n hn=>ze4 (fun h=>by
    rcases List.mem_append.1 hn with hn | hn
    ·exact d2 n h hn
    ·exact d1 n hn (List.mem_append_right _ h)))
   have hcm : zas (zas s0.g ex.wr) ei.wr = zas (zas s0.g ei.wr) ex.wr:=zp7 fun n hn h=>d1 n hn (List.mem_append_right _ h)
   simp only [astep,hox,hg,gx,ho,hex',putcomm,hcm]
theorem front {ops : Array Oper} {tab : List Nat} (hd : zfN ops tab = true) {i : Nat} {B : List Nat} : ∀ {A : List Nat} {st st' : St} {fp},(∀ x ∈ A,x < i ∧ (tab.getD i 0).testBit x = false) → runL T C ops (A ++ i :: B) st = some (st',fp) → fpOk tab fp = true →
 ∃ st1 rd wr fp',astep T C ops i st = some (st1,rd,wr) ∧ runL T C ops (A ++ B) st1 = some (st',fp') ∧ fpOk tab fp' = true ∧ (∀ p ∈ fp',p ∈ fp) ∧ (i,rd,wr) ∈ fp
 | [],st,st',fp,_,hr,hf=>by
  simp only [List.nil_append,runL] at hr
  split at hr
  ·rename_i st1 rd wr hs
   split at hr
   ·rename_i st2 l h2
    cases hr
    simp only [fpOk,Bool.and_eq_true] at hf
    exact ⟨st1,rd,wr,l,hs,h2,hf.2,fun p hp=>List.mem_cons_of_mem _ hp,List.mem_cons_self ..⟩
   ·cases hr
  ·cases hr
 | x :: A,st,st',fp,hA,hr,hf=>by
  simp only [List.cons_append,runL] at hr
  split at hr
  ·rename_i sx rx wx hs
   split at hr
   ·rename_i st2 l h2
    cases hr
    simp only [fpOk,Bool.and_eq_true] at hf
    obtain ⟨st1,rd,wr,fp',q1,q2,q3,q4,q5⟩:=front hd (fun y hy=>hA y (List.mem_cons_of_mem _ hy)) h2 hf.2
    obtain ⟨hlt,hbit⟩:=hA x (List.mem_cons_self ..)
    have hpair:=List.all_eq_true.1 hf.1 _ q5
    simp only [hbit,Bool.false_or] at hpair
    obtain ⟨oi,hoi,_⟩:=zhf q1
    have hisz : i < ops.size:=(Array.getElem?_eq_some_iff.1 hoi).1
    have hst:=zf6 hd
    obtain ⟨a,b,ha,hb,hap⟩:=((hst i hisz).2.2 x hlt).resolve_left (by rw [hbit]; simp)
    obtain ⟨s1',r1,r2⟩:=swap ha hb hap hs q1 hpair
    refine ⟨s1',rd,wr,(x,rx,wx) :: fp',r1,by simp only [List.cons_append,runL,r2,q2],?_,?_,List.mem_cons_of_mem _ q5⟩
    ·simp only [fpOk,Bool.and_eq_true]
     exact ⟨List.all_eq_true.2 fun p hp=>List.all_eq_true.1 hf.1 p (q4 p hp),q3⟩
    ·intro p hp
     rcases List.mem_cons.1 hp with rfl | hp
     ·exact List.mem_cons_self ..
     ·exact List.mem_cons_of_mem _ (q4 p hp)
   ·cases hr
  ·cases hr
variable {P : Program} {T : TypeId → Option TI} {C : FuncId → List V → List AObj → Option CRes}
theorem zwY (hT : zaJ P T) (hC : zai P C) {w0 ex N} {ops : Array Oper} {tab : List Nat} (hd : zfN ops tab = true) (hN : ∀ (i : Nat) (o : Oper) t,ops[i]? = some o → o.dst = some t → t < N) {Q : Exit → Act → World → Prop} {st' : St}
 (hQ : ∀ a' w' I' γ',Sim w0 ex N st' a' w' I' γ' → Q .normal a' w') : ∀ (n : Nat) (l : List Nat) (listed : Array Bool) {st : St} {fp} {a w I γ},l.length = n → listed.size = ops.size →
 (∀ i,i ∈ l ↔ i < ops.size ∧ listed.getD i true = false) → l.Pairwise (· < ·) → (∀ j,listed.getD j false = true → ∀ k ∈ direct ops j,listed.getD k false = true) → runL T C ops l st = some (st',fp) → fpOk tab fp = true →
 Sim w0 ex N st a w I γ → wpAny P .any ops Q n listed a w:=by
 intro n
 induction n with
 | zero =>
  intro l listed st fp a w I γ hl hsz hmem _ _ hr _ hs
  cases List.eq_nil_of_length_eq_zero hl
  cases hr
  refine ⟨?_,hQ _ _ _ _ hs⟩
  rw [List.eq_nil_iff_forall_not_mem]
  intro i hi
  obtain ⟨h1,o,h2,_⟩:=mem_ready.1 hi
  have:=(hmem i).2 ⟨(Array.getElem?_eq_some_iff.1 h2).1,h1⟩
  cases this
 | succ n ih =>
  intro l listed st fp a w I γ hl hsz hmem hsort hcl hr hf hs
  have get_lt : ∀ k,k < ops.size → listed.getD k true = false ∨ listed.getD k false = true:=by
   intro k hk
   have hk' : k < listed.size:=by rw [hsz]; exact hk
   cases hb : listed[k] with
   | false=>left; simp [Array.getD,hk',hb]
   | true=>right; simp [Array.getD,hk',hb]
  have dirs : ∀ j o,ops[j]? = some o → ∀ k,k ∈ direct ops j ↔ ∃ e ∈ o.after,Region.binds .any e = true ∧ e.on = k:=by
   intro j o ho k
   simp only [direct,ho,zlT,List.mem_map,List.mem_filter,Array.mem_toList_iff]
   constructor
   ·rintro ⟨e,⟨h1,h2⟩,h3⟩; exact ⟨e,h1,h2,h3⟩
   ·rintro ⟨e,h1,h2,h3⟩; exact ⟨e,⟨h1,h2⟩,h3⟩
  refine ⟨fun hnil=>?_,fun i hi=>?_⟩
  ·exfalso
   cases l with
   | nil=>simp at hl
   | cons h t =>
    have hh:=(hmem h).1 (List.mem_cons_self ..)
    have ho:=Array.getElem?_eq_getElem hh.1
    have : h ∈ Region.ready .any ops listed:=by
     refine mem_ready.2 ⟨hh.2,_,ho,fun e he hb=>?_⟩
     have hk:=(dirs h _ ho e.on).2 ⟨e,he,hb,rfl⟩
     have hlt:=(zf6 hd h hh.1).1 _ hk
     rcases get_lt e.on (Nat.lt_trans hlt hh.1) with h1 | h1
     ·have:=(hmem e.on).2 ⟨Nat.lt_trans hlt hh.1,h1⟩
      rcases List.mem_cons.1 this with h2 | h2
      ·omega
      ·have:=(List.pairwise_cons.1 hsort).1 _ h2; omega
     ·exact h1
    rw [hnil] at this; cases this
  ·obtain ⟨h1,o,ho,hall⟩:=mem_ready.1 hi
   have hisz:=(Array.getElem?_eq_some_iff.1 ho).1
   have him:=(hmem i).2 ⟨hisz,h1⟩
   obtain ⟨A,B,rfl⟩:=List.append_of_mem him
   have hdirl : ∀ k ∈ direct ops i,listed.getD k false = true:=by
    intro k hk
    obtain ⟨e,he,hb,rfl⟩:=(dirs i o ho k).1 hk
    exact hall e he hb
   have hA : ∀ x ∈ A,x < i ∧ (tab.getD i 0).testBit x = false:=by
    intro x hx
    refine ⟨(List.pairwise_append.1 hsort).2.2 x hx i (List.mem_cons_self ..),?_⟩
    cases hb : (tab.getD i 0).testBit x with
    | false=>rfl
    | true =>
     have hl':=zm6 hd (L:=fun k=>listed.getD k false = true) hcl i hisz hdirl x hb
     have hx':=(hmem x).1 (List.mem_append_left _ hx)
     have hlt : x < listed.size:=by rw [hsz]; exact hx'.1
     simp [Array.getD,hlt] at hl' hx'
     rw [hl'] at hx'
     simp at hx'
   obtain ⟨st1,rd,wr,fp',q1,q2,q3,_,_⟩:=front hd hA hr hf
   refine zi9 hT hC hs q1 (hN i) fun a' w' I' γ' hs'=>ih (A ++ B) _ ?_ ?_ ?_ ?_ ?_ q2 q3 hs'
   ·simp at hl ⊢; omega
   ·simpa using hsz
   ·intro k
    have hil : i < listed.size:=by rw [hsz]; exact hisz
    have hni : i ∉ A ++ B:=by
     intro hm
     rcases List.mem_append.1 hm with hm | hm
     ·exact Nat.lt_irrefl _ ((List.pairwise_append.1 hsort).2.2 i hm i (List.mem_cons_self ..))
     ·exact Nat.lt_irrefl _ ((List.pairwise_cons.1 (List.pairwise_append.1 hsort).2.1).1 i hm)
    by_cases e : k = i
    ·subst e
     constructor
     ·intro hm; exact absurd hm hni
     ·rintro ⟨_,h⟩; simp [Array.getD,hil] at h
    ·rw [getD_set_ne true (fun h=>e h.symm),← hmem k]
     simp [e]
   ·have hp:=List.pairwise_append.1 hsort
    refine List.pairwise_append.2 ⟨hp.1,(List.pairwise_cons.1 hp.2.1).2,fun x hx y hy=>hp.2.2 x hx y (List.mem_cons_of_mem _ hy)⟩
   ·intro j hj k hk
    by_cases e : j = i
    ·subst e; exact getD_set_true (hdirl k hk)
    ·rw [getD_set_ne false (fun h=>e h.symm)] at hj
     exact getD_set_true (hcl j hj k hk)
theorem Sim.same {w0 ex N st a w I γ} (h : Sim w0 ex N st a w I γ) {w' : World} (hs : Same w w') : Sim w0 ex N st a w' I γ :=
 ⟨h.size,fun n=>(hs.ext I γ).rd (h.slots n),h.inv.same hs,h.defers,(hs.ext I γ).glob h.glob⟩
def Weak (k : Nat) (st st' : St) : Prop:=∀ w0 ex N a w I γ,(∀ n,k ≤ n → ex.fix n = none) → Sim w0 ex N st a w I γ → ∃ I' γ',Sim w0 ex N st' a w I' γ'
theorem Weak.refl (k : Nat) (st : St) : Weak k st st:=fun _ _ _ _ _ _ _ _ h=>⟨_,_,h⟩
theorem Weak.trans {k : Nat} {a b c : St} (h : Weak k a b) (h2 : Weak k b c) : Weak k a c:=fun w0 ex N x w I γ hk s=>by
 obtain ⟨I',γ',s'⟩:=h w0 ex N x w I γ hk s
 exact h2 w0 ex N x w I' γ' hk s'
noncomputable def stepO (T : TypeId → Option TI) (C : FuncId → List V → List AObj → Option CRes) (ops : Array Oper) (o : Oper) (nm : Nat) (st : St) : Option (St × List Nat × List Nat) :=
 match zcq ops o st.s with
 | none=>none
 | some false=>some ({ st with s:=putS st.s o.dst (.tup []) },[],[])
 | some true=>match aop T C st.ev st.g nm o.op with
  | none=>none
  | some e=>some ({ st with s:=putS st.s o.dst e.v,g:=zas st.g e.wr },e.rd,e.wr.map (·.1))
noncomputable def runO (T : TypeId → Option TI) (C : FuncId → List V → List AObj → Option CRes) (ops : Array Oper) : List Oper → Nat → St → Option (St × List (Nat × List Nat × List Nat))
 | [],_,st=>some (st,[])
 | o :: r,i,st=>match stepO T C ops o (st.c + 8 * i) st with
  | some (st',rd,wr)=>match runO T C ops r (i + 1) st' with
   | some (st'',l)=>some (st'',(i,rd,wr) :: l)
   | none=>none
  | none=>none
theorem zvi {ops : Array Oper} : ∀ (l : List Oper) (i : Nat) (st : St),(∀ j,l[j]? = ops[i + j]?) → runO T C ops l i st = runL T C ops (List.range' i l.length) st
 | [],i,st,_=>rfl
 | o :: r,i,st,h=>by
  have ho : ops[i]? = some o:=by simpa using (h 0).symm
  have hr : ∀ j,r[j]? = ops[i + 1 + j]?:=fun j=>by
   have:=h (j + 1)
   rw [List.getElem?_cons_succ] at this
   rw [this]; congr 1; omega
  have hs : astep T C ops i st = stepO T C ops o (st.c + 8 * i) st:=by
   simp only [astep,ho,stepO]
   cases zcq ops o st.s with
   | none=>rfl
   | some b=>cases b <;> rfl
  simp only [runO,List.length_cons,List.range'_succ,runL,hs]
  cases stepO T C ops o (st.c + 8 * i) st with
  | none=>rfl
  | some p =>
   obtain ⟨a,b,c⟩:=p
   simp only [zvi r (i + 1) _ hr]
   cases runL T C ops (List.range' (i + 1) r.length) a <;> rfl
def tabOf (ops : Array Oper) : List Nat:=befores ops.toList []
def axwp (T : TypeId → Option TI) (C : FuncId → List V → List AObj → Option CRes) (k : Nat) : Code → (Exit → St → Prop) → St → Prop
 | .skip,Q,st=>Q .normal st
 | .label _,Q,st=>Q .normal st
 | .region _ ops draw,Q,st=>∃ st' fp,runO T C ops ops.toList 0 st = some (st',fp) ∧ (draw = true → zfN ops (tabOf ops) = true ∧ fpOk (tabOf ops) fp = true) ∧ Q .normal { st' with c:=st'.c + 8 * ops.size }
 | .seq a b,Q,st=>axwp T C k a (fun e st'=>match e with | .normal=>axwp T C k b Q st' | e=>Q e st') st
 | .cond c x y,Q,st=>match st.ev c with
  | .bool true=>axwp T C k x Q st
  | .bool false=>axwp T C k y Q st
  | .anyB=>axwp T C k x Q st ∧ axwp T C k y Q st
  | _=>False
 | .block id c,Q,st=>axwp T C k c (fun e st'=>match e with | .exit i=>if i = id then Q .normal st' else Q (.exit i) st' | e=>Q e st') st
 | .loop c,Q,st=>∃ J : Nat → St → Prop,(∃ n st0,Weak k st st0 ∧ J n st0) ∧ ∀ n st1,J n st1 → axwp T C k c (fun e st'=>match e with | .normal=>∃ m st2,m < n ∧ Weak k st' st2 ∧ J m st2 | e=>Q e st') st1
 | .exit id,Q,st=>Q (.exit id) st
 | .ret,Q,st=>Q .ret st
 | _,_,_=>False
def dstOk (N : Nat) : Code → Bool
 | .region _ ops _=>ops.all fun o=>match o.dst with | some d=>decide (d < N) | none=>true
 | .seq a b=>dstOk N a && dstOk N b
 | .cond _ a b=>dstOk N a && dstOk N b
 | .block _ a=>dstOk N a
 | .loop a=>dstOk N a
 | _=>true
theorem zrm {c : Code} {Q : Exit → Act → World → Prop} (I : Nat → Act → World → Prop) (round : ∀ n a w,I n a w → c.wp P (Exit.then (fun a' w'=>∃ m,m < n ∧ I m a' w') Q) a w) {n : Nat} {a : Act} {w : World} (h₀ : I n a w) : (Code.loop c).wp P Q a w:=by
 intro b k cs
 have key : ∀ n a w,I n a w → ∃ e a' w',Q e a' w' ∧ Arrives P (lone (b.at a (.code c :: .inLoop c :: k)) cs w) b k cs e a' w':=by
  intro n
  induction n using Nat.strongRecOn with
  | _ n ih =>
   intro a w hI
   obtain ⟨e,a₁,w₁,hq,harr⟩:=round n a w hI b (.inLoop c :: k) cs
   cases e with
   | normal =>
    obtain ⟨m,hlt,hI₁⟩:=hq
    obtain ⟨e₂,a₂,w₂,hq₂,harr₂⟩:=ih m hlt a₁ w₁ hI₁
    exact ⟨e₂,a₂,w₂,hq₂,.of_steps (Steps.trans harr (.one step_inLoop)) harr₂⟩
   | exit id=>exact ⟨_,a₁,w₁,hq,.pass (x:=.inLoop c) rfl (fun _ _=>.inl (by simp)) harr⟩
   | goto l=>exact ⟨_,a₁,w₁,hq,.pass (x:=.inLoop c) rfl (fun _ _=>.inl (by simp)) harr⟩
   | ret=>exact ⟨_,a₁,w₁,hq,.pass (x:=.inLoop c) rfl (fun _ _=>.inl (by simp)) harr⟩
   | panic ch=>exact ⟨_,a₁,w₁,hq,.pass (x:=.inLoop c) rfl (fun _ _=>.inl (by simp)) harr⟩
   | outgrown=>exact ⟨_,a₁,w₁,hq,.pass (x:=.inLoop c) rfl (fun _ _=>.inl (by simp)) harr⟩
 obtain ⟨e,a',w',hq,harr⟩:=key n a w h₀
 exact ⟨e,a',w',hq,.of_steps (.one step_loop) harr⟩
theorem zkT (hT : zaJ P T) (hC : zai P C) (hm : P.follows .mixedOrders = true) {w0 ex N k} (hk : ∀ n,k ≤ n → ex.fix n = none) : ∀ (c : Code) {Q : Exit → St → Prop} {Q' : Exit → Act → World → Prop} {st a w I γ},dstOk N c = true → Sim w0 ex N st a w I γ → axwp T C k c Q st →
 (∀ e st' a' w' I' γ',Q e st' → Sim w0 ex N st' a' w' I' γ' → Q' e a' w') → c.wp P Q' a w:=by
 intro c
 induction c with
 | skip=>intro Q Q' st a w I γ _ hs h hQ; exact wp_skip (hQ _ _ _ _ _ _ h hs)
 | label l=>intro Q Q' st a w I γ _ hs h hQ; exact wp_label (hQ _ _ _ _ _ _ h hs)
 | exit id=>intro Q Q' st a w I γ _ hs h hQ; exact wp_exit (hQ _ _ _ _ _ _ h hs)
 | ret=>intro Q Q' st a w I γ _ hs h hQ; exact wp_ret (hQ _ _ _ _ _ _ h hs)
 | region id ops draw =>
  intro Q Q' st a w I γ hN hs h hQ
  obtain ⟨st',fp,h1,h2,h3⟩:=h
  rw [zvi ops.toList 0 st (fun j=>by rw [Array.getElem?_toList,Nat.zero_add]),Array.length_toList,← List.range_eq_range'] at h1
  have hN' : ∀ (i : Nat) (o : Oper) t,ops[i]? = some o → o.dst = some t → t < N:=by
   intro i o t ho ht
   have:=Array.all_eq_true_iff_forall_mem.1 hN o (Array.mem_of_getElem? ho)
   simpa [ht] using this
  have hQ' : ∀ a' w' I' γ',Sim w0 ex N st' a' w' I' γ' → Q' .normal a' w':=fun a' w' I' γ' hs'=>hQ _ _ _ _ _ _ h3 ⟨hs'.size,hs'.slots,hs'.inv,hs'.defers,hs'.glob⟩
  cases draw with
  | false=>exact wp_region (zls hT hC hN' hs h1 hQ')
  | true =>
   obtain ⟨d1,d2⟩:=h2 rfl
   refine wp_region_any hm (zwY hT hC d1 hN' hQ' ops.size (List.range ops.size) _ (by simp) (by simp) (fun i=>?_) List.pairwise_lt_range (fun j hj=>?_) h1 d2 (hs.same ⟨rfl,rfl,rfl,rfl⟩))
   ·rw [List.mem_range]
    constructor
    ·intro hi; exact ⟨hi,by simp [Array.getD,hi]⟩
    ·exact (·.1)
   ·exfalso
    by_cases hj' : j < ops.size <;> simp [Array.getD,hj'] at hj
 | seq x y ihx ihy =>
  intro Q Q' st a w I γ hN hs h hQ
  simp only [dstOk,Bool.and_eq_true] at hN
  refine wp_seq (ihx hN.1 hs h fun e st' a' w' I' γ' hq hs'=>?_)
  cases e with
  | normal=>exact ihy hN.2 hs' hq hQ
  | _=>exact hQ _ _ _ _ _ _ hq hs'
 | cond c x y ihx ihy =>
  intro Q Q' st a w I γ hN hs h hQ
  simp only [dstOk,Bool.and_eq_true] at hN
  simp only [axwp] at h
  have hev:=hs.ev c
  split at h
  ·rename_i hb
   rw [hb] at hev
   refine wp_cond_true ?_ (ihx hN.1 hs h hQ)
   generalize a.eval c = v at hev
   cases hev; rfl
  ·rename_i hb
   rw [hb] at hev
   refine wp_cond_false ?_ (ihy hN.2 hs h hQ)
   generalize a.eval c = v at hev
   cases hev; rfl
  ·rename_i hb
   rw [hb] at hev
   generalize hv : a.eval c = v at hev
   cases hev with
   | anyB _ b =>
    cases b with
    | true=>exact wp_cond_true hv (ihx hN.1 hs h.1 hQ)
    | false=>exact wp_cond_false hv (ihy hN.2 hs h.2 hQ)
  ·exact h.elim
 | block id c ih =>
  intro Q Q' st a w I γ hN hs h hQ
  refine wp_block (ih hN hs h fun e st' a' w' I' γ' hq hs'=>?_)
  cases e with
  | exit i =>
   simp only [Exit.inBlock]
   simp only at hq
   split
   ·rename_i e; rw [if_pos e] at hq; exact hQ _ _ _ _ _ _ hq hs'
   ·rename_i e; rw [if_neg e] at hq; exact hQ _ _ _ _ _ _ hq hs'
  | _=>exact hQ _ _ _ _ _ _ hq hs'
 | loop c ih =>
  intro Q Q' st a w I γ hN hs h hQ
  obtain ⟨J,⟨n,st0,hw,hJ⟩,hround⟩:=h
  obtain ⟨I0,γ0,hs0⟩:=hw _ _ _ _ _ _ _ hk hs
  refine zrm (fun n a w=>∃ st I γ,J n st ∧ Sim w0 ex N st a w I γ) (fun n a w ⟨st,I,γ,hj,hs⟩=>?_) (n:=n) ⟨st0,I0,γ0,hJ,hs0⟩
  refine ih hN hs (hround n st hj) fun e st' a' w' I' γ' hq hs'=>?_
  cases e with
  | normal =>
   obtain ⟨m,st2,hlt,hw2,hj2⟩:=hq
   obtain ⟨I2,γ2,hs2⟩:=hw2 _ _ _ _ _ _ _ hk hs'
   exact ⟨m,hlt,st2,I2,γ2,hj2,hs2⟩
  | _=>exact hQ _ _ _ _ _ _ hq hs'
 | _=>intro Q Q' st a w I γ _ _ h _; exact h.elim
variable {P : Program} {T : TypeId → Option TI} {C : FuncId → List V → List AObj → Option CRes}
def V.within (D : Nat → Bool) : V → Bool
 | .own nm _ _=>D nm
 | .ptr nm _ _=>D nm
 | .mth _ nm=>D nm
 | .agg cs | .tup cs=>withinAll D cs
 | .tree ..=>false
 | _=>true
where withinAll (D : Nat → Bool) : List V → Bool
 | []=>true
 | c :: cs=>c.within D && withinAll D cs
def V.withinC (D : Nat → Bool) : List V → Bool
 | []=>true
 | c :: cs=>(c.isTree || c.within D) && withinC D cs
def AObj.within (D : Nat → Bool) (o : AObj) : Bool:=decide (o.fl ≠ 0) || o.elems.all (V.withinC D)
theorem V.withinC_get {D : Nat → Bool} : ∀ {cs : List V},V.withinC D cs = true → ∀ (j : Nat) (u : V),cs[j]? = some u → u.isTree = true ∨ u.within D = true
 | [],_,j,u,h=>by simp at h
 | c :: cs,hc,j,u,h=>by
  simp only [V.withinC,Bool.and_eq_true,Bool.or_eq_true] at hc
  cases j with
  | zero=>simp at h; subst h; exact hc.1
  | succ j=>exact V.withinC_get hc.2 j u (by simpa using h)
theorem V.withinAll_get {D : Nat → Bool} : ∀ {cs : List V},V.within.withinAll D cs = true → ∀ (j : Nat) (u : V),cs[j]? = some u → u.within D = true
 | [],_,j,u,h=>by simp at h
 | c :: cs,hc,j,u,h=>by
  simp only [V.within.withinAll,Bool.and_eq_true] at hc
  cases j with
  | zero=>simp at h; subst h; exact hc.1
  | succ j=>exact V.withinAll_get hc.2 j u (by simpa using h)
theorem Rd.unren {w : World} {I : Nat → Prop} {γ γ' : Nat → Option GI} {f : Nat → Nat} {D : Nat → Bool} {u : V} {x : Value} (h : Rd w I γ u x) : ∀ v : V,v.ren f = u → v.within D = true → (∀ n,D n = true → γ' n = γ (f n)) → Rd w I γ' v x:=by
 induction h with
 | junk=>intro v e _ _; cases v <;> simp [V.ren] at e; exact .junk _ _
 | int=>intro v e _ _; cases v <;> simp [V.ren] at e; obtain ⟨rfl,rfl⟩:=e; exact .int _ _ _
 | bool=>intro v e _ _; cases v <;> simp [V.ren] at e; subst e; exact .bool _ _
 | str=>intro v e _ _; cases v <;> simp [V.ren] at e; subst e; exact .str _ _
 | nil _ t es h=>intro v e _ _; cases v <;> simp [V.ren] at e; obtain ⟨rfl,rfl,rfl⟩:=e; exact .nil _ _ _ h
 | sl _ tag es elems a n c xs h0 h1 hlen hnc hcm hes hcel hc hr ih =>
  intro v e _ _; cases v <;> simp [V.ren] at e; obtain ⟨rfl,rfl,rfl⟩:=e; exact .sl _ _ _ _ a n c xs h0 h1 hlen hnc hcm hes hcel hc hr
 | own _ nm off n c o gi hγ hnn hcap hn hcm ho =>
  intro v e hd hg; cases v <;> simp [V.ren] at e
  obtain ⟨rfl,rfl,rfl⟩:=e
  exact .own _ _ _ _ _ _ gi ((hg _ hd).trans hγ) hnn hcap hn hcm ho
 | ownnil _ nm A gi hγ hnn =>
  intro v e hd hg; cases v <;> simp [V.ren] at e
  obtain ⟨rfl,rfl,rfl⟩:=e
  exact .ownnil _ _ A gi ((hg _ hd).trans hγ) hnn
 | ptr _ nm i j gi hγ hnn =>
  intro v e hd hg; cases v <;> simp [V.ren] at e
  obtain ⟨rfl,rfl,rfl⟩:=e
  exact .ptr _ _ _ _ gi ((hg _ hd).trans hγ) hnn
 | mth _ f' nm gi hγ hnn =>
  intro v e hd hg; cases v <;> simp [V.ren] at e
  obtain ⟨rfl,rfl⟩:=e
  exact .mth _ _ _ gi ((hg _ hd).trans hγ) hnn
 | pp _ cells a xs hc hr ih=>intro v e _ _; cases v <;> simp [V.ren] at e; subst e; exact .pp _ _ a xs hc hr
 | pnil=>intro v e _ _; cases v <;> simp [V.ren] at e; exact .pnil _
 | agg _ cells xs hl hr ih =>
  intro v e hd hg
  cases v <;> simp [V.ren] at e
  rename_i cs
  subst e
  refine .agg _ _ _ ((zcl f cs).symm.trans hl) fun j u x hu hx=>?_
  exact ih j (u.ren f) x (by rw [zbx,hu]; rfl) hx u rfl (V.withinAll_get hd j u hu) hg
 | tup _ cells xs hl hr ih =>
  intro v e hd hg
  cases v <;> simp [V.ren] at e
  rename_i cs
  subst e
  refine .tup _ _ _ ((zcl f cs).symm.trans hl) fun j u x hu hx=>?_
  exact ih j (u.ren f) x (by rw [zbx,hu]; rfl) hx u rfl (V.withinAll_get hd j u hu) hg
 | fn=>intro v e _ _; cases v <;> simp [V.ren] at e; subst e; exact .fn _ _
 | clo _ f' caps xs hl hr ih=>intro v e _ _; cases v <;> simp [V.ren] at e; obtain ⟨rfl,rfl⟩:=e; exact .clo _ _ _ xs hl hr
 | anyB=>intro v e _ _; cases v <;> simp [V.ren] at e; exact .anyB _ _
 | treep=>intro v e hd _; cases v <;> simp [V.ren] at e; cases hd
 | trees=>intro v e hd _; cases v <;> simp [V.ren] at e; cases hd
theorem Inv.unren {w0 w : World} {ex I γ g} (h : Inv w0 ex I γ g w) {f : Nat → Nat} {g' : Nat → Option AObj} (hg : ∀ n o,g' n = some o → g (f n) = some (o.ren f)) (hinj : ∀ n m o o',g' n = some o → g' m = some o' → f n = f m → n = m)
 (hw : ∀ n o,g' n = some o → o.within (fun n=>(g' n).isSome) = true) (hfix : ∀ n gi,ex.fix n = some gi → f n = n ∧ (g' n).isSome = true) :
 Inv w0 ex I (fun n=>if (g' n).isSome = true then γ (f n) else none) g' w:=by
 have hD : ∀ n,(fun n=>(g' n).isSome) n = true → (fun n=>if (g' n).isSome = true then γ (f n) else none) n = γ (f n):=by
  intro n hn; simp only at hn ⊢; rw [if_pos hn]
 have gat : ∀ n o,g' n = some o → (if (g' n).isSome = true then γ (f n) else none) = γ (f n):=by
  intro n o hn; rw [hn]; rfl
 refine ⟨fun n o hn hm=>?_,?_,?_,?_,h.lt,h.keep,fun n gi hn=>?_,h.back,h.frame,h.os,h.tape,h.output,h.size,?_⟩
 rotate_right
 ·obtain ⟨F,hF⟩:=h.trees
  have tc : ∀ n i j u,TCell g' n i j u → TCell g (f n) i j u:=by
   rintro n i j u ⟨o,h1,h2,h3,h4⟩
   refine ⟨o.ren f,hg n o h1,by rw [AObj.ren_md]; exact h2,?_,h4⟩
   unfold AObj.ren
   split
   ·obtain ⟨r,k1,k2⟩:=zan h3
    refine zay (e:=V.ren.renAll f r) (by rw [List.getElem?_map,k1]; rfl) ?_
    rw [zbx,k2]
    simp only [Option.map_some,V.ren_nl f (.inl h4)]
   ·exact h3
  refine ⟨_,hF.still f (fun _ h=>h) (fun n i j u hu=>⟨tc n i j u hu,fun gi h1 h2=>?_⟩) (fun n m i j u i' j' u' hu hu' e=>?_) (fun _ _ _ _ _ _ _ h=>h) fun m o gi h1 h2 h3 h4=>?_⟩
  ·obtain ⟨o,k1,_⟩:=hu
   rw [← gat n o k1]; exact h1
  ·obtain ⟨o,k1,_⟩:=hu
   obtain ⟨o',k2,_⟩:=hu'
   exact hinj n m o o' k1 k2 e
  ·exact ⟨f m,o.ren f,gi,hg m o h1,by rw [AObj.ren_md]; exact h2,by rw [← gat m o h1]; exact h3,h4,rfl⟩
 ·have ho:=h.obj (f n) (o.ren f) (hg n o hn) (by rw [AObj.ren_md]; exact hm)
  by_cases hfl : o.fl = 0
  ·have hr : o.ren f = { o with elems:=o.elems.map (V.ren.renAll f) }:=by unfold AObj.ren; rw [if_pos hfl]
   rw [hr] at ho
   have hwn:=hw n o hn
   simp only [AObj.within,hfl,ne_eq,not_true,decide_false,Bool.false_or] at hwn
   have wcell : ∀ i j u,zah o.elems i j = some u → u.isTree = true ∨ u.within (fun n=>(g' n).isSome) = true:=by
    intro i j u hu
    obtain ⟨r,h1,h2⟩:=zan hu
    exact V.withinC_get (List.all_eq_true.1 hwn r (List.mem_of_getElem? h1)) j u h2
   have rencell : ∀ i j u,zah o.elems i j = some u → zah (o.elems.map (V.ren.renAll f)) i j = some (u.ren f):=by
    intro i j u hu
    obtain ⟨r,h1,h2⟩:=zan hu
    exact zay (e:=V.ren.renAll f r) (by rw [List.getElem?_map,h1]; rfl) (by rw [zbx,h2]; rfl)
   refine ⟨fun r hr=>?_,fun i j u hu=>?_,fun hf=>absurd hfl hf,fun hf=>by omega,?_⟩
   ·rw [← zcl f r]; exact ho.rows _ (List.mem_map.2 ⟨r,hr,rfl⟩)
   ·rw [← ze1 f u]; exact ho.cel i j _ (rencell i j u hu)
   ·rcases ho.at_ with ⟨he,gi,h1,h2⟩ | ⟨gi,cur,fr,h1,ha⟩
    ·exact .inl ⟨by simpa using he,gi,(gat n o hn).trans h1,h2⟩
    ·refine .inr ⟨gi,cur,fr,(gat n o hn).trans h1,⟨ha.nn,ha.es,ha.heap,ha.frz,ha.size,by simpa using ha.le,fun ht=>by simpa using ha.tight ht,ha.max,fun i j u hu=>?_,ha.ro,ha.rw⟩⟩
     obtain ⟨y,y1,y2⟩:=ha.cells i j _ (rencell i j u hu)
     refine ⟨y,y1,?_⟩
     rcases wcell i j u hu with h | h
     ·rw [V.ren_nl f (.inl h)] at y2
      exact y2.nl (.inl h) ⟨n,gi,(gat n o hn).trans h1⟩
     ·exact y2.unren u rfl h hD
  ·rw [AObj.ren_eq hfl] at ho
   refine ⟨ho.rows,ho.cel,ho.closed,ho.scalar,?_⟩
   rcases ho.at_ with ⟨he,gi,h1,h2⟩ | ⟨gi,cur,fr,h1,ha⟩
   ·exact .inl ⟨he,gi,(gat n o hn).trans h1,h2⟩
   ·refine .inr ⟨gi,cur,fr,(gat n o hn).trans h1,⟨ha.nn,ha.es,ha.heap,ha.frz,ha.size,ha.le,ha.tight,ha.max,fun i j u hu=>?_,ha.ro,ha.rw⟩⟩
    obtain ⟨y,y1,y2⟩:=ha.cells i j u hu
    exact ⟨y,y1,y2.closed (ho.closed hfl i j u hu) _⟩
 ·intro n m o o' gi gi' h1 h2 d1 d2 g1 g2 n1 n2 hb
  rw [gat n o h1] at g1; rw [gat m o' h2] at g2
  exact hinj n m o o' h1 h2 (h.inj (f n) (f m) _ _ gi gi' (hg n o h1) (hg m o' h2) (by rw [AObj.ren_md]; exact d1) (by rw [AObj.ren_md]; exact d2) g1 g2 n1 n2 hb)
 ·intro n o gi h1 d1 g1 n1
  rw [gat n o h1] at g1
  exact h.own (f n) _ gi (hg n o h1) (by rw [AObj.ren_md]; exact d1) g1 n1
 ·intro n gi h1 h2
  rw [h2] at h1
  cases h1
 ·obtain ⟨e1,e2⟩:=hfix n gi hn
  rw [if_pos e2,e1]; exact h.fix n gi hn
theorem zx6 {k : Nat} (f : Nat → Nat) {st st' : St} (hs : ∀ n,st'.s n = .junk ∨ (st.s n = (st'.s n).ren f ∧ (st'.s n).within (fun n=>(st'.g n).isSome) = true)) (hg : ∀ n o,st'.g n = some o → st.g (f n) = some (o.ren f))
 (hinj : ∀ n m o o',st'.g n = some o → st'.g m = some o' → f n = f m → n = m) (hw : ∀ n o,st'.g n = some o → o.within (fun n=>(st'.g n).isSome) = true) (hfix : ∀ n,n < k → f n = n ∧ (st'.g n).isSome = true) : Weak k st st':=by
 intro w0 ex N a w I γ hk h
 refine ⟨I,_,h.size,fun n=>?_,h.inv.unren hg hinj hw (fun n gi hn=>hfix n (Nat.lt_of_not_le fun hle=>by rw [hk n hle] at hn; cases hn)),h.defers,h.glob⟩
 rcases hs n with e | ⟨e,e2⟩
 ·rw [e]; exact .junk _ _
 ·have:=h.slots n
  rw [e] at this
  exact this.unren _ rfl e2 (fun m hm=>by rw [if_pos hm])
theorem zcw {k : Nat} {st : St} (i n : Nat) {sz : Nat} (o : AObj) (hi : st.s i = .sl 0 sz []) (hn : st.g n = none) (he : o.elems = []) : Weak k st { st with s:=upd st.s i (.own n 0 0),g:=upd st.g n (some o) }:=by
 intro w0 ex N a w I γ _ h
 obtain ⟨h1,h2⟩:=h.inv.phantom hn he
 refine ⟨I,_,h.size,fun m=>?_,h1,h.defers,h.glob⟩
 by_cases e : m = i
 ·subst e
  simp only [zaD]
  have:=h.slots m
  rw [hi] at this
  generalize a.tmps.getD m undef = x at this
  cases this with
  | nil=>exact .ownnil _ _ _ ⟨0,0,0,true⟩ (by simp [gUp]) rfl
  | sl _ _ _ _ a n c xs h0=>exact absurd rfl h0
 ·simp only [zaz _ _ e]
  exact h2.rd (h.slots m)
def zq6 (T : TypeId → Option TI) (st : St) : ResultVar → Option V
 | .tmp t=>some (st.s t)
 | .cell a t=>match aLoad T st.g t (st.s a) with | some e=>some e.v | none=>none
def zeE (T : TypeId → Option TI) (st : St) : List ResultVar → Option (List V)
 | []=>some []
 | r :: rs=>match zq6 T st r,zeE T st rs with
  | some v,some vs=>some (v :: vs)
  | _,_=>none
def retV (T : TypeId → Option TI) (st : St) (l : List ResultVar) : Option V :=
 match zeE T st l with
 | some [v]=>some v
 | some vs=>some (.tup vs)
 | none=>none
def Ret0 (T : TypeId → Option TI) (res : List ResultVar) (r : CRes) (k : Nat) (e : Exit) (st : St) : Prop :=
 (match e with | .normal | .ret=>True | _=>False) ∧ k ≤ r.objs.length ∧ ∃ ns : Nat → Nat,(∀ j,j < k → ns j = j) ∧ (∀ i j,i < r.objs.length → j < r.objs.length → ns i = ns j → i = j) ∧ retV T st res = some (r.v.ren ns) ∧
  (∀ (j : Nat) (o : AObj),r.objs[j]? = some o → st.g (ns j) = some (o.ren ns)) ∧ r.v.within (fun j=>decide (j < r.objs.length)) = true ∧ (∀ o ∈ r.objs,o.within (fun j=>decide (j < r.objs.length)) = true)
def Ret (T : TypeId → Option TI) (res : List ResultVar) (r : CRes) (k : Nat) (e : Exit) (st : St) : Prop:=∃ st',Weak k st st' ∧ Ret0 T res r k e st'
theorem Ret0.ret {T : TypeId → Option TI} {res : List ResultVar} {r : CRes} {k : Nat} {e : Exit} {st : St} (h : Ret0 T res r k e st) : Ret T res r k e st:=⟨st,Weak.refl _ _,h⟩
theorem Ret.weak {T : TypeId → Option TI} {res : List ResultVar} {r : CRes} {k : Nat} {e : Exit} {st st' : St} (h : Ret T res r k e st') (hw : Weak k st st') : Ret T res r k e st:=by
 obtain ⟨s,h1,h2⟩:=h
 exact ⟨s,hw.trans h1,h2⟩
def zeT (args : List V) (objs : List AObj) : St:={ s:=fun n=>args.getD n .junk,g:=fun n=>objs[n]?,c:=objs.length }
def zrc (tmps : Array Value) : ResultVar → Sem Value
 | .tmp t=>pure (tmps.getD t undef)
 | .cell a t=>do loadVar t (← asAddr (tmps.getD a undef))
theorem znX (hT : zaJ P T) {w0 ex N st a w I γ} (h : Sim w0 ex N st a w I γ) {r : ResultVar} {v : V} (hv : zq6 T st r = some v) :
 ∃ x,(zrc a.tmps r).run P w = .ok x w ∧ Rd w I γ v x:=by
 cases r with
 | tmp t=>cases hv; exact ⟨_,rfl,h.slots t⟩
 | cell c t =>
  simp only [zq6] at hv
  split at hv
  ·rename_i e he
   cases hv
   obtain ⟨_,x,h1,h2⟩:=ziZ (P:=P) hT h.inv (h.slots c) he
   refine ⟨x,?_,h2⟩
   rw [← h1]
   have hs:=h.slots c
   have : ∃ ad,a.tmps.getD c undef = .pointer (some ad):=by
    generalize a.tmps.getD c undef = y at hs
    unfold aLoad at he
    split at he
    ·cases he
    ·split at he
     ·rename_i hx; rw [hx] at hs; cases hs; exact ⟨_,rfl⟩
     ·rename_i hx; rw [hx] at hs; cases hs; exact ⟨_,rfl⟩
     ·cases he
   obtain ⟨ad,had⟩:=this
   simp only [zrc,had]; rfl
  ·cases hv
theorem zhJ (hT : zaJ P T) {w0 ex N st a w I γ} (h : Sim w0 ex N st a w I γ) : ∀ {l : List ResultVar} {vs : List V},zeE T st l = some vs →
 ∃ xs : List Value,(l.mapM (zrc a.tmps)).run P w = .ok xs w ∧ xs.length = vs.length ∧ ∀ (j : Nat) (u : V) (x : Value),vs[j]? = some u → xs[j]? = some x → Rd w I γ u x
 | [],vs,hv=>by cases hv; exact ⟨[],rfl,rfl,fun j u x h=>by simp at h⟩
 | r :: l,vs,hv=>by
  simp only [zeE] at hv
  split at hv
  ·rename_i v vs' h1 h2
   cases hv
   obtain ⟨x,x1,x2⟩:=znX (P:=P) hT h h1
   obtain ⟨xs,y1,y2,y3⟩:=zhJ hT h h2
   refine ⟨x :: xs,?_,by simp [y2],fun j u y hu hy=>?_⟩
   ·rw [List.mapM_cons,Sem.run_bind,x1,Result.andThen_ok,Sem.run_bind,y1]; rfl
   ·cases j with
    | zero=>simp at hu hy; subst hu; subst hy; exact x2
    | succ j=>exact y3 j u y (by simpa using hu) (by simpa using hy)
  ·cases hv
theorem zsC (fn : Func) (tmps : Array Value) : results fn tmps = (fn.results.mapM (zrc tmps) >>= fun vs=>pure (if h : vs.size = 1 then vs[0] else .tuple vs)):=by
 unfold results
 congr 1
theorem zlp (hT : zaJ P T) {w0 ex N st a w I γ} (h : Sim w0 ex N st a w I γ) {fn : Func} {v : V} (hv : retV T st fn.results.toList = some v) :
 ∃ x,(results fn a.tmps).run P w = .ok x w ∧ Rd w I γ v x:=by
 unfold retV at hv
 have key : ∀ vs,zeE T st fn.results.toList = some vs → ∃ xs : Array Value,xs.size = vs.length ∧ (results fn a.tmps).run P w = .ok (if h : xs.size = 1 then xs[0] else .tuple xs) w ∧ ∀ (j : Nat) (u : V) (x : Value),vs[j]? = some u → xs[j]? = some x → Rd w I γ u x:=by
  intro vs hvs
  obtain ⟨xs,x1,x2,x3⟩:=zhJ (P:=P) hT h hvs
  refine ⟨xs.toArray,by simpa using x2,?_,fun j u x hu hx=>x3 j u x hu (by simpa using hx)⟩
  rw [zsC,Sem.run_bind,Array.mapM_eq_mapM_toList,Sem.run_map,x1]
  rfl
 split at hv
 ·rename_i v' hvs
  cases hv
  obtain ⟨xs,y1,y2,y3⟩:=key _ hvs
  have h1 : xs.size = 1:=y1
  rw [dif_pos h1] at y2
  exact ⟨_,y2,y3 0 v xs[0] rfl (by simp)⟩
 ·rename_i vs hne hvs
  cases hv
  obtain ⟨xs,y1,y2,y3⟩:=key _ hvs
  have h1 : ¬ xs.size = 1:=by
   intro h1
   rw [y1] at h1
   obtain ⟨x,hx⟩:=List.length_eq_one_iff.1 h1
   exact hne x hx
  rw [dif_neg h1] at y2
  exact ⟨_,y2,.tup _ _ _ y1.symm y3⟩
 ·cases hv
theorem zzs (hT : zaJ P T) (hC : zai P C) (hm : P.follows .mixedOrders = true) {f : FuncId} {fn : Func} {c : Code} (hf : P.funcs[f]? = some fn) (hname : (fn.name == "runtime.NumGoroutine") = false) (hb : fn.body = some c) (hd : dstOk fn.ntmps c = true)
 {sp : List V → List AObj → Option CRes} (h : ∀ args objs r,sp args objs = some r → args.length ≤ fn.ntmps ∧ axwp T C objs.length c (Ret T fn.results.toList r objs.length) (zeT args objs)) : Spec P f sp:=by
 refine ⟨⟨fn,hf,hname,by rw [hb]; rfl⟩,fun args objs r hr w I γ wr vs hE=>?_⟩
 obtain ⟨hlen,hax⟩:=h args objs r hr
 refine calls_of_wp hf hb ?_
 have hsim : Sim w ⟨wr,I,γ⟩ fn.ntmps (zeT args objs) { tmps:=vs ++ Array.replicate (fn.ntmps - vs.size) undef,defers:=[] } w I γ:=by
  refine ⟨by have:=hE.len; simp; omega,fun n=>?_,hE.inv,rfl,hE.glob⟩
  simp only [zeT]
  by_cases hn : n < args.length
  ·have hn' : n < vs.size:=by rw [← hE.len]; exact hn
   have e1 : args.getD n .junk = args[n]:=by simp [hn]
   have e2 : (vs ++ Array.replicate (fn.ntmps - vs.size) undef).getD n undef = vs[n]:=by
    rw [Array.getD_eq_getD_getElem?,Array.getElem?_append_left hn',Array.getElem?_eq_getElem hn']; rfl
   rw [e1,e2]
   exact hE.rd n _ _ (List.getElem?_eq_getElem hn) (Array.getElem?_eq_getElem hn')
  ·have e1 : args.getD n .junk = .junk:=by simp [hn]
   rw [e1]; exact .junk _ _
 have hdom : ∀ n,objs.length ≤ n → γ n = none:=by
  intro n hn
  cases hg : γ n with
  | none=>rfl
  | some gi=>exact absurd (List.getElem?_eq_none hn) (hE.inv.dom n gi hg)
 refine zkT hT hC hm hdom c hd hsim hax fun e st' a' w' I' γ' hq hs=>?_
 obtain ⟨st1,hw,he,hk,ns,n1,n2,n3,n4,n5,n6⟩:=hq
 obtain ⟨I1,γ1,hs⟩:=hw _ _ _ _ _ _ _ hdom hs
 obtain ⟨x,x1,x2⟩:=zlp (P:=P) hT hs n3
 have hinv:=hs.inv.unren (f:=ns) (g':=fun n=>r.objs[n]?) (fun n o hn=>n4 n o hn) (fun n m o o' h1 h2 he=>n2 n m (List.getElem?_eq_some_iff.1 h1).1 (List.getElem?_eq_some_iff.1 h2).1 he)
  (fun n o hn=>by
   have:=n6 o (List.mem_of_getElem? hn)
   have e : (fun n=>(r.objs[n]?).isSome) = fun j=>decide (j < r.objs.length):=by
    funext j
    by_cases hj : j < r.objs.length <;> simp [hj]
   rw [e]; exact this)
  (fun n gi hn=>by
   have hlt : n < objs.length:=Nat.lt_of_not_le fun hle=>by
    replace hn : γ n = some gi:=hn
    rw [hdom n hle] at hn; cases hn
   have : n < r.objs.length:=Nat.lt_of_lt_of_le hlt hk
   exact ⟨n1 n hlt,by simp [this]⟩)
 have hfin : a'.defers = [] ∧ ∃ v,(results fn a'.tmps).run P w' = .ok v w' ∧ ∃ v' I'' γ'',Ending.returned v = .returned v' ∧ Leave w I γ wr r w' I'' γ'' v':=by
  refine ⟨hs.defers,x,x1,x,I1,_,rfl,hinv,?_,?_⟩
  ·refine x2.unren (D:=fun j=>decide (j < r.objs.length)) _ rfl n5 fun n hn=>?_
   simp only [decide_eq_true_eq] at hn
   simp [hn]
  ·exact ⟨fun b hb=>⟨hs.inv.keep b hb,hs.inv.frame b (hE.inv.lt b hb) fun h=>hE.wrI b h hb⟩,hinv.fix⟩
 cases e with
 | normal=>exact hfin
 | ret=>exact hfin
 | _=>exact he.elim
variable {P : Program} {T : TypeId → Option TI} {C : FuncId → List V → List AObj → Option CRes} {k : Nat}
abbrev VOf (_A _B : Prop):=V
def condV (A B : Prop) (v : VOf A B) : Prop:=match v with
 | .bool true=>A
 | .bool false=>B
 | .anyB=>A ∧ B
 | _=>False
@[simp] theorem condV_any (A B : Prop) : condV A B .anyB = (A ∧ B):=rfl
@[simp] theorem condV_true (A B : Prop) : condV A B (.bool true) = A:=rfl
@[simp] theorem condV_false (A B : Prop) : condV A B (.bool false) = B:=rfl
theorem zbU {p : Prop} [Decidable p] {A B : Prop} (h1 : p → A) (h2 : ¬ p → B) : condV A B (.bool (decide p)):=by by_cases h : p <;> simp [condV,h,h1,h2]
theorem ztT {Q : Exit → St → Prop} {st : St} : axwp T C k .skip Q st = Q .normal st:=rfl
theorem zwE {a b : Code} {Q : Exit → St → Prop} {st : St} : axwp T C k (.seq a b) Q st = axwp T C k a (fun e st'=>match e with | .normal=>axwp T C k b Q st' | e=>Q e st') st:=rfl
theorem ztR {c : Operand} {x y : Code} {Q : Exit → St → Prop} {st : St} : axwp T C k (.cond c x y) Q st = condV (axwp T C k x Q st) (axwp T C k y Q st) (st.ev c):=by
 simp only [axwp,condV]
 cases st.ev c <;> first | rfl | (rename_i b; cases b <;> rfl)
theorem zry {id : Nat} {c : Code} {Q : Exit → St → Prop} {st : St} : axwp T C k (.block id c) Q st = axwp T C k c (fun e st'=>match e with | .exit i=>if i = id then Q .normal st' else Q (.exit i) st' | e=>Q e st') st:=rfl
theorem ztS {id : Nat} {Q : Exit → St → Prop} {st : St} : axwp T C k (.exit id) Q st = Q (.exit id) st:=rfl
theorem zwD {Q : Exit → St → Prop} {st : St} : axwp T C k .ret Q st = Q .ret st:=rfl
theorem zrz {l : Nat} {Q : Exit → St → Prop} {st : St} : axwp T C k (.label l) Q st = Q .normal st:=rfl
def ztH (ops : Array Oper) (draw : Bool) (Q : Exit → St → Prop) : Option (St × List (Nat × List Nat × List Nat)) → Prop
 | none=>False
 | some (st',fp)=>(draw = true → zfN ops (tabOf ops) = true ∧ fpOk (tabOf ops) fp = true) ∧ Q .normal { st' with c:=st'.c + 8 * ops.size }
theorem zoG {id : Nat} {ops : Array Oper} {draw : Bool} {Q : Exit → St → Prop} {st : St} : axwp T C k (.region id ops draw) Q st ↔ ztH ops draw Q (runO T C ops ops.toList 0 st):=by
 simp only [axwp,ztH]
 constructor
 ·rintro ⟨st',fp,h1,h2,h3⟩; rw [h1]; exact ⟨h2,h3⟩
 ·intro h
  split at h
  ·exact h.elim
  ·rename_i st' fp h1; exact ⟨st',fp,h1,h.1,h.2⟩
def goR (T : TypeId → Option TI) (C : FuncId → List V → List AObj → Option CRes) (ops : Array Oper) (draw : Bool) (Q : Exit → St → Prop) : List Oper → Nat → St → List (Nat × List Nat × List Nat) → Prop
 | [],_,st,fp=>(draw = true → zfN ops (tabOf ops) = true ∧ fpOk (tabOf ops) fp.reverse = true) ∧ Q .normal { st with c:=st.c + 8 * ops.size }
 | o :: r,i,st,fp=>match stepO T C ops o (st.c + 8 * i) st with
  | some (st',rd,wr)=>goR T C ops draw Q r (i + 1) st' ((i,rd,wr) :: fp)
  | none=>False
theorem zus {ops : Array Oper} {draw : Bool} {Q : Exit → St → Prop} : ∀ (l : List Oper) (i : Nat) (st : St) (fp0 : List (Nat × List Nat × List Nat)),
 goR T C ops draw Q l i st fp0 ↔ (match runO T C ops l i st with | none=>False | some (st',fp)=>(draw = true → zfN ops (tabOf ops) = true ∧ fpOk (tabOf ops) (fp0.reverse ++ fp) = true) ∧ Q .normal { st' with c:=st'.c + 8 * ops.size })
 | [],i,st,fp0=>by simp [goR,runO]
 | o :: r,i,st,fp0=>by
  simp only [goR,runO]
  cases stepO T C ops o (st.c + 8 * i) st with
  | none=>rfl
  | some p =>
   obtain ⟨st',rd,wr⟩:=p
   simp only
   rw [zus r (i + 1) st']
   cases runO T C ops r (i + 1) st' with
   | none=>rfl
   | some p=>obtain ⟨a,b⟩:=p; simp
theorem zy8 {id : Nat} {ops : Array Oper} {draw : Bool} {Q : Exit → St → Prop} {st : St} : axwp T C k (.region id ops draw) Q st ↔ goR T C ops draw Q ops.toList 0 st []:=by
 rw [zoG,zus]
 simp only [ztH]
 cases runO T C ops ops.toList 0 st with
 | none=>rfl
 | some p=>obtain ⟨a,b⟩:=p; simp
theorem zwC {id : Nat} {l : List Oper} {draw : Bool} {Q : Exit → St → Prop} {st : St} : axwp T C k (.region id (Array.mk l) draw) Q st ↔ goR T C (Array.mk l) draw Q l 0 st []:=zy8
abbrev EffOf (_st : St) (_d : Option Tmp) (_K : St → List Nat → List Nat → Prop):=Option Eff
def thenE (st : St) (d : Option Tmp) (K : St → List Nat → List Nat → Prop) (o : EffOf st d K) : Prop:=match o with
 | none=>False
 | some e=>K { st with s:=putS st.s d e.v,g:=zas st.g e.wr } e.rd (e.wr.map (·.1))
abbrev GdOf (_A _B : Prop):=Option Bool
def thenG (A B : Prop) (o : GdOf A B) : Prop:=match o with
 | none=>False
 | some true=>A
 | some false=>B
@[simp] theorem thenE_some (st : St) (d : Option Tmp) (K : St → List Nat → List Nat → Prop) (e : Eff) : thenE st d K (some e) = K { st with s:=putS st.s d e.v,g:=zas st.g e.wr } e.rd (e.wr.map (·.1)):=rfl
@[simp] theorem thenG_true (A B : Prop) : thenG A B (some true) = A:=rfl
@[simp] theorem thenG_false (A B : Prop) : thenG A B (some false) = B:=rfl
theorem zs1 (A B : Prop) (b : Bool) : thenG A B (some b) ↔ ((b = true → A) ∧ (b = false → B)):=by cases b <;> simp [thenG]
theorem zqe {b : Bool} {A B : Prop} (h1 : b = true → A) (h2 : b = false → B) : thenG A B (some b):=(zs1 A B b).2 ⟨h1,h2⟩
abbrev zAo (_c : Code) (_Q : Exit → St → Prop) (_st : St):=Unit
def wpL (T : TypeId → Option TI) (C : FuncId → List V → List AObj → Option CRes) (k : Nat) (c : Code) (Q : Exit → St → Prop) (st : St) (_u : zAo c Q st) : Prop:=axwp T C k (.loop c) Q st
theorem zwF {c : Code} {Q : Exit → St → Prop} {st : St} : axwp T C k (.loop c) Q st = wpL T C k c Q st ():=rfl
theorem zzg {ops : Array Oper} {draw : Bool} {Q : Exit → St → Prop} {i : Nat} {st : St} {fp} : goR T C ops draw Q [] i st fp = ((draw = true → zfN ops (tabOf ops) = true ∧ fpOk (tabOf ops) fp.reverse = true) ∧ Q .normal { st with c:=st.c + 8 * ops.size }):=rfl
theorem zqN {ops : Array Oper} {draw : Bool} {Q : Exit → St → Prop} {o : Oper} {r : List Oper} {i : Nat} {st : St} {fp} :
 goR T C ops draw Q (o :: r) i st fp ↔ thenG (thenE st o.dst (fun st' rd wr=>goR T C ops draw Q r (i + 1) st' ((i,rd,wr) :: fp)) (aop T C st.ev st.g (st.c + 8 * i) o.op)) (goR T C ops draw Q r (i + 1) { st with s:=putS st.s o.dst (.tup []) } ((i,[],[]) :: fp)) (zcq ops o st.s):=by
 simp only [goR,stepO]
 cases zcq ops o st.s with
 | none=>rfl
 | some b =>
  cases b with
  | false=>rfl
  | true =>
   simp only [thenG]
   cases aop T C st.ev st.g (st.c + 8 * i) o.op with
   | none=>rfl
   | some e=>rfl
theorem zw7 {ops : Array Oper} {draw : Bool} {Q : Exit → St → Prop} {d : Option Tmp} {op : Op} {t : TypeId} {p : String} {af : Array Edge} {r : List Oper} {i : Nat} {st : St} {fp} :
 goR T C ops draw Q (⟨d,op,t,p,af,none⟩ :: r) i st fp ↔ thenE st d (fun st' rd wr=>goR T C ops draw Q r (i + 1) st' ((i,rd,wr) :: fp)) (aop T C st.ev st.g (st.c + 8 * i) op):=by
 rw [zqN]; rfl
theorem zur {ops : Array Oper} {draw : Bool} {Q : Exit → St → Prop} {d : Option Tmp} {op : Op} {t : TypeId} {p : String} {af : Array Edge} {gd : Nat × Bool} {r : List Oper} {i : Nat} {st : St} {fp} :
 goR T C ops draw Q (⟨d,op,t,p,af,some gd⟩ :: r) i st fp ↔ thenG (thenE st d (fun st' rd wr=>goR T C ops draw Q r (i + 1) st' ((i,rd,wr) :: fp)) (aop T C st.ev st.g (st.c + 8 * i) op)) (goR T C ops draw Q r (i + 1) { st with s:=putS st.s d (.tup []) } ((i,[],[]) :: fp)) (zcq ops ⟨d,op,t,p,af,some gd⟩ st.s):=zqN
attribute [simp ↓] ztT zwE ztR zry ztS zwD zrz zwC zwF zzg zw7 zur
theorem zhc (D : Nat → Bool) (v : V) (h : v.closed = true) : v.within D = true:=by
 have key : ∀ (n : Nat) (v : V),SizeOf.sizeOf v ≤ n → v.closed = true → v.within D = true:=by
  intro n
  induction n with
  | zero=>intro v hs; cases v <;> simp at hs
  | succ n ih =>
   intro v hs hc
   have all : ∀ cs : List V,SizeOf.sizeOf cs ≤ n → V.closed.closedAll cs = true → V.within.withinAll D cs = true:=by
    intro cs
    induction cs with
    | nil=>intros; rfl
    | cons c cs ihc =>
     intro hs hc
     simp only [V.closed.closedAll,Bool.and_eq_true] at hc
     simp at hs
     simp only [V.within.withinAll,Bool.and_eq_true]
     exact ⟨ih c (by omega) hc.1,ihc (by omega) hc.2⟩
   cases v <;> simp [V.closed] at hc <;> try rfl
   ·simp at hs; simp only [V.within]; exact all _ (by omega) hc
   ·simp at hs; simp only [V.within]; exact all _ (by omega) hc
 exact key _ v (Nat.le_refl _) h
def isEnd : Exit → Bool
 | .normal | .ret=>true
 | _=>false
theorem zaa {res : List ResultVar} {e : Exit} {st : St} {v : V} (he : isEnd e = true) (h : retV T st res = some v) (hv : v.closed = true) : Ret T res ⟨v,[]⟩ 0 e st:=by
 refine Ret0.ret ⟨by cases e <;> simp [isEnd] at he <;> trivial,Nat.le_refl _,id,fun j h=>absurd h (by omega),fun i j hi=>by simp at hi,by rw [h,zfz _ _ hv],fun j o ho=>by simp at ho,zhc _ _ hv,fun o ho=>by simp at ho⟩
theorem zka {res : List ResultVar} {e : Exit} {st : St} {nm n : Nat} {o : AObj} (he : isEnd e = true) (h : retV T st res = some (.own nm 0 n)) (hg : st.g nm = some o) (hfl : o.fl ≠ 0) : Ret T res ⟨.own 0 0 n,[o]⟩ 0 e st:=by
 refine Ret0.ret ⟨by cases e <;> simp [isEnd] at he <;> trivial,by simp,fun _=>nm,fun j h=>absurd h (by omega),fun i j hi hj _=>by simp at hi hj; omega,by rw [h]; rfl,fun j o' ho=>?_,rfl,fun o' ho=>?_⟩
 ·cases j with
  | zero=>simp at ho; subst ho; rw [hg,AObj.ren_eq hfl]
  | succ j=>simp at ho
 ·simp at ho; subst ho; simp [AObj.within,hfl]
def Again (k : Nat) {ι : Type} (S : ι → St) (ok : ι → Prop) (μ : ι → Nat) (i : ι) (st : St) : Prop:=∃ j,ok j ∧ μ j < μ i ∧ Weak k st (S j)
theorem Again.mk {k : Nat} {ι : Type} {S : ι → St} {ok : ι → Prop} {μ : ι → Nat} {i : ι} {st : St} (j : ι) (h1 : ok j) (h2 : μ j < μ i) (h3 : Weak k st (S j)) : Again k S ok μ i st:=⟨j,h1,h2,h3⟩
theorem zal {c : Code} {Q : Exit → St → Prop} {st : St} {ι : Type} (S : ι → St) (ok : ι → Prop) (μ : ι → Nat) (i0 : ι) (h0 : Weak k st (S i0)) (hok : ok i0)
 (round : ∀ i,ok i → axwp T C k c (fun e st'=>match e with | .normal=>Again k S ok μ i st' | e=>Q e st') (S i)) : wpL T C k c Q st ():=by
 show axwp T C k (.loop c) Q st
 refine ⟨fun n st=>∃ i,ok i ∧ μ i = n ∧ st = S i,⟨μ i0,S i0,h0,i0,hok,rfl,rfl⟩,?_⟩
 rintro n st1 ⟨i,hi,rfl,rfl⟩
 have mono : ∀ (c : Code) {Q Q' : Exit → St → Prop} {st : St},(∀ e st,Q e st → Q' e st) → axwp T C k c Q st → axwp T C k c Q' st:=by
  intro c
  induction c with
  | region id ops draw=>rintro Q Q' st hq ⟨st',fp,h1,h2,h3⟩; exact ⟨st',fp,h1,h2,hq _ _ h3⟩
  | seq a b iha ihb=>intro Q Q' st hq h; exact iha (fun e st' h'=>by cases e <;> first | exact ihb hq h' | exact hq _ _ h') h
  | cond c a b iha ihb =>
   intro Q Q' st hq h
   simp only [axwp] at h ⊢
   split at h
   ·exact iha hq h
   ·exact ihb hq h
   ·exact ⟨iha hq h.1,ihb hq h.2⟩
   ·exact h.elim
  | block id c ih =>
   intro Q Q' st hq h
   refine ih (fun e st' h'=>?_) h
   cases e with
   | exit i =>
    simp only at h' ⊢
    split
    ·rename_i e; rw [if_pos e] at h'; exact hq _ _ h'
    ·rename_i e; rw [if_neg e] at h'; exact hq _ _ h'
   | _=>exact hq _ _ h'
  | loop c ih =>
   rintro Q Q' st hq ⟨J,h1,h2⟩
   exact ⟨J,h1,fun n st1 hj=>ih (fun e st' h'=>by cases e <;> first | exact h' | exact hq _ _ h') (h2 n st1 hj)⟩
  | skip=>intro Q Q' st hq h; exact hq _ _ h
  | label=>intro Q Q' st hq h; exact hq _ _ h
  | exit=>intro Q Q' st hq h; exact hq _ _ h
  | ret=>intro Q Q' st hq h; exact hq _ _ h
  | _=>intro Q Q' st _ h; exact h.elim
 refine mono c (fun e st' h'=>?_) (round i hi)
 cases e with
 | normal =>
  obtain ⟨j,j1,j2,j3⟩:=h'
  exact ⟨μ j,S j,j2,j3,j,j1,rfl,rfl⟩
 | _=>exact h'
section
variable (T : TypeId → Option TI) (C : FuncId → List V → List AObj → Option CRes) (ρ : Operand → V) (g : Nat → Option AObj) (nm : Nat)
theorem zwx (x : Operand) : aop T C ρ g nm (.move x) = some ⟨ρ x,[],[]⟩:=rfl
theorem zrv (x : Operand) : aop T C ρ g nm (.assign x) = some ⟨ρ x,[],[]⟩:=rfl
def pickV (c a b : V) : Option Eff:=match c with
 | .bool true=>some ⟨a,[],[]⟩
 | .bool false=>some ⟨b,[],[]⟩
 | _=>none
theorem zwy (c x y : Operand) : aop T C ρ g nm (.pick c x y) = pickV (ρ c) (ρ x) (ρ y):=by
 simp only [aop,pickV]; cases ρ c <;> first | rfl | (rename_i b; cases b <;> rfl)
theorem zsw (a b : V) : pickV (.bool true) a b = some ⟨a,[],[]⟩:=rfl
theorem zpE (a b : V) : pickV (.bool false) a b = some ⟨b,[],[]⟩:=rfl
theorem zsv (c x y : Bool) : pickV (.bool c) (.bool x) (.bool y) = some ⟨.bool (if c = true then x else y),[],[]⟩:=by cases c <;> rfl
theorem zy6 (e : TypeId) (x : Operand) : aop T C ρ g nm (.box e x) = if zaV (ρ x).cells then fresh nm ⟨e,(ρ x).cells.length,[(ρ x).cells],true,flOf (ρ x).cells,.rw⟩ (.ptr nm 0 0) [] g else none:=rfl
theorem ztK (t : TypeId) (ps : Array (Nat × Operand)) : aop T C ρ g nm (.build t ps) = zbD (zmQ T t (ps.toList.map fun p=>(p.1,ρ p.2))):=rfl
theorem zkw (t : TypeId) (l : Nat) (ps : Array (Nat × Operand)) : aop T C ρ g nm (.buildSlice t l ps) = zcW T g nm t l (ps.toList.map fun p=>(p.1,ρ p.2)):=rfl
theorem zww (t : TypeId) (x : Operand) : aop T C ρ g nm (.load t x) = zhG T g nm t (ρ x):=rfl
theorem ztP (t : TypeId) (x y : Operand) : aop T C ρ g nm (.store t x y) = zkP T g t (ρ x) (ρ y):=rfl
theorem ztJ (op : BinOp) (t : TypeId) (x y : Operand) (u : TypeId) : aop T C ρ g nm (.binOp op t x y u) = zbD (aBin T op t (ρ x) (ρ y)):=rfl
theorem zwz (op : UnOp) (t : TypeId) (x : Operand) : aop T C ρ g nm (.unOp op t x) = zbD (aUn op (ρ x)):=rfl
theorem zoD (s d : TypeId) (x : Operand) : aop T C ρ g nm (.convert s d x) = aConv T g nm s d (ρ x):=rfl
theorem zlM (t : TypeId) (l c : Operand) : aop T C ρ g nm (.makeSlice t l c) = aMake T g nm t (ρ l) (ρ c):=rfl
theorem ztO (t : TypeId) (x : Operand) (lo hi mx : Option Operand) : aop T C ρ g nm (.slice t x lo hi mx) = (zhH T g t (ρ x) (lo.map ρ) (hi.map ρ) (mx.map ρ)).map fun v=>⟨v,[],ownRd (ρ x)⟩:=rfl
theorem zlK (t : TypeId) (x : Operand) (f : Nat) : aop T C ρ g nm (.fieldAddr t x f) = zbD (zdV T t (ρ x) f):=rfl
theorem ztL (t : TypeId) (x : Operand) (f : Nat) : aop T C ρ g nm (.field t x f) = zbD (zmU T t (ρ x) f):=rfl
theorem zlL (t : TypeId) (x i : Operand) : aop T C ρ g nm (.indexAddr t x i) = (zcA T g t (ρ x) (ρ i)).map fun v=>⟨v,[],ownRd (ρ x)⟩:=rfl
theorem ztM (t : TypeId) (x i : Operand) : aop T C ρ g nm (.index t x i) = zbD (zmW T t (ρ x) (ρ i)):=rfl
def zl4 (x : V) (i : Nat) : Option Eff:=match x with
 | .tup vs=>zbD (vs[i]?)
 | _=>none
theorem zoE (x : Operand) (i : Nat) : aop T C ρ g nm (.extract x i) = zl4 (ρ x) i:=by
 simp only [aop,zl4]; cases ρ x <;> rfl
theorem znx (vs : List V) (i : Nat) : zl4 (.tup vs) i = zbD (vs[i]?):=rfl
theorem zoC (b : Builtin) (xs : Array Operand) (ts : Array TypeId) : aop T C ρ g nm (.call ⟨.builtin b,xs,ts⟩) = ze8 T g nm b ts.toList (xs.toList.map ρ):=rfl
noncomputable def callV (f : V) (xs : List V) : Option Eff:=match f with
 | .fn f=>aCall C g nm f xs
 | .clo f caps=>aCall C g nm f (xs ++ caps)
 | .mth f n=>aCall C g nm f (.ptr n 0 0 :: xs)
 | _=>none
theorem zwv (f : Operand) (xs : Array Operand) (ts : Array TypeId) : aop T C ρ g nm (.call ⟨.value f,xs,ts⟩) = callV C g nm (ρ f) (xs.toList.map ρ):=by
 simp only [aop,callV]; cases ρ f <;> rfl
theorem zwI (f : FuncId) (xs : List V) : callV C g nm (.fn f) xs = aCall C g nm f xs:=rfl
theorem ztZ (f : FuncId) (caps xs : List V) : callV C g nm (.clo f caps) xs = aCall C g nm f (xs ++ caps):=rfl
theorem zna (f : FuncId) (first caps : Array Operand) : aop T C ρ g nm (.makeFunc (.func f) first caps) = if first.toList.isEmpty ∧ V.closed.closedAll (caps.toList.map ρ) = true then some ⟨.clo f (caps.toList.map ρ),[],[]⟩ else aMeth f (first.toList.map ρ) caps.toList.isEmpty:=rfl
theorem zt0 (f : FuncId) (n : Nat) (xs : List V) : callV C g nm (.mth f n) xs = aCall C g nm f (.ptr n 0 0 :: xs):=rfl
theorem ztF (f : FuncId) (n : Nat) : aMeth f [.ptr n 0 0] true = some ⟨.mth f n,[],[]⟩:=rfl
def nilV (x : V) : Option Eff:=match x with
 | .ptr n i j=>some ⟨.ptr n i j,[],[]⟩
 | .pp cs=>some ⟨.pp cs,[],[]⟩
 | _=>none
theorem znb (x : Operand) : aop T C ρ g nm (.nilCheck x) = nilV (ρ x):=by simp only [aop,nilV]; cases ρ x <;> rfl
theorem ztI (e : TypeId) : aop T C ρ g nm (.alloc e) = (match T e with | some ei=>if zaV ei.zero then fresh nm ⟨e,ei.size,[ei.zero],true,flOf ei.zero,.rw⟩ (.ptr nm 0 0) [] g else none | none=>none):=rfl
end
def iAnd (k : IntKind) (a b : Int) : Int:=k.wrap (BitVec.ofInt k.bits a &&& BitVec.ofInt k.bits b).toNat
def iOr (k : IntKind) (a b : Int) : Int:=k.wrap (BitVec.ofInt k.bits a ||| BitVec.ofInt k.bits b).toNat
def iXor (k : IntKind) (a b : Int) : Int:=k.wrap (BitVec.ofInt k.bits a ^^^ BitVec.ofInt k.bits b).toNat
section
variable (T : TypeId → Option TI) (g : Nat → Option AObj) (nm : Nat) (t : TypeId) (k : IntKind) (a b : Int)
theorem zv8 : aBin T .add t (.int k a) (.int k b) = some (.int k (k.wrap (a + b))):=by simp [aBin,zbW,aInt]
theorem zwp : aBin T .sub t (.int k a) (.int k b) = some (.int k (k.wrap (a - b))):=by simp [aBin,zbW,aInt]
theorem zwg : aBin T .mul t (.int k a) (.int k b) = some (.int k (k.wrap (a * b))):=by simp [aBin,zbW,aInt]
theorem zwk : aBin T .quo t (.int k a) (.int k b) = if b = 0 then none else some (.int k (k.wrap (a.tdiv b))):=by simp [aBin,zbW,aInt]
theorem zwl : aBin T .rem t (.int k a) (.int k b) = if b = 0 then none else some (.int k (a.tmod b)):=by simp [aBin,zbW,aInt]
theorem zv9 : aBin T .and t (.int k a) (.int k b) = some (.int k (iAnd k a b)):=by simp only [aBin,zbW,aInt]; simp [iAnd]
theorem zy0 : aBin T .or t (.int k a) (.int k b) = some (.int k (iOr k a b)):=by simp only [aBin,zbW,aInt]; simp [iOr]
theorem zwq : aBin T .xor t (.int k a) (.int k b) = some (.int k (iXor k a b)):=by simp only [aBin,zbW,aInt]; simp [iXor]
theorem ztV : (a == b) = decide (a = b):=by by_cases h : a = b <;> simp [h]
theorem zwb : aBin T .eql t (.int k a) (.int k b) = some (.bool (decide (a = b))):=by simp [aBin,zbW,aInt,ztV]
theorem zwh : aBin T .neq t (.int k a) (.int k b) = some (.bool (decide (¬ a = b))):=by simp [aBin,zbW,aInt,bne,ztV]
theorem zwf : aBin T .lss t (.int k a) (.int k b) = some (.bool (decide (a < b))):=by simp [aBin,zbW,aInt]
theorem zwe : aBin T .leq t (.int k a) (.int k b) = some (.bool (decide (a ≤ b))):=by simp [aBin,zbW,aInt]
theorem zwd : aBin T .gtr t (.int k a) (.int k b) = some (.bool (decide (a > b))):=by simp [aBin,zbW,aInt]
theorem zwc : aBin T .geq t (.int k a) (.int k b) = some (.bool (decide (a ≥ b))):=by simp [aBin,zbW,aInt]
theorem zwm (k' : IntKind) : aBin T .shl t (.int k a) (.int k' b) = if b < 0 then none else some (.int k (k.wrap (a * 2 ^ min b.toNat k.bits))):=by simp [aBin,zbW,zmZ]
theorem zwn (k' : IntKind) : aBin T .shr t (.int k a) (.int k' b) = if b < 0 then none else some (.int k (a.fdiv (2 ^ min b.toNat k.bits))):=by simp [aBin,zbW,zmZ]
theorem zwo (op : BinOp) (x y : ByteArray) : aBin T op t (.str x) (.str y) = aStr op x y:=rfl
def eqbV (d : Option TypeDesc) (op : BinOp) (a b : Bool) : Option V:=match d,op with
 | some .bool,.eql=>some (.bool (a == b))
 | some .bool,.neq=>some (.bool (!(a == b)))
 | _,_=>none
theorem zwa {T : TypeId → Option TI} {t : TypeId} (op : BinOp) (a b : Bool) : aBin T op t (.bool a) (.bool b) = eqbV (zao T t) op a b:=by
 simp only [aBin,eqbV]
 generalize zao T t = d
 cases d with
 | none=>rfl
 | some d=>cases d <;> cases op <;> rfl
theorem zwZ (a b : Bool) : eqbV (some .bool) .eql a b = some (.bool (a == b)):=rfl
theorem zw0 (a b : Bool) : eqbV (some .bool) .neq a b = some (.bool (!(a == b))):=rfl
theorem zy3 (x : Bool) : aUn .not (.bool x) = some (.bool !x):=rfl
theorem zy2 : aUn .neg (.int k a) = some (.int k (k.wrap (0 - a))):=rfl
theorem zy4 : aUn .xor (.int k a) = some (.int k (k.wrap (-a - 1))):=rfl
theorem zsz (v : V) : zbD (some v) = some ⟨v,[],[]⟩:=rfl
theorem zn1 : zbD none = none:=rfl
end
theorem zAt (s : Nat → V) (g : Nat → Option AObj) (c : Nat) (t : Tmp) : St.ev ⟨s,g,c⟩ (.tmp t) = s t:=rfl
theorem zw1 (st : St) (v : Value) : st.ev (.const v) = ofConst v:=rfl
theorem zzd (st : St) (f : FuncId) : st.ev (.func f) = .fn f:=rfl
theorem zpA (k : IntKind) (n : Int) : ofConst (.int k n) = .int k n:=rfl
theorem znV (b : Bool) : ofConst (.bool b) = .bool b:=rfl
theorem zkJ (b : ByteArray) : ofConst (.string b) = .str b:=rfl
theorem zpB : ofConst (.slice none 0 0) = .sl 0 1 []:=rfl
theorem zpz (cs : Array Value) : ofConst (.agg cs) = .agg (cs.toList.map ofCell):=rfl
theorem znD (ops : Array Oper) (d : Option Tmp) (op : Op) (t : TypeId) (p : String) (af : Array Edge) (s : Nat → V) : zcq ops ⟨d,op,t,p,af,none⟩ s = some true:=rfl
def zqP (want : Bool) : V → Option Bool
 | .bool b=>some (b == want)
 | .tup []=>some false
 | _=>none
theorem zpj (w : Bool) : zqP w (.tup []) = some false:=rfl
theorem zpi (w b : Bool) : zqP w (.bool b) = some (b == w):=rfl
theorem znE (ops : Array Oper) (d : Option Tmp) (op : Op) (t : TypeId) (p : String) (af : Array Edge) (j : Nat) (w : Bool) (s : Nat → V) : zcq ops ⟨d,op,t,p,af,some (j,w)⟩ s = (match (ops[j]?).bind (·.dst) with | some d=>zqP w (s d) | none=>none):=by
 simp only [zcq,zqP]
 rfl
theorem zu7 (s : Nat → V) (d : Tmp) (v : V) : putS s (some d) v = upd s d v:=rfl
theorem zu6 (s : Nat → V) (v : V) : putS s none v = s:=rfl
theorem zAG {α : Type} (f : Nat → α) (k n : Nat) (v : α) : upd f k v n = if n = k then v else f n:=rfl
attribute [simp] zt0 ztF
attribute [simp] zwx zrv zwy zsw zpE zsv zy6 ztK zkw zww ztP ztJ zwz zoD zlM ztO zlK ztL zlL ztM zoE znx zoC zwv zwI ztZ zna znb nilV ztI zv8 zwp zwg zwk zwl zv9 zy0 zwq zwb zwh zwf zwe zwd zwc zwm zwn zwo zwa zwZ zw0 zy3 zy2 zy4 zsz zn1 zAt zw1 zzd zpA znV zkJ zpB zpz znD znE zpi zpj zu7 zu6 zAG aStr
theorem zs9 (cs : List V) : V.cells (.agg cs) = cs:=rfl
theorem ztb (k : IntKind) (n : Int) : V.cells (.int k n) = [.int k n]:=rfl
theorem zqm (b : Bool) : V.cells (.bool b) = [.bool b]:=rfl
theorem ztf (b : ByteArray) : V.cells (.str b) = [.str b]:=rfl
theorem zvP (a b : Nat) (r : List (List V)) : V.cells (.sl a b r) = [.sl a b r]:=rfl
theorem ztd (a b c : Nat) : V.cells (.own a b c) = [.own a b c]:=rfl
theorem zte (a b c : Nat) : V.cells (.ptr a b c) = [.ptr a b c]:=rfl
theorem zvO (r : List V) : V.cells (.pp r) = [.pp r]:=rfl
theorem zqn : V.cells .pnil = [.pnil]:=rfl
theorem ztg (r : List V) : V.cells (.tup r) = [.tup r]:=rfl
theorem zvN (f : FuncId) : V.cells (.fn f) = [.fn f]:=rfl
theorem zta (f : FuncId) (r : List V) : V.cells (.clo f r) = [.clo f r]:=rfl
theorem ztc (f : FuncId) (n : Nat) : V.cells (.mth f n) = [.mth f n]:=rfl
theorem zql : V.cells .anyB = [.anyB]:=rfl
theorem zxL (g : Nat → Option AObj) (refs : List Nat) (cs : List V) : argV g refs (.agg cs) = (zbr g refs cs).map fun (vs,bs)=>(V.agg vs,bs):=rfl
theorem zxN (g : Nat → Option AObj) (refs : List Nat) (k : IntKind) (n : Int) : argV g refs (.int k n) = zbI g refs (.int k n):=rfl
theorem zvL (g : Nat → Option AObj) (refs : List Nat) (b : Bool) : argV g refs (.bool b) = zbI g refs (.bool b):=rfl
theorem zxR (g : Nat → Option AObj) (refs : List Nat) (b : ByteArray) : argV g refs (.str b) = zbI g refs (.str b):=rfl
theorem zzx (g : Nat → Option AObj) (refs : List Nat) (a b : Nat) (r : List (List V)) : argV g refs (.sl a b r) = zbI g refs (.sl a b r):=rfl
theorem zxP (g : Nat → Option AObj) (refs : List Nat) (a b c : Nat) : argV g refs (.own a b c) = zbI g refs (.own a b c):=rfl
theorem zxQ (g : Nat → Option AObj) (refs : List Nat) (a b c : Nat) : argV g refs (.ptr a b c) = zbI g refs (.ptr a b c):=rfl
theorem zzw (g : Nat → Option AObj) (refs : List Nat) (r : List V) : argV g refs (.pp r) = zbI g refs (.pp r):=rfl
theorem zvM (g : Nat → Option AObj) (refs : List Nat)  : argV g refs (.pnil) = zbI g refs (.pnil):=rfl
theorem zzv (g : Nat → Option AObj) (refs : List Nat) (f : FuncId) : argV g refs (.fn f) = zbI g refs (.fn f):=rfl
theorem zxM (g : Nat → Option AObj) (refs : List Nat) (f : FuncId) (r : List V) : argV g refs (.clo f r) = zbI g refs (.clo f r):=rfl
theorem zxO (g : Nat → Option AObj) (refs : List Nat) (f : FuncId) (n : Nat) : argV g refs (.mth f n) = zbI g refs (.mth f n):=rfl
theorem zvK (g : Nat → Option AObj) (refs : List Nat)  : argV g refs (.anyB) = zbI g refs (.anyB):=rfl
theorem ztn (cs : List V) : zaU (.agg cs) = cs.flatMap zbR:=rfl
theorem ztp (k : IntKind) (n : Int) : zaU (.int k n) = zbR (.int k n):=rfl
theorem zqr (b : Bool) : zaU (.bool b) = zbR (.bool b):=rfl
theorem ztt (b : ByteArray) : zaU (.str b) = zbR (.str b):=rfl
theorem zv0 (a b : Nat) (r : List (List V)) : zaU (.sl a b r) = zbR (.sl a b r):=rfl
theorem ztr (a b c : Nat) : zaU (.own a b c) = zbR (.own a b c):=rfl
theorem zts (a b c : Nat) : zaU (.ptr a b c) = zbR (.ptr a b c):=rfl
theorem zvZ (r : List V) : zaU (.pp r) = zbR (.pp r):=rfl
theorem zqs  : zaU (.pnil) = zbR (.pnil):=rfl
theorem zvY (f : FuncId) : zaU (.fn f) = zbR (.fn f):=rfl
theorem zto (f : FuncId) (r : List V) : zaU (.clo f r) = zbR (.clo f r):=rfl
theorem ztq (f : FuncId) (n : Nat) : zaU (.mth f n) = zbR (.mth f n):=rfl
theorem zqq  : zaU (.anyB) = zbR (.anyB):=rfl
theorem zs2 (g : Nat → Option AObj) (cs : List V) : argNm g (.agg cs) = cs.flatMap (zaP g 3):=rfl
theorem zs4 (g : Nat → Option AObj) (k : IntKind) (n : Int) : argNm g (.int k n) = zaP g 3 (.int k n):=rfl
theorem zqj (g : Nat → Option AObj) (b : Bool) : argNm g (.bool b) = zaP g 3 (.bool b):=rfl
theorem zs8 (g : Nat → Option AObj) (b : ByteArray) : argNm g (.str b) = zaP g 3 (.str b):=rfl
theorem zvJ (g : Nat → Option AObj) (a b : Nat) (r : List (List V)) : argNm g (.sl a b r) = zaP g 3 (.sl a b r):=rfl
theorem zs6 (g : Nat → Option AObj) (a b c : Nat) : argNm g (.own a b c) = zaP g 3 (.own a b c):=rfl
theorem zs7 (g : Nat → Option AObj) (a b c : Nat) : argNm g (.ptr a b c) = zaP g 3 (.ptr a b c):=rfl
theorem zvI (g : Nat → Option AObj) (r : List V) : argNm g (.pp r) = zaP g 3 (.pp r):=rfl
theorem zqk (g : Nat → Option AObj)  : argNm g (.pnil) = zaP g 3 (.pnil):=rfl
theorem zvH (g : Nat → Option AObj) (f : FuncId) : argNm g (.fn f) = zaP g 3 (.fn f):=rfl
theorem zs3 (g : Nat → Option AObj) (f : FuncId) (r : List V) : argNm g (.clo f r) = zaP g 3 (.clo f r):=rfl
theorem zs5 (g : Nat → Option AObj) (f : FuncId) (n : Nat) : argNm g (.mth f n) = zaP g 3 (.mth f n):=rfl
theorem zqi (g : Nat → Option AObj)  : argNm g (.anyB) = zaP g 3 (.anyB):=rfl
theorem zvQ (cs : List V) : V.isJunk (.agg cs) = false:=rfl
theorem zvS (k : IntKind) (n : Int) : V.isJunk (.int k n) = false:=rfl
theorem ztj (b : Bool) : V.isJunk (.bool b) = false:=rfl
theorem zvX (b : ByteArray) : V.isJunk (.str b) = false:=rfl
theorem zxU (a b : Nat) (r : List (List V)) : V.isJunk (.sl a b r) = false:=rfl
theorem zvV (a b c : Nat) : V.isJunk (.own a b c) = false:=rfl
theorem zvW (a b c : Nat) : V.isJunk (.ptr a b c) = false:=rfl
theorem zxT (r : List V) : V.isJunk (.pp r) = false:=rfl
theorem ztm  : V.isJunk (.pnil) = false:=rfl
theorem zxS (f : FuncId) : V.isJunk (.fn f) = false:=rfl
theorem zvR (f : FuncId) (r : List V) : V.isJunk (.clo f r) = false:=rfl
theorem zvT (f : FuncId) (n : Nat) : V.isJunk (.mth f n) = false:=rfl
theorem zti  : V.isJunk (.anyB) = false:=rfl
theorem zvU : V.isJunk (.tup []) = true:=rfl
theorem ztl : V.isJunk .junk = true:=rfl
theorem ztk (c : V) (cs : List V) : V.isJunk (.tup (c :: cs)) = false:=rfl
attribute [simp] ztc zxO ztq zs5 zvT
attribute [simp] zxL zxN zvL zxR zzx zxP zxQ zzw zvM zzv zxM zvK ztn ztp zqr ztt zv0 ztr zts zvZ zqs zvY zto zqq zs2 zs4 zqj zs8 zvJ zs6 zs7 zvI zqk zvH zs3 zqi zvQ zvS ztj zvX zxU zvV zvW zxT ztm zxS zvR zti zvU ztl ztk
attribute [simp] zs9 ztb zqm ztf zvP ztd zte zvO zqn ztg zvN zta zql
theorem zpv (refs : List Nat) (et es : Nat) (rows : List (List V)) (t : Bool) (fl : Nat) (md : Md) : zbp refs ⟨et,es,rows,t,fl,md⟩ = if fl ≠ 0 then true else rows.all fun r=>r.all (zbX refs):=rfl
def zre (nm : Nat) : Option AObj → List Nat
 | some o=>if o.fl ≠ 0 then [] else [nm]
 | none=>[]
theorem zsX (g : Nat → Option AObj) (nm i j : Nat) : zcg g (.ptr nm i j) = [nm]:=rfl
theorem zsW (g : Nat → Option AObj) (f : FuncId) (nm : Nat) : zcg g (.mth f nm) = [nm]:=rfl
theorem zly (g : Nat → Option AObj) (nm i j : Nat) : zcg g (.own nm i j) = zre nm (g nm):=by simp only [zcg,zre]; cases g nm <;> rfl
theorem ze5 (g : Nat → Option AObj) (v : V) (h : v.closed = true) : zcg g v = []:=by cases v <;> first | rfl | cases h
def zhg : Option AObj → List Nat
 | some o=>if o.fl ≠ 0 then [] else o.elems.flatMap fun r=>r.flatMap zbR
 | none=>[]
theorem zlR (g : Nat → Option AObj) (n : Nat) : zgr g n = zhg (g n):=by unfold zgr zhg; cases g n <;> rfl
attribute [simp] zas ofCell aConv zhH lowOf zgL zcA zmW zdV zmU zjA zbo aLoad zhG zkN isOne handle AObj.toTree zkP zmQ zmw fillV splice zcW zd8 aMake fresh zaV V.plainC flOf V.closed V.closed.closedAll V.scalar.scalarAll ze8 aCopy zds zm3 zco szOf zcp kill aMin zk9 aCall zdU wrap1 zgo zck zbX zpv zeG zlR zhg zdz zsX zsW zly ze5 zre zbg zbR zeD zca za1 argVs zbI zbr zdB zdj zgU zby numbered freeze disjoint zau posOf V.ren V.ren.renAll AObj.ren ownRd retV zeE zq6 isEnd
def nilEq (d : Option TypeDesc) (op : BinOp) (t : Nat) (e : Bool) : Option V:=match d,op with
 | some (.slice _),.eql=>if t = 0 then some (.bool true) else if t = 1 ∨ t = 4 ∨ e = false then some (.bool false) else some .anyB
 | some (.slice _),.neq=>if t = 0 then some (.bool false) else if t = 1 ∨ t = 4 ∨ e = false then some (.bool true) else some .anyB
 | _,_=>none
theorem zwi {T : TypeId → Option TI} {xt : TypeId} (op : BinOp) (t a b : Nat) (rows : List (List V)) : aBin T op xt (.sl t a rows) (.sl 0 b []) = nilEq (zao T xt) op t rows.isEmpty:=by
 simp only [aBin,nilEq]
 generalize zao T xt = d
 cases d with
 | none=>rfl
 | some d=>cases d <;> cases op <;> rfl
def nnB (t : Nat) (b : Bool) : Bool:=decide (t = 1 ∨ t = 4 ∨ b = false)
theorem zuT (e : TypeId) (t : Nat) (b : Bool) : nilEq (some (.slice e)) .eql t b = if t = 0 then some (.bool true) else if nnB t b = true then some (.bool false) else some .anyB:=by simp only [nilEq,nnB,decide_eq_true_eq]
theorem zuU (e : TypeId) (t : Nat) (b : Bool) : nilEq (some (.slice e)) .neq t b = if t = 0 then some (.bool false) else if nnB t b = true then some (.bool true) else some .anyB:=by simp only [nilEq,nnB,decide_eq_true_eq]
theorem zuW (t : Nat) : nnB t false = true:=by simp [nnB]
def zq5 (d : Option TypeDesc) (op : BinOp) (n : Nat) : Option V:=match d,op with
 | some (.slice _),.eql=>if n ≠ 0 then some (.bool false) else some .anyB
 | some (.slice _),.neq=>if n ≠ 0 then some (.bool true) else some .anyB
 | _,_=>none
theorem ztD {T : TypeId → Option TI} {xt : TypeId} (op : BinOp) (nm off n b : Nat) : aBin T op xt (.own nm off n) (.sl 0 b []) = zq5 (zao T xt) op n:=by
 simp only [aBin,zq5]
 generalize zao T xt = d
 cases d with
 | none=>rfl
 | some d=>cases d <;> cases op <;> rfl
theorem zss (e : TypeId) (n : Nat) : zq5 (some (.slice e)) .eql n = if n ≠ 0 then some (.bool false) else some .anyB:=rfl
theorem zst (e : TypeId) (n : Nat) : zq5 (some (.slice e)) .neq n = if n ≠ 0 then some (.bool true) else some .anyB:=rfl
theorem zwr : aUn .not .anyB = some .anyB:=rfl
section
variable (g : Nat → Option AObj) (refs : List Nat)
def deepO (k : Nat) (nm off n : Nat) : Option AObj → Option (V × List Nat)
 | some o=>if o.md ≠ .dead ∧ off + n ≤ o.elems.length then match (if o.fl ≠ 0 then some ((o.elems.drop off).take n,[]) else zbH (deepV g refs k) ((o.elems.drop off).take n)) with
  | some (rows,bs)=>some (.sl 2 o.es rows,nm :: bs)
  | none=>none
  else none
 | none=>none
theorem zrL (nm off n : Nat) : deepV g refs 3 (.own nm off n) = if refs.contains nm then none else deepO g refs 2 nm off n (g nm):=by
 simp only [deepV,deepO]
 split
 ·rfl
 ·cases g nm <;> rfl
theorem zrK (nm off n : Nat) : deepV g refs 2 (.own nm off n) = if refs.contains nm then none else deepO g refs 1 nm off n (g nm):=by
 simp only [deepV,deepO]
 split
 ·rfl
 ·cases g nm <;> rfl
theorem zrJ (nm off n : Nat) : deepV g refs 1 (.own nm off n) = if refs.contains nm then none else deepO g refs 0 nm off n (g nm):=by
 simp only [deepV,deepO]
 split
 ·rfl
 ·cases g nm <;> rfl
theorem zrH (k nm off n : Nat) (o : AObj) : deepO g refs k nm off n (some o) = if o.md ≠ .dead ∧ off + n ≤ o.elems.length then match (if o.fl ≠ 0 then some ((o.elems.drop off).take n,[]) else zbH (deepV g refs k) ((o.elems.drop off).take n)) with
 | some (rows,bs)=>some (.sl 2 o.es rows,nm :: bs)
 | none=>none
 else none:=rfl
theorem zwW (k a b : Nat) (r : List (List V)) : deepV g refs k (.sl a b r) = some (.sl a b r,[]):=by cases k <;> rfl
theorem zud (k : Nat) (a : IntKind) (b : Int) : deepV g refs k (.int a b) = some (.int a b,[]):=by cases k <;> rfl
theorem zrI (k : Nat) (b : Bool) : deepV g refs k (.bool b) = some (.bool b,[]):=by cases k <;> rfl
theorem zuf (k : Nat) (b : ByteArray) : deepV g refs k (.str b) = some (.str b,[]):=by cases k <;> rfl
theorem zrM (k : Nat) : deepV g refs k .pnil = some (.pnil,[]):=by cases k <;> rfl
theorem zwU (k : Nat) (r : List V) : deepV g refs k (.pp r) = some (.pp r,[]):=by cases k <;> rfl
def zf2 (k : Nat) : Option AObj → List Nat
 | some o=>if o.fl ≠ 0 then [] else o.elems.flatMap fun r=>r.flatMap (zaP g k)
 | none=>[]
theorem zo0 (nm off n : Nat) : zaP g 3 (.own nm off n) = nm :: zf2 g 2 (g nm):=by simp only [zaP,zf2]; cases g nm <;> rfl
theorem zoZ (nm off n : Nat) : zaP g 2 (.own nm off n) = nm :: zf2 g 1 (g nm):=by simp only [zaP,zf2]; cases g nm <;> rfl
theorem zoY (nm off n : Nat) : zaP g 1 (.own nm off n) = nm :: zf2 g 0 (g nm):=by simp only [zaP,zf2]; cases g nm <;> rfl
theorem znh (k : Nat) (o : AObj) : zf2 g k (some o) = if o.fl ≠ 0 then [] else o.elems.flatMap fun r=>r.flatMap (zaP g k):=rfl
theorem zuc (k a b : Nat) (r : List (List V)) : zaP g k (.sl a b r) = []:=by cases k <;> rfl
theorem zrD (k : Nat) (a : IntKind) (b : Int) : zaP g k (.int a b) = []:=by cases k <;> rfl
theorem zoX (k : Nat) (b : Bool) : zaP g k (.bool b) = []:=by cases k <;> rfl
theorem zrG (k : Nat) (b : ByteArray) : zaP g k (.str b) = []:=by cases k <;> rfl
theorem zo1 (k : Nat) : zaP g k .pnil = []:=by cases k <;> rfl
theorem zub (k : Nat) (r : List V) : zaP g k (.pp r) = []:=by cases k <;> rfl
theorem zrF (k a b c : Nat) : zaP g k (.ptr a b c) = []:=by cases k <;> rfl
theorem zrE (k : Nat) (f : FuncId) (n : Nat) : zaP g k (.mth f n) = []:=by cases k <;> rfl
theorem zoW (k : Nat) : zaP g k .anyB = []:=by cases k <;> rfl
end
theorem zwR (b : Bool) : zdx 0 b = 0:=rfl
theorem zwS (b : Bool) : zdx 2 b = 2:=by simp [zdx]
theorem zjj {t : Nat} {b : Bool} : zdx t b = 0 ↔ t = 0:=by unfold zdx; split <;> simp_all; split <;> simp_all
attribute [simp] zwR zwS zjj zuW zwi zuT zuU ztD zss zst zwr zrL zrK zrJ zrH zwW zud zrI zuf zrM zwU zo0 zoZ zoY znh zuc zrD zoX zrG zo1 zub zrF zoW cutO zbH zbJ zdf
theorem zvp (a b : Nat) (r : List (List V)) : V.scalar (.sl a b r) = r.isEmpty:=by cases r <;> rfl
theorem zp4 : V.scalar .junk = true:=rfl
theorem zsJ (k : IntKind) (n : Int) : V.scalar (.int k n) = true:=rfl
theorem zp3 (b : Bool) : V.scalar (.bool b) = true:=rfl
theorem zsN (b : ByteArray) : V.scalar (.str b) = true:=rfl
theorem zsL (a b c : Nat) : V.scalar (.own a b c) = true:=rfl
theorem zsM (a b c : Nat) : V.scalar (.ptr a b c) = true:=rfl
theorem zp5 : V.scalar .pnil = true:=rfl
theorem zvn (f : FuncId) : V.scalar (.fn f) = true:=rfl
theorem zsI (f : FuncId) (r : List V) : V.scalar (.clo f r) = false:=rfl
theorem zsK (f : FuncId) (n : Nat) : V.scalar (.mth f n) = true:=rfl
theorem zp2 : V.scalar .anyB = true:=rfl
theorem zvo (r : List V) : V.scalar (.pp r) = false:=rfl
theorem zsH (r : List V) : V.scalar (.agg r) = V.scalar.scalarAll r:=rfl
theorem zsO (r : List V) : V.scalar (.tup r) = V.scalar.scalarAll r:=rfl
attribute [simp] zsK zrE
attribute [simp] zvp zp4 zsJ zp3 zsN zsL zsM zp5 zvn zsI zp2 zvo zsH zsO
theorem zqo (sl : Bool) (et es : Nat) (r : List (List V)) (t : Bool) (fl : Nat) : V.cells (.tree sl et es r t fl) = [.tree sl et es r t fl]:=rfl
theorem zp6 (sl : Bool) (et es : Nat) (r : List (List V)) (t : Bool) (fl : Nat) : V.scalar (.tree sl et es r t fl) = true:=rfl
theorem zAA (rows : List (List V)) : ntOk 0 rows = zcI rows:=rfl
theorem zAB (rows : List (List V)) : ntOk 1 rows = true:=rfl
theorem zAC (rows : List (List V)) : ntOk 2 rows = true:=rfl
theorem zxg (b : Bool) (rows : List (List V)) : ntOk (if b = true then 2 else 1) rows = true:=by cases b <;> rfl
theorem znR (et es : Nat) (rows : List (List V)) (t : Bool) (fl : Nat) (md : Md) : nameless ⟨et,es,rows,t,fl,md⟩ = if fl ≠ 0 then true else rows.all fun r=>r.all fun c=>c.isTree || c.closed:=rfl
theorem zpX (et es : Nat) (rows : List (List V)) (t : Bool) (fl : Nat) (md : Md) : zbu ⟨et,es,rows,t,fl,md⟩ = if fl = 2 then true else if fl = 0 then rows.all (fun r=>r.all (zbl 3)) else false:=rfl
theorem zvm (sl : Bool) (et es : Nat) (r : List (List V)) (t : Bool) (fl : Nat) : zbl 3 (.tree sl et es r t fl) = (decide (fl = 2) || r.all fun r=>r.all (zbl 2)):=rfl
theorem zvl (sl : Bool) (et es : Nat) (r : List (List V)) (t : Bool) (fl : Nat) : zbl 2 (.tree sl et es r t fl) = (decide (fl = 2) || r.all fun r=>r.all (zbl 1)):=rfl
theorem zvk (sl : Bool) (et es : Nat) (r : List (List V)) (t : Bool) (fl : Nat) : zbl 1 (.tree sl et es r t fl) = (decide (fl = 2) || r.all fun r=>r.all (zbl 0)):=rfl
theorem zpY (k : Nat) (a : IntKind) (n : Int) : zbl k (.int a n) = true:=by cases k <;> rfl
theorem zog (k : Nat) (b : Bool) : zbl k (.bool b) = true:=by cases k <;> rfl
theorem zp1 (k : Nat) (b : ByteArray) : zbl k (.str b) = true:=by cases k <;> rfl
theorem zsG (k a b : Nat) (r : List (List V)) : zbl k (.sl a b r) = false:=by cases k <;> rfl
theorem zoh (k : Nat) : zbl k .pnil = true:=by cases k <;> rfl
theorem zsF (k : Nat) (r : List V) : zbl k (.pp r) = false:=by cases k <;> rfl
theorem zpZ (k a b c : Nat) : zbl k (.own a b c) = true:=by cases k <;> rfl
theorem zp0 (k a b c : Nat) : zbl k (.ptr a b c) = true:=by cases k <;> rfl
theorem zkD (K : Nat → Clo → Clo) (n j : Nat) (p : Clo) : zci K n [] j p = p:=rfl
theorem zjg (K : Nat → Clo → Clo) (n : Nat) (c : V) (cs : List V) (j : Nat) (p : Clo) : zci K n (c :: cs) j p = zci K n cs (j + 1) (match c with | .ptr m _ _ | .own m _ _=>(K m p).step n j | _=>p):=rfl
theorem zwJ (n j : Nat) (g : Nat → Option AObj) (l : List (Nat × AObj)) : Clo.step n j ⟨g,l⟩ = ⟨zas g (fold1 g n j),l ++ fold1 g n j⟩:=rfl
def zkW (k n : Nat) (p : Clo) : Option AObj → Clo
 | some o=>if nameless o = true then p else match o.elems with
  | [row]=>zci (zdY k) n row 0 p
  | _=>p
 | none=>p
theorem zgu (k n : Nat) (p : Clo) : zdY (k + 1) n p = zkW k n p (p.g n):=by
 conv=>lhs; unfold zdY
 cases p.g n <;> rfl
theorem zwO (n : Nat) (p : Clo) : zdY 4 n p = zkW 3 n p (p.g n):=zgu 3 n p
theorem zwN (n : Nat) (p : Clo) : zdY 3 n p = zkW 2 n p (p.g n):=zgu 2 n p
theorem zwM (n : Nat) (p : Clo) : zdY 2 n p = zkW 1 n p (p.g n):=zgu 1 n p
theorem zwL (n : Nat) (p : Clo) : zdY 1 n p = zkW 0 n p (p.g n):=zgu 0 n p
theorem zwK (n : Nat) (p : Clo) : zdY 0 n p = p:=rfl
theorem zoQ (k n : Nat) (p : Clo) (o : AObj) : zkW k n p (some o) = if nameless o = true then p else match o.elems with
 | [row]=>zci (zdY k) n row 0 p
 | _=>p:=rfl
def zkr (g : Nat → Option AObj) (k n : Nat) : Option AObj → List Nat
 | some o=>if nameless o = true then [n] else match o.elems with
  | [row]=>n :: (row.flatMap zbR).flatMap (visit g k)
  | _=>[n]
 | none=>[n]
theorem ziT (g : Nat → Option AObj) (k n : Nat) : visit g (k + 1) n = zkr g k n (g n):=by
 conv=>lhs; unfold visit
 cases hg : g n with
 | none=>rfl
 | some o =>
  simp only [zkr]
  obtain ⟨et,es,rows,t,fl,md⟩:=o
  simp only
  split
  ·rfl
  ·cases rows with
   | nil=>rfl
   | cons r rs=>cases rs <;> rfl
theorem zzC (g : Nat → Option AObj) (n : Nat) : visit g 4 n = zkr g 3 n (g n):=ziT g 3 n
theorem zzB (g : Nat → Option AObj) (n : Nat) : visit g 3 n = zkr g 2 n (g n):=ziT g 2 n
theorem zzA (g : Nat → Option AObj) (n : Nat) : visit g 2 n = zkr g 1 n (g n):=ziT g 1 n
theorem zzz (g : Nat → Option AObj) (n : Nat) : visit g 1 n = zkr g 0 n (g n):=ziT g 0 n
theorem zzy (g : Nat → Option AObj) (n : Nat) : visit g 0 n = [n]:=rfl
theorem zqp (g : Nat → Option AObj) (k n : Nat) (o : AObj) : zkr g k n (some o) = if nameless o = true then [n] else match o.elems with
 | [row]=>n :: (row.flatMap zbR).flatMap (visit g k)
 | _=>[n]:=rfl
def shutO : Option AObj → Bool
 | some o=>nameless o
 | none=>true
theorem zm9 (g : Nat → Option AObj) (n : Nat) (ns : List Nat) : zdt g (n :: ns) = (shutO (g n) && zdt g ns):=by simp only [zdt,shutO]; split <;> simp_all
theorem zoA (g : Nat → Option AObj) : zdt g [] = true:=rfl
theorem zsP (o : AObj) : shutO (some o) = nameless o:=rfl
theorem zxH {α : Type} (a b : List α) : (a ++ b).take (a.length + b.length) = a ++ b:=by rw [← List.length_append,List.take_length]
theorem zvz {α : Type} (n : Nat) (a : List α) : (a.take n).take n = a.take n:=by rw [List.take_take,Nat.min_self]
theorem zqd {α : Type} (n : Nat) (a : List α) : (a.take n).take (min n a.length) = a.take n:=by rw [← List.length_take,List.take_length]
attribute [simp] kept RO LK cutF zqo zp6 zAA zAB zAC zxg zcI V.isTree znR zpX zvm zvl zvk zpY zog zp1 zsG zoh zsF zpZ zp0 zkD zjg zwJ zwO zwN zwM zwL zwK zoQ zzC zzB zzA zzz zzy zqp zm9 zoA zsP zii zcL zf1 zdw zd7 fold1 Eff.behind
theorem zwj {T : TypeId → Option TI} {xt : TypeId} (op : BinOp) (a b c : Nat) : aBin T op xt (.ptr a b c) .pnil = ptrEq (zao T xt) op false:=rfl
theorem zy1 {T : TypeId → Option TI} {xt : TypeId} (op : BinOp) (r : List V) : aBin T op xt (.pp r) .pnil = ptrEq (zao T xt) op false:=rfl
theorem ztE {T : TypeId → Option TI} {xt : TypeId} (op : BinOp) : aBin T op xt .pnil .pnil = ptrEq (zao T xt) op true:=rfl
theorem zu2 (e : TypeId) (b : Bool) : ptrEq (some (.pointer e)) .eql b = some (.bool b):=rfl
theorem zu3 (e : TypeId) (b : Bool) : ptrEq (some (.pointer e)) .neq b = some (.bool !b):=rfl
theorem znW : ofConst (.pointer none) = .pnil:=rfl
attribute [simp] znW zwj zy1 ztE zu2 zu3
theorem zuD (args : List V) (objs : List AObj) : zeT args objs = { s:=fun n=>args.getD n .junk,g:=fun n=>objs[n]?,c:=objs.length }:=rfl
attribute [simp] zuD
variable {P : Program} {T : TypeId → Option TI} {C : FuncId → List V → List AObj → Option CRes}
def zaF (l : List Int) : List (List V):=l.map fun n=>[.int .i64 n]
def zlO : List (List V) → Option (List UInt8)
 | []=>some []
 | e :: r=>match e,zlO r with
  | [.int .u8 n],some l=>if ((UInt8.ofNat n.toNat).toNat : Int) = n then some (UInt8.ofNat n.toNat :: l) else none
  | _,_=>none
@[simp] theorem zi8 : ∀ l : List UInt8,zlO (zae l) = some l
 | []=>rfl
 | b :: l=>by
  have:=zi8 l
  simp only [zae,List.map_cons] at this ⊢
  simp [zlO,this]
def zqx : List (List V) → Option (List Int)
 | []=>some []
 | e :: r=>match e,zqx r with
  | [.int .i64 n],some l=>some (n :: l)
  | _,_=>none
@[simp] theorem zlP : ∀ l : List Int,zqx (zaF l) = some l
 | []=>rfl
 | b :: l=>by
  have:=zlP l
  simp only [zaF,List.map_cons] at this ⊢
  simp [zqx,this]
@[simp] theorem zje : ∀ l : List UInt8,zeL (zae l) = some l
 | []=>rfl
 | b :: l=>by
  have:=zje l
  simp only [zae,List.map_cons] at this ⊢
  simp [zeL,this]
@[simp] theorem byteRow_length (l : List UInt8) : (zae l).length = l.length:=by simp [zae]
@[simp] theorem intRow_length (l : List Int) : (zaF l).length = l.length:=by simp [zaF]
theorem zkB (a b : List UInt8) : zae (a ++ b) = zae a ++ zae b:=by simp [zae]
theorem zmf (a b : List Int) : zaF (a ++ b) = zaF a ++ zaF b:=by simp [zaF]
@[simp] theorem byteRow_append' (a b : List UInt8) : zae a ++ zae b = zae (a ++ b):=(zkB a b).symm
@[simp] theorem intRow_append' (a b : List Int) : zaF a ++ zaF b = zaF (a ++ b):=(zmf a b).symm
@[simp] theorem byteRow_take (l : List UInt8) (n : Nat) : (zae l).take n = zae (l.take n):=by simp [zae,List.map_take]
@[simp] theorem byteRow_drop (l : List UInt8) (n : Nat) : (zae l).drop n = zae (l.drop n):=by simp [zae,List.map_drop]
@[simp] theorem intRow_take (l : List Int) (n : Nat) : (zaF l).take n = zaF (l.take n):=by simp [zaF,List.map_take]
@[simp] theorem intRow_drop (l : List Int) (n : Nat) : (zaF l).drop n = zaF (l.drop n):=by simp [zaF,List.map_drop]
@[simp] theorem byteRow_get' (l : List UInt8) (n : Nat) : (zae l)[n]? = (l[n]?).map fun b=>[V.int .u8 b.toNat]:=by simp [zae]
@[simp] theorem intRow_get (l : List Int) (n : Nat) : (zaF l)[n]? = (l[n]?).map fun b=>[V.int .i64 b]:=by simp [zaF]
@[simp] theorem byteRow_getElem (l : List UInt8) (n : Nat) (h : n < (zae l).length) : (zae l)[n] = [V.int .u8 (l[n]'(by simpa using h)).toNat]:=by simp [zae]
@[simp] theorem intRow_getElem (l : List Int) (n : Nat) (h : n < (zaF l).length) : (zaF l)[n] = [V.int .i64 (l[n]'(by simpa using h))]:=by simp [zaF]
@[simp] theorem byteRow_isEmpty (l : List UInt8) : (zae l).isEmpty = l.isEmpty:=by cases l <;> rfl
@[simp] theorem intRow_isEmpty (l : List Int) : (zaF l).isEmpty = l.isEmpty:=by cases l <;> rfl
@[simp] theorem zg5 : ∀ l : List UInt8,zbd (zae l) = true
 | []=>rfl
 | b :: l=>by
  have:=zg5 l
  simp only [zae,List.map_cons] at this ⊢
  simp [zbd,this]
@[simp] theorem zhz : ∀ l : List Int,zbd (zaF l) = true
 | []=>rfl
 | b :: l=>by
  have:=zhz l
  simp only [zaF,List.map_cons] at this ⊢
  simp [zbd,this]
theorem zdv (b : UInt8) : [[V.int .u8 b.toNat]] = zae [b]:=rfl
theorem zeC (x : Int) : IntKind.u64.wrap x = x % 18446744073709551616:=by simp [IntKind.wrap,IntKind.bits,IntKind.signed]
theorem zaS {x : Int} (h0 : 0 ≤ x) (h1 : x ≤ 18446744073709551615) : IntKind.u64.wrap x = x:=by rw [zeC]; omega
theorem zkt (x : Int) : IntKind.u8.wrap x = x % 256:=by simp [IntKind.wrap,IntKind.bits,IntKind.signed]
theorem zhE {x : Int} (h0 : 0 ≤ x) (h1 : x ≤ 255) : IntKind.u8.wrap x = x:=by rw [zkt]; omega
theorem zeB {x : Int} (h0 : -9223372036854775808 ≤ x) (h1 : x ≤ 9223372036854775807) : IntKind.i64.wrap x = x:=by
 simp [IntKind.wrap,IntKind.bits,IntKind.signed]; omega
theorem zmM (x : Int) : IntKind.i64.wrap x = if x % 18446744073709551616 ≥ 9223372036854775808 then x % 18446744073709551616 - 18446744073709551616 else x % 18446744073709551616:=by
 simp [IntKind.wrap,IntKind.bits,IntKind.signed]
@[simp] theorem zwH : IntKind.u64.bits = 64:=rfl
@[simp] theorem bits_i64 : IntKind.i64.bits = 64:=rfl
@[simp] theorem bits_u8 : IntKind.u8.bits = 8:=rfl
@[simp] theorem signed_u64 : IntKind.u64.signed = false:=rfl
@[simp] theorem signed_i64 : IntKind.i64.signed = true:=rfl
@[simp] theorem signed_u8 : IntKind.u8.signed = false:=rfl
def getS : List (Nat × V) → Nat → V
 | [],_=>.junk
 | (m,v) :: r,n=>if n = m then v else getS r n
def getG : List (Nat × AObj) → Nat → Option AObj
 | [],_=>none
 | (m,o) :: r,n=>if n = m then some o else getG r n
def mkSt (sl : List (Nat × V)) (ob : List (Nat × AObj)) (c : Nat) : St:={ s:=getS sl,g:=getG ob,c:=c }
theorem getS_mem : ∀ {sl : List (Nat × V)} {n : Nat},getS sl n = .junk ∨ (n,getS sl n) ∈ sl
 | [],n=>.inl rfl
 | (m,v) :: r,n=>by
  simp only [getS]
  split
  ·rename_i e; subst e; exact .inr (List.mem_cons_self ..)
  ·exact getS_mem.imp id (List.mem_cons_of_mem _)
theorem zgK : ∀ {ob : List (Nat × AObj)} {n : Nat} {o : AObj},getG ob n = some o → (n,o) ∈ ob
 | [],n,o,h=>by cases h
 | (m,v) :: r,n,o,h=>by
  simp only [getG] at h
  split at h
  ·rename_i e; subst e; cases h; exact List.mem_cons_self ..
  ·exact List.mem_cons_of_mem _ (zgK h)
theorem zaW {k : Nat} {st : St} {sl : List (Nat × V)} {ob : List (Nat × AObj)} {c : Nat} (f : Nat → Nat) (hs : ∀ p ∈ sl,st.s p.1 = p.2.ren f ∧ p.2.within (fun n=>(getG ob n).isSome) = true)
 (hg : ∀ p ∈ ob,st.g (f p.1) = some (p.2.ren f) ∧ p.2.within (fun n=>(getG ob n).isSome) = true) (hinj : ∀ p ∈ ob,∀ q ∈ ob,f p.1 = f q.1 → p.1 = q.1) (hfix : ∀ n,n < k → f n = n ∧ (getG ob n).isSome = true) : Weak k st (mkSt sl ob c):=by
 refine zx6 f (fun n=>?_) (fun n o h=>(hg _ (zgK h)).1) (fun n m o o' h1 h2 he=>hinj _ (zgK h1) _ (zgK h2) he) (fun n o h=>(hg _ (zgK h)).2) hfix
 rcases getS_mem (sl:=sl) (n:=n) with h | h
 ·exact .inl h
 ·exact .inr (hs _ h)
attribute [simp] mkSt getS getG V.within V.within.withinAll AObj.within
theorem zks {st : St} (i n : Nat) {sz : Nat} (o : AObj) {sl : List (Nat × V)} {ob : List (Nat × AObj)} {c : Nat} (f : Nat → Nat) (hi : st.s i = .sl 0 sz []) (hn : st.g n = none) (he : o.elems = [])
 (hs : ∀ p ∈ sl,upd st.s i (.own n 0 0) p.1 = p.2.ren f ∧ p.2.within (fun n=>(getG ob n).isSome) = true)
 (hg : ∀ p ∈ ob,upd st.g n (some o) (f p.1) = some (p.2.ren f) ∧ p.2.within (fun n=>(getG ob n).isSome) = true) (hinj : ∀ p ∈ ob,∀ q ∈ ob,f p.1 = f q.1 → p.1 = q.1) : Weak 0 st (mkSt sl ob c) :=
 (zcw i n o hi hn he).trans (zaW f hs hg hinj (fun n h=>absurd h (by omega)))
def nth (l : List Nat) (i : Nat) : Nat:=l.getD i i
def zgW (f : Nat → Nat) (st : St) : Nat → List AObj → Prop
 | _,[]=>True
 | i,o :: os=>st.g (f i) = some (o.ren f) ∧ zgW f st (i + 1) os
theorem zlk {f : Nat → Nat} {st : St} : ∀ {os : List AObj} {i : Nat},zgW f st i os → ∀ (j : Nat) (o : AObj),os[j]? = some o → st.g (f (i + j)) = some (o.ren f)
 | [],i,_,j,o,h=>by simp at h
 | a :: os,i,hh,0,o,h=>by simp at h; subst h; exact hh.1
 | a :: os,i,hh,j + 1,o,h=>by
  have:=zlk hh.2 j o (by simpa using h)
  rw [show i + 1 + j = i + (j + 1) by omega] at this
  exact this
theorem zAE {T : TypeId → Option TI} {res : List ResultVar} {k : Nat} {e : Exit} {st : St} {v : V} {os : List AObj} (f : Nat → Nat) (he : isEnd e = true) (hv : retV T st res = some (v.ren f)) (ho : zgW f st 0 os) (hk : k ≤ os.length) (hfix : ∀ j,j < k → f j = j)
 (hinj : ∀ i,i < os.length → ∀ j,j < os.length → f i = f j → i = j) (hw : v.within (fun j=>decide (j < os.length)) = true) (hws : ∀ o ∈ os,o.within (fun j=>decide (j < os.length)) = true) : Ret T res ⟨v,os⟩ k e st :=
 Ret0.ret ⟨by cases e <;> simp [isEnd] at he <;> trivial,hk,f,hfix,fun i j hi hj=>hinj i hi j hj,hv,fun j o h=>by simpa using zlk ho j o h,hw,hws⟩
attribute [simp] nth zgW
variable {P : Program} {T : TypeId → Option TI} {C : FuncId → List V → List AObj → Option CRes}
open Classical in
/-- What a function answers,for a family of arguments and objects. -/
noncomputable def fam {ι : Type} (A : ι → List V) (O : ι → List AObj) (ok : ι → Prop) (res : ι → CRes) : List V → List AObj → Option CRes :=
 fun args objs=>if h : ∃ i,ok i ∧ A i = args ∧ O i = objs then some (res h.choose) else none
theorem zqH {ι : Type} {A : ι → List V} {O : ι → List AObj} {ok : ι → Prop} {res : ι → CRes} {args : List V} {objs : List AObj} {r : CRes} (h : fam A O ok res args objs = some r) : ∃ i,ok i ∧ A i = args ∧ O i = objs ∧ res i = r:=by
 unfold fam at h
 split at h
 ·rename_i hc
  cases h
  exact ⟨hc.choose,hc.choose_spec.1,hc.choose_spec.2.1,hc.choose_spec.2.2,rfl⟩
 ·cases h
theorem zag {ι : Type} {A : ι → List V} {O : ι → List AObj} {ok : ι → Prop} {res : ι → CRes} (hinj : ∀ i j,A i = A j → O i = O j → res i = res j) (i : ι) (h : ok i) : fam A O ok res (A i) (O i) = some (res i):=by
 unfold fam
 have hc : ∃ j,ok j ∧ A j = A i ∧ O j = O i:=⟨i,h,rfl,rfl⟩
 rw [dif_pos hc]
 exact congrArg some (hinj _ _ hc.choose_spec.2.1 hc.choose_spec.2.2)
theorem zgH {ι : Type} {A : ι → List V} {O : ι → List AObj} {ok : ι → Prop} {res : ι → CRes} {args : List V} {objs : List AObj} (h : ∀ i,A i = args → O i = objs → False) : fam A O ok res args objs = none:=by
 unfold fam
 rw [dif_neg]
 rintro ⟨i,_,h1,h2⟩
 exact h i h1 h2
theorem zaj (hT : zaJ P T) (hC : zai P C) (hm : P.follows .mixedOrders = true) {f : FuncId} {fn : Func} {c : Code} (hf : P.funcs[f]? = some fn) (hname : (fn.name == "runtime.NumGoroutine") = false) (hb : fn.body = some c) (hd : dstOk fn.ntmps c = true)
 {ι : Type} {A : ι → List V} {O : ι → List AObj} {ok : ι → Prop} {res : ι → CRes} {n : Nat} (hn : fn.ntmps = n) (h : ∀ i,ok i → (A i).length ≤ n ∧ ∀ r,r = res i → axwp T C (O i).length c (Ret T fn.results.toList r (O i).length) (zeT (A i) (O i))) : Spec P f (fam A O ok res):=by
 refine zzs hT hC hm hf hname hb hd fun args objs r hr=>?_
 obtain ⟨i,h1,rfl,rfl,rfl⟩:=zqH hr
 rw [hn]
 exact ⟨(h i h1).1,(h i h1).2 _ rfl⟩
def mkC : List (FuncId × (List V → List AObj → Option CRes)) → FuncId → List V → List AObj → Option CRes
 | [],_=>fun _ _=>none
 | (f,sp) :: r,g=>if g = f then sp else mkC r g
@[simp] theorem mkC_cons (f : FuncId) (sp : List V → List AObj → Option CRes) (r : List (FuncId × (List V → List AObj → Option CRes))) (g : FuncId) : mkC ((f,sp) :: r) g = if g = f then sp else mkC r g:=rfl
theorem zat : ∀ {l : List (FuncId × (List V → List AObj → Option CRes))},(∀ p ∈ l,Spec P p.1 p.2) → zai P (mkC l)
 | [],_=>fun f ⟨a,o,r,h⟩=>by cases h
 | (f,sp) :: r,hl=>fun g hg=>by
  show Spec P g (if g = f then sp else mkC r g)
  by_cases e : g = f
  ·subst e; rw [if_pos rfl]; exact hl _ (List.mem_cons_self ..)
  ·rw [if_neg e]
   refine zat (fun p hp=>hl p (List.mem_cons_of_mem _ hp)) g ?_
   obtain ⟨a,o,x,h⟩:=hg
   have h' : (if g = f then sp else mkC r g) a o = some x:=h
   rw [if_neg e] at h'
   exact ⟨a,o,x,h'⟩
theorem all_nil {α : Type} {p : α → Prop} : ∀ x ∈ ([] : List α),p x:=fun _ h=>by cases h
theorem all_cons {α : Type} {p : α → Prop} {a : α} {l : List α} (h : p a) (hl : ∀ x ∈ l,p x) : ∀ x ∈ a :: l,p x:=fun x hx=>by
 rcases List.mem_cons.1 hx with rfl | hx
 ·exact h
 ·exact hl x hx
theorem zoI {a b : List UInt8} (h : zae a = zae b) : a = b:=by
 have:=congrArg zlO h
 simpa using this
theorem zr4 {a b : List Int} (h : zaF a = zaF b) : a = b:=by
 have:=congrArg zqx h
 simpa using this
@[simp] theorem byteRow_eq {a b : List UInt8} : zae a = zae b ↔ a = b:=⟨zoI,fun h=>by rw [h]⟩
@[simp] theorem intRow_eq {a b : List Int} : zaF a = zaF b ↔ a = b:=⟨zr4,fun h=>by rw [h]⟩
@[simp] theorem zf0 : zae [] = []:=rfl
@[simp] theorem intRow_nil : zaF [] = []:=rfl
def nmOf : V → Nat
 | .own nm _ _=>nm
 | .ptr nm _ _=>nm
 | _=>0
@[simp] theorem nmOf_own (a b c : Nat) : nmOf (.own a b c) = a:=rfl
@[simp] theorem nmOf_ptr (a b c : Nat) : nmOf (.ptr a b c) = a:=rfl
def zaK (st : St) (l : List (Nat ⊕ Nat)) (i : Nat) : Nat:=match l[i]? with
 | some (.inl n)=>n
 | some (.inr s)=>nmOf (st.s s)
 | none=>i
theorem zak {k : Nat} {st : St} {sl : List (Nat × V)} {ob : List (Nat × AObj)} {c : Nat} (l : List (Nat ⊕ Nat)) (hs : ∀ p ∈ sl,st.s p.1 = p.2.ren (zaK st l) ∧ p.2.within (fun n=>(getG ob n).isSome) = true)
 (hg : ∀ p ∈ ob,st.g (zaK st l p.1) = some (p.2.ren (zaK st l)) ∧ p.2.within (fun n=>(getG ob n).isSome) = true) (hinj : ∀ p ∈ ob,∀ q ∈ ob,zaK st l p.1 = zaK st l q.1 → p.1 = q.1) (hfix : ∀ n,n < k → zaK st l n = n ∧ (getG ob n).isSome = true) : Weak k st (mkSt sl ob c) :=
 zaW (zaK st l) hs hg hinj hfix
def zq4 (f : Nat → Nat) (a : Nat) : Nat → List AObj → Prop
 | _,[]=>True
 | i,_ :: os=>a ≠ f i ∧ zq4 f a (i + 1) os
def injL (f : Nat → Nat) : Nat → List AObj → Prop
 | _,[]=>True
 | i,_ :: os=>zq4 f (f i) (i + 1) os ∧ injL f (i + 1) os
theorem zgc {f : Nat → Nat} {a : Nat} : ∀ {os : List AObj} {i : Nat},zq4 f a i os → ∀ j,j < os.length → a ≠ f (i + j)
 | [],i,_,j,h=>by simp at h
 | o :: os,i,hh,0,h=>hh.1
 | o :: os,i,hh,j + 1,h=>by
  have:=zgc hh.2 j (by simpa using h)
  rw [show i + 1 + j = i + (j + 1) by omega] at this
  exact this
theorem znG {f : Nat → Nat} : ∀ {os : List AObj} {k : Nat},injL f k os → ∀ i,i < os.length → ∀ j,j < os.length → f (k + i) = f (k + j) → i = j
 | [],k,_,i,h=>by simp at h
 | o :: os,k,hh,0,_=>fun j hj he=>by
  cases j with
  | zero=>rfl
  | succ j =>
   refine absurd he ?_
   have:=zgc hh.1 j (by simpa using hj)
   rw [show k + 1 + j = k + (j + 1) by omega] at this
   exact this
 | o :: os,k,hh,i + 1,hi=>fun j hj he=>by
  cases j with
  | zero =>
   refine absurd he.symm ?_
   have:=zgc hh.1 i (by simpa using hi)
   rw [show k + 1 + i = k + (i + 1) by omega] at this
   exact this
  | succ j =>
   rw [show k + (i + 1) = k + 1 + i by omega,show k + (j + 1) = k + 1 + j by omega] at he
   exact congrArg (· + 1) (znG hh.2 i (by simpa using hi) j (by simpa using hj) he)
theorem zbN {T : TypeId → Option TI} {res : List ResultVar} {k : Nat} {e : Exit} {st : St} {v : V} {os : List AObj} (l : List (Nat ⊕ Nat)) (he : isEnd e = true) (hv : retV T st res = some (v.ren (zaK st l))) (ho : zgW (zaK st l) st 0 os) (hk : k ≤ os.length) (hfix : ∀ j,j < k → zaK st l j = j)
 (hinj : injL (zaK st l) 0 os) (hw : v.within (fun j=>decide (j < os.length)) = true) (hws : ∀ o ∈ os,o.within (fun j=>decide (j < os.length)) = true) : Ret T res ⟨v,os⟩ k e st :=
 zAE (zaK st l) he hv ho hk hfix (fun i hi j hj he=>znG hinj i hi j hj (by simpa using he)) hw hws
attribute [simp] zq4 injL
attribute [simp] zaK
noncomputable def hush {α : Type} (a : α) : α:=Classical.choose (⟨a,rfl⟩ : ∃ b,b = a)
theorem zdT {α : Type} (a : α) : hush a = a:=Classical.choose_spec (⟨a,rfl⟩ : ∃ b,b = a)
open Go.RowKit
variable {P : Program}
def ReadsAs (w : World) (us : List V) (cs : List Value) : Prop:=us.length = cs.length ∧ ∀ (j : Nat) (u : V) (x : Value),us[j]? = some u → cs[j]? = some x → Rd w (fun b=>b < w.heap.size) noG u x
theorem ReadsAs.one {w : World} {u : V} {x : Value} (h : Rd w (fun b=>b < w.heap.size) noG u x) : ReadsAs w [u] [x]:=by
 refine ⟨rfl,fun j u' x' h1 h2=>?_⟩
 cases j with
 | zero=>simp at h1 h2; subst h1; subst h2; exact h
 | succ j=>simp at h1
theorem ReadsAs.append {w : World} {a b : List V} {x y : List Value} (h : ReadsAs w a x) (k : ReadsAs w b y) : ReadsAs w (a ++ b) (x ++ y):=by
 refine ⟨by simp [h.1,k.1],fun j u v h1 h2=>?_⟩
 by_cases hj : j < a.length
 ·rw [List.getElem?_append_left hj] at h1
  rw [List.getElem?_append_left (by rw [← h.1]; exact hj)] at h2
  exact h.2 j u v h1 h2
 ·rw [List.getElem?_append_right (by omega)] at h1
  rw [List.getElem?_append_right (by rw [← h.1]; omega)] at h2
  rw [← h.1] at h2
  exact k.2 _ u v h1 h2
structure Meas {H : Type} (m : DataW H → Nat) : Prop where
 one : ∀ d,1 ≤ m d
 str : ∀ b,b.length + 1 ≤ m (.lit (.string b))
 sl : ∀ es sp,(es.map m).sum + 1 ≤ m (.slice es sp)
 agg : ∀ ps,(ps.map m).sum + 1 ≤ m (.agg ps)
structure Reader (P : Program) (t : TypeId) (α : Type) where
 enc : α → List V
 ok : α → Prop
 siz : α → Nat
 len : ∀ a,(enc a).length = P.cellsOf t
 cel : ∀ a u,u ∈ enc a → u.cellular = true
 pos : ∀ a,1 ≤ siz a
 read : ∀ {H : Type} {eh : TypeId × Value → H} {w : World} {fuel : Nat} {cs : List Value} {d : DataW H} {ps : List MemPlace},
  DataW.trod eh P w 0 (fun _=>true) true fuel t cs = some (d,ps) → ∃ a,ReadsAs w (enc a) cs ∧ ok a ∧ ∀ m : DataW H → Nat,Meas m → siz a ≤ m d
theorem Reader.cell {t : TypeId} {α : Type} (R : Reader P t α) {e : α → V} (he : ∀ a,R.enc a = [e a]) (hv : ∀ {w r b0 v},Value.okWide P w r b0 t v → v.cells = #[v]) {H : Type} {eh : TypeId × Value → H} {w W0 : World} {r : Reach} {b0 : Nat} {v : Value} {d : DataW H} {ps : List MemPlace}
 (hval : Value.okWide P W0 r b0 t v) (hd : DataW.Trod eh P w 0 (fun _=>true) true t v d ps) : ∃ a,Rd w (fun b=>b < w.heap.size) noG (e a) v ∧ R.ok a ∧ ∀ m : DataW H → Nat,Meas m → R.siz a ≤ m d:=by
 obtain ⟨fuel,hf⟩:=hd
 rw [hv hval] at hf
 obtain ⟨a,⟨_,a1⟩,a2,a3⟩:=R.read hf
 refine ⟨a,?_,a2,a3⟩
 rw [he] at a1
 exact a1 0 _ _ rfl rfl
theorem Reader.agg {t : TypeId} {α : Type} {fs : Array Field} (R : Reader P t α) (h : P.underlying t = some (.struct fs)) {H : Type} {eh : TypeId × Value → H} {w W0 : World} {r : Reach} {b0 : Nat} {v : Value} {d : DataW H} {ps : List MemPlace}
 (hval : Value.okWide P W0 r b0 t v) (hd : DataW.Trod eh P w 0 (fun _=>true) true t v d ps) : ∃ a,Rd w (fun b=>b < w.heap.size) noG (.agg (R.enc a)) v ∧ R.ok a ∧ ∀ m : DataW H → Nat,Meas m → R.siz a ≤ m d:=by
 obtain ⟨cs,rfl,_⟩:=WideShapes.okWide_struct h hval
 obtain ⟨fuel,hf⟩:=hd
 obtain ⟨a,⟨a0,a1⟩,a2,a3⟩:=R.read hf
 refine ⟨a,.agg _ _ _ (by simpa [Value.cells] using a0) (fun j u x hu hx=>a1 j u x hu (by simpa [Value.cells] using hx)),a2,a3⟩
variable {w0 w : World} {ex : Ex} {I : Nat → Prop} {γ : Nat → Option GI} {g : Nat → Option AObj}
theorem zr0 (hi : Inv w0 ex I γ g w) {n : Nat} {o : AObj} (hg : g n = some o) (hm : o.md ≠ .dead) : Inv w0 ex (Ic I γ [n]) γ (upd g n (some { o with md:=.ro })) w:=by
 have hI : ∀ b,I b → Ic I γ [n] b:=fun b h=>.inl h
 have hup : ∀ x y,upd g n (some { o with md:=.ro }) x = some y → ∃ y0,g x = some y0 ∧ (y0.md = .dead → y.md = .dead):=by
  intro x y h
  by_cases e : x = n
  ·subst e; exact ⟨o,hg,fun h=>absurd h hm⟩
  ·rw [zaz _ _ e] at h; exact ⟨y,h,id⟩
 have hblk : ∀ b,Ic I γ [n] b → ¬ I b → ∃ gi,γ n = some gi ∧ gi.nil = false ∧ gi.blk = b:=by
  rintro b (h | ⟨m,gi,h1,h2,h3,h4⟩) hn
  ·exact absurd h hn
  ·simp at h1; subst h1; exact ⟨gi,h2,h3,h4⟩
 refine ⟨fun x y hx hd=>?_,?_,?_,?_,fun b hb=>?_,fun b hb=>hI _ (hi.keep b hb),hi.fix,fun b hb=>?_,hi.frame,hi.os,hi.tape,hi.output,hi.size,?_⟩
 rotate_right
 ·obtain ⟨F,hF⟩:=hi.trees
  refine ⟨F,hF.less hI (fun a i j u b hu hf hb=>?_) (fun x y hx hd=>.inl ?_) (fun x y gi hx hd hγ _=>⟨hγ,?_⟩)⟩
  ·rcases hb with hb | ⟨m,gi,h1,h2,h3,h4⟩
   ·exact hb
   ·simp at h1; subst h1
    exact absurd h4 (hF.nm _ _ _ _ _ hu hf m o gi hg hm h2 h3)
  ·obtain ⟨y0,a1,a2⟩:=hup x y hx
   refine ⟨y0,a1,fun h=>hd (a2 h),fun i j u hu _=>?_⟩
   by_cases e : x = n
   ·subst e
    rw [zaD] at hx; cases hx
    rw [hg] at a1; cases a1; exact hu
   ·rw [zaz _ _ e,a1] at hx; cases hx; exact hu
  ·obtain ⟨y0,a1,a2⟩:=hup x y hx
   exact ⟨y0,a1,fun h=>hd (a2 h)⟩
 ·by_cases e : x = n
  ·subst e
   rw [zaD] at hx; cases hx
   have ho:=hi.obj x o hg hm
   refine ⟨ho.rows,ho.cel,ho.closed,ho.scalar,?_⟩
   rcases ho.at_ with h | ⟨gi,cur,fr,hγ,ha⟩
   ·exact .inl h
   ·refine .inr ⟨gi,cur,fr,hγ,ha.nn,ha.es,ha.heap,ha.frz,ha.size,ha.le,ha.tight,ha.max,fun i j u hu=>?_,fun _=>.inr ⟨x,gi,by simp,hγ,ha.nn,rfl⟩,(fun h=>by cases h)⟩
    obtain ⟨y,y1,y2⟩:=ha.cells _ _ _ hu
    exact ⟨y,y1,y2.wider hI⟩
  ·rw [zaz _ _ e] at hx
   have ho:=hi.obj x y hx hd
   refine ⟨ho.rows,ho.cel,ho.closed,ho.scalar,?_⟩
   rcases ho.at_ with h | ⟨gi,cur,fr,hγ,ha⟩
   ·exact .inl h
   ·refine .inr ⟨gi,cur,fr,hγ,ha.nn,ha.es,ha.heap,ha.frz,ha.size,ha.le,ha.tight,ha.max,fun i j u hu=>?_,fun h=>hI _ (ha.ro h),fun h hb=>?_⟩
    ·obtain ⟨y,y1,y2⟩:=ha.cells _ _ _ hu
     exact ⟨y,y1,y2.wider hI⟩
    ·obtain ⟨gi',q1,q2,q3⟩:=hblk _ hb (ha.rw h)
     exact e (hi.inj x n y o gi gi' hx hg hd hm hγ q1 ha.nn q2 q3.symm)
 ·intro a b o1 o2 gi gi' h1 h2 d1 d2
  obtain ⟨p1,a1,a2⟩:=hup a o1 h1
  obtain ⟨p2,b1,b2⟩:=hup b o2 h2
  exact hi.inj a b p1 p2 gi gi' a1 b1 (fun h=>d1 (a2 h)) (fun h=>d2 (b2 h))
 ·intro a o1 gi h1 d1
  obtain ⟨p1,a1,a2⟩:=hup a o1 h1
  exact hi.own a p1 gi a1 (fun h=>d1 (a2 h))
 ·intro a gi h1 h2
  by_cases e : a = n
  ·subst e; rw [zaD] at h2; cases h2
  ·rw [zaz _ _ e] at h2; exact hi.dom a gi h1 h2
 ·by_cases h : I b
  ·exact hi.lt b h
  ·obtain ⟨gi,q1,q2,rfl⟩:=hblk b hb h
   obtain ⟨cur,fr,ha⟩:=hi.at_own hg hm q1 q2
   exact (Array.getElem?_eq_some_iff.1 ha.heap).1
 ·by_cases h : I b
  ·exact hi.back b h
  ·obtain ⟨gi,q1,q2,rfl⟩:=hblk b hb h
   exact .inr (hi.own n o gi hg hm q1 q2)
theorem zjI : ∀ {L : List (Nat × AObj)} {I : Nat → Prop} {g : Nat → Option AObj},Inv w0 ex I γ g w → (∀ p ∈ L,∃ o,g p.1 = some o ∧ o.md ≠ .dead ∧ p.2 = { o with md:=.ro }) →
 ∃ I',(∀ b,I b → I' b) ∧ Inv w0 ex I' γ (zas g L) w
 | [],I,g,hi,_=>⟨I,fun _ h=>h,hi⟩
 | (n,o') :: L,I,g,hi,h=>by
  obtain ⟨o,h1,h2,h3⟩:=h (n,o') (List.mem_cons_self ..)
  replace h3 : o' = { o with md:=.ro }:=h3
  subst h3
  obtain ⟨I',q1,q2⟩:=zjI (L:=L) (zr0 hi h1 h2) (fun p hp=>by
   obtain ⟨o1,k1,k2,k3⟩:=h p (List.mem_cons_of_mem _ hp)
   by_cases e : p.1 = n
   ·rw [e] at k1 ⊢
    replace h1 : g n = some o:=h1
    rw [h1] at k1; cases k1
    exact ⟨_,zaD ..,(by simp),k3⟩
   ·exact ⟨o1,by rw [zaz _ _ e]; exact k1,k2,k3⟩)
  exact ⟨I',fun b hb=>q1 b (.inl hb),q2⟩
def zaL : List (List V) → Bool
 | []=>true
 | r :: rs=>V.closed.closedAll r && zaL rs
theorem zfM : ∀ {l : List (List V)},zaL l = true → ∀ r ∈ l,V.closed.closedAll r = true
 | [],_,r,h=>by cases h
 | x :: l,h,r,hr=>by
  simp only [zaL,Bool.and_eq_true] at h
  rcases List.mem_cons.1 hr with rfl | hr
  ·exact h.1
  ·exact zfM h.2 r hr
theorem zdZ : ∀ (a b : List (List V)),zaL (a ++ b) = (zaL a && zaL b)
 | [],b=>rfl
 | x :: a,b=>by simp [zaL,zdZ a b,Bool.and_assoc]
def fzV (g : Nat → Option AObj) (F : List Nat) : V → V
 | .own nm off n=>match g nm with
  | some o=>if F.contains nm = true ∧ off + n ≤ o.elems.length then .sl 2 o.es ((o.elems.drop off).take n) else .own nm off n
  | none=>.own nm off n
 | .agg cs=>.agg (all cs)
 | v=>v
where all : List V → List V
 | []=>[]
 | c :: cs=>fzV g F c :: all cs
theorem zw6 {g : Nat → Option AObj} {F : List Nat} {v : V} (h : (fzV g F v).isTree = true) : fzV g F v = v:=by
 cases v <;> try rfl
 ·simp only [fzV] at h ⊢
  split at h
  ·split at h <;> cases h
  ·cases h
 ·simp only [fzV] at h; cases h
theorem fzV.all_eq (g : Nat → Option AObj) (F : List Nat) : ∀ cs : List V,fzV.all g F cs = cs.map (fzV g F)
 | []=>rfl
 | c :: cs=>by simp [fzV.all,fzV.all_eq g F cs]
theorem znC (g : Nat → Option AObj) (F : List Nat) (v : V) (h : v.cellular = true) : (fzV g F v).cellular = true:=by
 cases v <;> simp [V.cellular] at h <;> simp only [fzV] <;> try rfl
 split
 ·split <;> rfl
 ·rfl
def fzO (g : Nat → Option AObj) (F : List Nat) (o : AObj) : AObj :=
 if o.fl ≠ 0 then o else { o with elems:=o.elems.map (·.map (fzV g F)),fl:=if zaL (o.elems.map (·.map (fzV g F))) then 1 else 0 }
def fzSt (F : List Nat) (st : St) : St:={ s:=fun n=>fzV st.g F (st.s n),g:=fun n=>(zas st.g (freeze st.g F) n).map (fzO st.g F),c:=st.c }
theorem zAv {g1 : Nat → Option AObj} (hi : Inv w0 ex I γ g1 w) {F : List Nat} (hF : ∀ n o,n ∈ F → g n = some o → o.fl ≠ 0 ∧ g1 n = some { o with md:=.ro }) : ∀ {v : V} {x : Value},Rd w I γ v x → Rd w I γ (fzV g F v) x:=by
 have own : ∀ {nm off n : Nat} {x : Value},Rd w I γ (.own nm off n) x → Rd w I γ (fzV g F (.own nm off n)) x:=by
  intro nm off n x hx
  simp only [fzV]
  split
  ·rename_i o hg
   split
   ·rename_i hc
    obtain ⟨h1,h2⟩:=hF nm o (by simpa using hc.1) hg
    have h3:=zi6 hi (refs:=[]) (γc:=γ) (fun k n h=>by simp at h) hx (v':=.sl 2 o.es ((o.elems.drop off).take n)) (bs:=[nm]) (BS:=[nm]) (by simp [zbI,posOf,h1,h2,hc.2]) (fun n h=>h)
    refine h3.wider fun b hb=>?_
    rcases hb with hb | ⟨m,gi,q1,q2,q3,q4⟩
    ·exact hb
    ·simp at q1; subst q1
     obtain ⟨cur,fr,ha⟩:=hi.at_own h2 (by simp) q2 q3
     rw [← q4]; exact ha.ro rfl
   ·exact hx
  ·exact hx
 have key : ∀ (k : Nat) (v : V) (x : Value),SizeOf.sizeOf v ≤ k → Rd w I γ v x → Rd w I γ (fzV g F v) x:=by
  intro k
  induction k with
  | zero=>intro v x hs; cases v <;> simp at hs
  | succ k ih =>
   intro v x hs hx
   cases v with
   | own nm off n=>exact own hx
   | agg cs =>
    simp only [fzV]
    rw [fzV.all_eq]
    cases hx with
    | agg _ _ xs hl hr =>
     refine .agg _ _ _ (by simpa using hl) fun j u x hu hx=>?_
     rw [List.getElem?_map] at hu
     cases hc : cs[j]? with
     | none=>rw [hc] at hu; cases hu
     | some c =>
      rw [hc] at hu; cases hu
      refine ih c x ?_ (hr j c x hc hx)
      have:=List.sizeOf_lt_of_mem (List.mem_of_getElem? hc)
      simp at hs
      omega
   | _=>exact hx
 exact fun {v x} hx=>key _ v x (Nat.le_refl _) hx
theorem zqt {k : Nat} {st : St} (F : List Nat) (hF : ∀ n ∈ F,∃ o,st.g n = some o ∧ o.md ≠ .dead ∧ o.fl ≠ 0) : Weak k st (fzSt F st):=by
 intro w0 ex N a w I γ _ hs
 obtain ⟨I',hI,hi⟩:=zjI (L:=freeze st.g F) hs.inv (fun p hp=>by
  obtain ⟨n,o'⟩:=p
  obtain ⟨h1,o0,h2,h3⟩:=zd2 hp
  obtain ⟨o,k1,k2,k3⟩:=hF n h1
  rw [h2] at k1; cases k1
  exact ⟨o0,h2,k2,h3⟩)
 have hg1 : ∀ n o,n ∈ F → st.g n = some o → o.fl ≠ 0 ∧ zas st.g (freeze st.g F) n = some { o with md:=.ro }:=by
  intro n o hn hg
  obtain ⟨o',k1,_,k3⟩:=hF n hn
  rw [hg] at k1; cases k1
  refine ⟨k3,?_⟩
  rcases zcy (freeze st.g F) st.g n with ⟨o',h1,h2⟩ | ⟨h1,h2⟩
  ·obtain ⟨_,o0,q2,q3⟩:=zd2 h1
   rw [hg] at q2; cases q2
   rw [h2,q3]
  ·exact absurd (zd5 hn hg) (h1 _)
 have hrd : ∀ {v : V} {x : Value},Rd w I' γ v x → Rd w I' γ (fzV st.g F v) x:=fun hx=>zAv hi hg1 hx
 have hmd : ∀ o : AObj,(fzO st.g F o).md = o.md:=by intro o; unfold fzO; split <;> rfl
 have hup : ∀ x y,(zas st.g (freeze st.g F) x).map (fzO st.g F) = some y → ∃ y0,zas st.g (freeze st.g F) x = some y0 ∧ y = fzO st.g F y0:=by
  intro x y h
  cases hx : zas st.g (freeze st.g F) x with
  | none=>rw [hx] at h; cases h
  | some y0=>rw [hx] at h; cases h; exact ⟨y0,rfl,rfl⟩
 have hcell : ∀ {rows : List (List V)} {i j : Nat} {u : V},zah (rows.map (·.map (fzV st.g F))) i j = some u → ∃ u0,zah rows i j = some u0 ∧ u = fzV st.g F u0:=by
  intro rows i j u h
  obtain ⟨r,h1,h2⟩:=zan h
  rw [List.getElem?_map] at h1
  cases hr : rows[i]? with
  | none=>rw [hr] at h1; cases h1
  | some r0 =>
   rw [hr] at h1; cases h1
   rw [List.getElem?_map] at h2
   cases hu : r0[j]? with
   | none=>rw [hu] at h2; cases h2
   | some u0=>rw [hu] at h2; cases h2; exact ⟨u0,zay hr hu,rfl⟩
 refine ⟨I',γ,hs.size,fun n=>hrd ((hs.slots n).wider hI),⟨fun x y hx hd=>?_,?_,?_,?_,hi.lt,hi.keep,hi.fix,hi.back,hi.frame,hi.os,hi.tape,hi.output,hi.size,?_⟩,hs.defers,hs.glob.wider hI⟩
 rotate_right
 ·obtain ⟨F',hF'⟩:=hi.trees
  refine ⟨F',hF'.less (fun _ h=>h) (fun _ _ _ _ _ _ _ h=>h) (fun x y hx hd=>.inl ?_) (fun x y gi hx hd hγ _=>⟨hγ,?_⟩)⟩
  ·obtain ⟨y0,a1,rfl⟩:=hup x y hx
   rw [hmd] at hd
   refine ⟨y0,a1,hd,fun i j u hu hut=>?_⟩
   unfold fzO at hu
   split at hu
   ·exact hu
   ·obtain ⟨u0,k1,rfl⟩:=hcell hu
    rw [zw6 hut]; exact k1
  ·obtain ⟨y0,a1,rfl⟩:=hup x y hx
   rw [hmd] at hd
   exact ⟨y0,a1,hd⟩
 ·obtain ⟨y0,h1,rfl⟩:=hup x y hx
  rw [hmd] at hd
  have ho:=hi.obj x y0 h1 hd
  unfold fzO
  split
  ·exact ho
  ·rename_i hfl
   have hfl : y0.fl = 0:=by simpa using hfl
   refine ⟨fun e he=>?_,fun i j u hu=>?_,fun hf i j u hu=>?_,fun hf i j u hu=>?_,?_⟩
   ·obtain ⟨e0,k1,rfl⟩:=List.mem_map.1 he
    simpa using ho.rows e0 k1
   ·obtain ⟨u0,k1,rfl⟩:=hcell hu
    exact znC _ _ _ (ho.cel _ _ _ k1)
   ·simp only at hf hu
    split at hf
    ·rename_i hc
     obtain ⟨r,r1,r2⟩:=zan hu
     exact V.closedAll_get (zfM hc r (List.mem_of_getElem? r1)) j u r2
    ·exact absurd rfl hf
   ·simp only at hf
    split at hf <;> omega
   ·rcases ho.at_ with ⟨he,gi,q1,q2⟩ | ⟨gi,cur,fr,hγ,ha⟩
    ·exact .inl ⟨by simp [he],gi,q1,q2⟩
    ·refine .inr ⟨gi,cur,fr,hγ,ha.nn,ha.es,ha.heap,ha.frz,ha.size,by simpa using ha.le,by simpa using ha.tight,ha.max,fun i j u hu=>?_,ha.ro,ha.rw⟩
     obtain ⟨u0,k1,rfl⟩:=hcell hu
     obtain ⟨z,z1,z2⟩:=ha.cells _ _ _ k1
     exact ⟨z,z1,hrd z2⟩
 ·intro p q o1 o2 gi gi' h1 h2 d1 d2
  obtain ⟨p1,a1,rfl⟩:=hup p o1 h1
  obtain ⟨p2,b1,rfl⟩:=hup q o2 h2
  rw [hmd] at d1 d2
  exact hi.inj p q p1 p2 gi gi' a1 b1 d1 d2
 ·intro p o1 gi h1 d1
  obtain ⟨p1,a1,rfl⟩:=hup p o1 h1
  rw [hmd] at d1
  exact hi.own p p1 gi a1 d1
 ·intro p gi h1 h2
  refine hi.dom p gi h1 ?_
  replace h2 : (zas st.g (freeze st.g F) p).map (fzO st.g F) = none:=h2
  cases hx : zas st.g (freeze st.g F) p with
  | none=>rfl
  | some y=>rw [hx] at h2; cases h2
theorem zx3 {k : Nat} {st : St} (n m : Nat) (o : AObj) (hg : st.g m = some o) : Weak k st { st with g:=upd st.g m (some (cutO n o)) }:=by
 intro w0 ex N a w I γ _ hs
 exact ⟨I,γ,hs.size,hs.slots,hs.inv.cut hg n,hs.defers,hs.glob⟩
theorem zx5 {k : Nat} {st : St} (l : List Nat) (hF : ∀ n ∈ l.map (fun s=>nmOf (st.s s)),∃ o,st.g n = some o ∧ o.md ≠ .dead ∧ o.fl ≠ 0) : Weak k st (fzSt (l.map fun s=>nmOf (st.s s)) st):=zqt _ hF
attribute [simp] fzSt fzV fzV.all fzO zaL zdZ
@[simp] theorem scalarRows_nil : zbd [] = true:=rfl
@[simp] theorem wrap_zero (k : IntKind) : k.wrap 0 = 0:=by cases k <;> decide
@[simp] theorem wrap_one (k : IntKind) : k.wrap 1 = 1:=by cases k <;> decide
def NilOk {α : Type} (t : Nat) (l : List α) : Prop:=t = 0 → l = []
theorem zgT {α : Type} {t : Nat} {l : List α} (h : t ≠ 0) : NilOk t l:=fun e=>absurd e h
@[simp] theorem nilOk_1 {α : Type} (l : List α) : NilOk 1 l:=zgT (by decide)
@[simp] theorem nilOk_2 {α : Type} (l : List α) : NilOk 2 l:=zgT (by decide)
@[simp] theorem nilOk_3 {α : Type} (l : List α) : NilOk 3 l:=zgT (by decide)
@[simp] theorem nilOk_4 {α : Type} (l : List α) : NilOk 4 l:=zgT (by decide)
theorem zuV {α : Type} {t : Nat} {b : Bool} {l : List α} (h : t ≠ 0) : NilOk (zdx t b) l:=zgT (fun e=>h (zjj.1 e))
@[simp] theorem nilOk_nil {α : Type} (t : Nat) : NilOk t ([] : List α):=fun _=>rfl
@[simp] theorem wrap_i64_lit (n : Nat) (h : n ≤ 9223372036854775807) : IntKind.i64.wrap (no_index (OfNat.ofNat n : Int)) = OfNat.ofNat n:=zeB (show (-9223372036854775808 : Int) ≤ ((n : Nat) : Int) by omega) (show ((n : Nat) : Int) ≤ 9223372036854775807 by omega)
@[simp] theorem wrap_u64_lit (n : Nat) (h : n ≤ 18446744073709551615) : IntKind.u64.wrap (no_index (OfNat.ofNat n : Int)) = OfNat.ofNat n:=zaS (show (0 : Int) ≤ ((n : Nat) : Int) by omega) (show ((n : Nat) : Int) ≤ 18446744073709551615 by omega)
@[simp] theorem wrap_u8_lit (n : Nat) (h : n ≤ 255) : IntKind.u8.wrap (no_index (OfNat.ofNat n : Int)) = OfNat.ofNat n:=zhE (show (0 : Int) ≤ ((n : Nat) : Int) by omega) (show ((n : Nat) : Int) ≤ 255 by omega)
@[simp] theorem wrap_i64_neglit (n : Nat) (h : n ≤ 9223372036854775808) : IntKind.i64.wrap (-(no_index (OfNat.ofNat n : Int))) = -(OfNat.ofNat n):=zeB (show (-9223372036854775808 : Int) ≤ -((n : Nat) : Int) by omega) (show -((n : Nat) : Int) ≤ 9223372036854775807 by omega)
def zaX (ls : List (List UInt8)) : List (List V):=ls.map fun l=>[.sl 2 1 (zae l)]
@[simp] theorem listRow_length (l : List (List UInt8)) : (zaX l).length = l.length:=by simp [zaX]
@[simp] theorem listRow_nil : zaX [] = []:=rfl
theorem zkH (a b : List (List UInt8)) : zaX (a ++ b) = zaX a ++ zaX b:=by simp [zaX]
@[simp] theorem listRow_append' (a b : List (List UInt8)) : zaX a ++ zaX b = zaX (a ++ b):=(zkH a b).symm
theorem zpx (l : List UInt8) : [[V.sl 2 1 (zae l)]] = zaX [l]:=rfl
@[simp] theorem listRow_get (l : List (List UInt8)) (n : Nat) : (zaX l)[n]? = (l[n]?).map fun b=>[V.sl 2 1 (zae b)]:=by simp [zaX]
@[simp] theorem listRow_getElem (l : List (List UInt8)) (n : Nat) (h : n < (zaX l).length) : (zaX l)[n] = [V.sl 2 1 (zae (l[n]'(by simpa using h)))]:=by simp [zaX]
@[simp] theorem listRow_isEmpty (l : List (List UInt8)) : (zaX l).isEmpty = l.isEmpty:=by cases l <;> rfl
@[simp] theorem listRow_take (l : List (List UInt8)) (n : Nat) : (zaX l).take n = zaX (l.take n):=by simp [zaX,List.map_take]
@[simp] theorem listRow_drop (l : List (List UInt8)) (n : Nat) : (zaX l).drop n = zaX (l.drop n):=by simp [zaX,List.map_drop]
@[simp] theorem zkI : ∀ l : List (List UInt8),zaL (zaX l) = true
 | []=>rfl
 | b :: l=>by
  have:=zkI l
  simp only [zaX,List.map_cons] at this ⊢
  simp [zaL,this]
@[simp] theorem listRow_fz (g : Nat → Option AObj) (F : List Nat) (l : List (List UInt8)) : (zaX l).map (·.map (fzV g F)) = zaX l:=by
 simp [zaX]
theorem zpw {a b : List (List UInt8)} (h : zaX a = zaX b) : a = b:=by
 induction a generalizing b with
 | nil=>cases b with
  | nil=>rfl
  | cons=>cases h
 | cons x a ih=>cases b with
  | nil=>cases h
  | cons y b =>
   simp only [zaX,List.map_cons,List.cons.injEq] at h
   obtain ⟨h1,h2⟩:=h
   simp at h1
   rw [h1,ih h2]
@[simp] theorem listRow_eq {a b : List (List UInt8)} : zaX a = zaX b ↔ a = b:=⟨zpw,fun h=>by rw [h]⟩
def tagC : V → V
 | .sl _ es rows=>.sl 2 es rows
 | v=>v
def tagV : V → V
 | .agg cs=>.agg (cs.map tagC)
 | .tup cs=>.tup (cs.map tagC)
 | v=>tagC v
theorem zqc {w : World} {I : Nat → Prop} {γ : Nat → Option GI} {v : V} {x : Value} (h : Rd w I γ v x) : Rd w I γ (tagC v) x:=by
 cases h with
 | nil _ tag es h=>exact .nil _ 2 es (by decide)
 | sl _ tag es elems a n c xs h0 h1 hlen hnc hcm hes hcel hc hr=>exact .sl _ 2 es elems a n c xs (by decide) (fun h=>by rcases h with h | h <;> cases h) hlen hnc hcm hes hcel hc hr
 | junk=>exact .junk _ _
 | int=>exact .int _ _ _
 | bool=>exact .bool _ _
 | str=>exact .str _ _
 | own _ nm off n c o gi hγ hnn hcap hn hcm ho=>exact .own _ nm off n c o gi hγ hnn hcap hn hcm ho
 | ownnil _ nm A gi hγ hnn=>exact .ownnil _ nm A gi hγ hnn
 | ptr _ nm i j gi hγ hnn=>exact .ptr _ nm i j gi hγ hnn
 | mth _ f nm gi hγ hnn=>exact .mth _ f nm gi hγ hnn
 | pp _ cells a xs hc hr=>exact .pp _ cells a xs hc hr
 | pnil=>exact .pnil _
 | agg _ cells xs hl hr=>exact .agg _ cells xs hl hr
 | tup _ cells xs hl hr=>exact .tup _ cells xs hl hr
 | fn=>exact .fn _ _
 | clo _ f caps xs hl hr=>exact .clo _ f caps xs hl hr
 | anyB=>exact .anyB _ _
 | treep _ et es rows tight fl p h=>exact .treep _ _ _ _ _ _ p h
 | trees _ et es rows tight fl A n c h=>exact .trees _ _ _ _ _ _ A n c h
theorem zzt {w : World} {I : Nat → Prop} {γ : Nat → Option GI} {v : V} {x : Value} (h : Rd w I γ v x) : Rd w I γ (tagV v) x:=by
 have cells : ∀ {cs : List V} {xs : Array Value},(∀ (j : Nat) (u : V) (x : Value),cs[j]? = some u → xs[j]? = some x → Rd w I γ u x) → ∀ (j : Nat) (u : V) (x : Value),(cs.map tagC)[j]? = some u → xs[j]? = some x → Rd w I γ u x:=by
  intro cs xs hr j u x hu hx
  rw [List.getElem?_map] at hu
  cases hc : cs[j]? with
  | none=>rw [hc] at hu; cases hu
  | some c=>rw [hc] at hu; cases hu; exact zqc (hr j c x hc hx)
 cases v with
 | agg cs=>cases h with | agg _ _ xs hl hr=>exact .agg _ _ xs (by simpa using hl) (cells hr)
 | tup cs=>cases h with | tup _ _ xs hl hr=>exact .tup _ _ xs (by simpa using hl) (cells hr)
 | _=>exact zqc h
def tagSt (st : St) : St:={ s:=fun n=>tagV (st.s n),g:=st.g,c:=st.c }
theorem zx7 {k : Nat} {st : St} : Weak k st (tagSt st):=fun _ _ _ _ _ I γ _ hs=>⟨I,γ,hs.size,fun n=>zzt (hs.slots n),hs.inv,hs.defers,hs.glob⟩
theorem retFz {T : TypeId → Option TI} {res : List ResultVar} {r : CRes} {k : Nat} {e : Exit} {st : St} (l : List Nat) (hF : ∀ n ∈ l.flatMap (fun s=>zaU (st.s s)),∃ o,st.g n = some o ∧ o.md ≠ .dead ∧ o.fl ≠ 0)
 (h : Ret T res r k e (tagSt (fzSt (l.flatMap fun s=>zaU (st.s s)) st))) : Ret T res r k e st :=
 h.weak ((zqt _ hF).trans zx7)
theorem zzq {T : TypeId → Option TI} {res : List ResultVar} {v : V} {e : Exit} {st : St} (l : List Nat) (hF : ∀ n ∈ l.flatMap (fun s=>zaU (st.s s)),∃ o,st.g n = some o ∧ o.md ≠ .dead ∧ o.fl ≠ 0)
 (he : isEnd e = true) (hv : v.closed = true) (h : retV T (tagSt (fzSt (l.flatMap fun s=>zaU (st.s s)) st)) res = some v) : Ret T res ⟨v,[]⟩ 0 e st :=
 retFz l hF (zaa he h hv)
theorem zxV (cs : List V) : tagV (.agg cs) = .agg (cs.map tagC):=rfl
theorem zx2 (cs : List V) : tagV (.tup cs) = .tup (cs.map tagC):=rfl
theorem zxX (k : IntKind) (n : Int) : tagV (.int k n) = .int k n:=rfl
theorem zv2 (b : Bool) : tagV (.bool b) = .bool b:=rfl
theorem zx1 (b : ByteArray) : tagV (.str b) = .str b:=rfl
theorem zzF (a b : Nat) (r : List (List V)) : tagV (.sl a b r) = .sl 2 b r:=rfl
theorem zxZ (a b c : Nat) : tagV (.own a b c) = .own a b c:=rfl
theorem zx0 (a b c : Nat) : tagV (.ptr a b c) = .ptr a b c:=rfl
theorem zzE (r : List V) : tagV (.pp r) = .pp r:=rfl
theorem zv5 (sl : Bool) (et es : Nat) (r : List (List V)) (t : Bool) (fl : Nat) : tagV (.tree sl et es r t fl) = .tree sl et es r t fl:=rfl
theorem zv4  : tagV (.pnil) = .pnil:=rfl
theorem zzD (f : FuncId) : tagV (.fn f) = .fn f:=rfl
theorem zxW (f : FuncId) (r : List V) : tagV (.clo f r) = .clo f r:=rfl
theorem zxY (f : FuncId) (n : Nat) : tagV (.mth f n) = .mth f n:=rfl
theorem zv1  : tagV (.anyB) = .anyB:=rfl
theorem zv3  : tagV (.junk) = .junk:=rfl
attribute [simp] tagC tagSt zv5 zxV zx2 zxX zv2 zx1 zzF zxZ zx0 zzE zv4 zzD zxW zxY zv1 zv3
section
variable {v : V} {g : Nat → Option AObj}
def Folded (v : V) : Prop:=∃ cs,v = .agg cs ∧ V.closed.closedAll cs = true
theorem Folded.closed (h : Folded v) : v.closed = true:=by obtain ⟨cs,rfl,h⟩:=h; exact h
theorem Folded.ren (h : Folded v) (f : Nat → Nat) : v.ren f = v:=zfz f v h.closed
theorem Folded.within (h : Folded v) (D : Nat → Bool) : v.within D = true:=zhc D v h.closed
theorem zeM : ∀ {cs : List V},V.closed.closedAll cs = true → cs.flatMap zbR = []
 | [],_=>rfl
 | c :: cs,h=>by
  simp only [V.closed.closedAll,Bool.and_eq_true] at h
  rw [List.flatMap_cons,zeM h.2]
  cases c <;> simp [V.closed] at h <;> rfl
theorem zfL : ∀ {cs : List V},V.closed.closedAll cs = true → cs.flatMap (zaP g 3) = []
 | [],_=>rfl
 | c :: cs,h=>by
  simp only [V.closed.closedAll,Bool.and_eq_true] at h
  rw [List.flatMap_cons,zfL h.2]
  cases c <;> simp [V.closed] at h <;> rfl
theorem zgv {refs : List Nat} : ∀ {cs : List V},V.closed.closedAll cs = true → zbr g refs cs = some (cs,[])
 | [],_=>rfl
 | c :: cs,h=>by
  simp only [V.closed.closedAll,Bool.and_eq_true] at h
  have h1 : zbI g refs c = some (c,[]):=by
   cases c <;> simp [V.closed] at h <;> simp [zbI,V.closed,h]
  simp only [zbr,h1,zgv h.2]; rfl
theorem Folded.argV (h : Folded v) (refs : List Nat) : argV g refs v = some (v,[]):=by
 obtain ⟨cs,rfl,h⟩:=h
 simp only [Lift.argV,zgv h]; rfl
theorem Folded.names (h : Folded v) : zaU v = []:=by obtain ⟨cs,rfl,h⟩:=h; exact zeM h
theorem Folded.deep (h : Folded v) : argNm g v = []:=by obtain ⟨cs,rfl,h⟩:=h; exact zfL h
theorem Folded.ptr (h : Folded v) (r : List V) : za1 (v :: r) = za1 r:=by obtain ⟨cs,rfl,h⟩:=h; rfl
theorem Folded.junk (h : Folded v) : v.isJunk = false:=by obtain ⟨cs,rfl,h⟩:=h; rfl
theorem Folded.fz (h : Folded v) (F : List Nat) : fzV g F v = v:=by
 obtain ⟨cs,rfl,h⟩:=h
 simp only [fzV]
 congr 1
 induction cs with
 | nil=>rfl
 | cons c cs ih =>
  simp only [V.closed.closedAll,Bool.and_eq_true] at h
  simp only [fzV.all,ih h.2]
  congr 1
  have : ∀ cs : List V,V.closed.closedAll cs = true → fzV.all g F cs = cs:=by
   have key : ∀ (n : Nat) (v : V),SizeOf.sizeOf v ≤ n → v.closed = true → fzV g F v = v:=by
    intro n
    induction n with
    | zero=>intro v hs; cases v <;> simp at hs
    | succ n ih =>
     intro v hs hc
     cases v <;> simp [V.closed] at hc <;> try rfl
     rename_i cs
     simp only [fzV]
     congr 1
     simp at hs
     have all : ∀ cs : List V,SizeOf.sizeOf cs ≤ n → V.closed.closedAll cs = true → fzV.all g F cs = cs:=by
      intro cs
      induction cs with
      | nil=>intros; rfl
      | cons c cs ihc =>
       intro hs hc
       simp only [V.closed.closedAll,Bool.and_eq_true] at hc
       simp at hs
       simp only [fzV.all]
       rw [ih c (by omega) hc.1,ihc (by omega) hc.2]
     exact all cs (by omega) hc
   intro cs hc
   have:=key (SizeOf.sizeOf (V.agg cs)) (.agg cs) (Nat.le_refl _) hc
   simp only [fzV,V.agg.injEq] at this
   exact this
  have:=this [c] (by simp [V.closed.closedAll,h.1])
  simpa [fzV.all] using this
end
theorem Inv.redo {w0 w : World} {ex I γ} {g : Nat → Option AObj} (hi : Inv w0 ex I γ g w) {m : Nat} {o o' : AObj} (hg : g m = some o) (hmd : o'.md = o.md) (hok : o.md ≠ .dead → ObjOk w I γ m o → ObjOk w I γ m o') (htr : ∀ i j u,zah o'.elems i j = some u → u.isTree = true → zah o.elems i j = some u) : Inv w0 ex I γ (upd g m (some o')) w:=by
 have hup : ∀ x y,upd g m (some o') x = some y → ∃ y0,g x = some y0 ∧ y.md = y0.md:=by
  intro x y h
  by_cases e : x = m
  ·subst e; rw [zaD] at h; cases h; exact ⟨o,hg,hmd⟩
  ·rw [zaz _ _ e] at h; exact ⟨y,h,rfl⟩
 refine ⟨fun x y hx hm=>?_,?_,?_,?_,hi.lt,hi.keep,hi.fix,hi.back,hi.frame,hi.os,hi.tape,hi.output,hi.size,?_⟩
 rotate_right
 ·obtain ⟨F,hF⟩:=hi.trees
  refine ⟨F,hF.less (fun _ h=>h) (fun _ _ _ _ _ _ _ h=>h) (fun x y hx hm=>.inl ?_) (fun x y gi hx hm hγ _=>⟨hγ,?_⟩)⟩
  ·obtain ⟨y0,a1,a2⟩:=hup x y hx
   refine ⟨y0,a1,by rw [← a2]; exact hm,fun i j u hu hut=>?_⟩
   by_cases e : x = m
   ·subst e
    rw [zaD] at hx; cases hx
    rw [hg] at a1; cases a1
    exact htr i j u hu hut
   ·rw [zaz _ _ e,a1] at hx; cases hx; exact hu
  ·obtain ⟨y0,a1,a2⟩:=hup x y hx
   exact ⟨y0,a1,by rw [← a2]; exact hm⟩
 ·by_cases e : x = m
  ·subst e; rw [zaD] at hx; cases hx
   rw [hmd] at hm
   exact hok hm (hi.obj _ _ hg hm)
  ·rw [zaz _ _ e] at hx; exact hi.obj _ _ hx hm
 ·intro a b o1 o2 gi gi' h1 h2 d1 d2
  obtain ⟨p1,a1,a2⟩:=hup a o1 h1
  obtain ⟨p2,b1,b2⟩:=hup b o2 h2
  exact hi.inj a b p1 p2 gi gi' a1 b1 (by rw [← a2]; exact d1) (by rw [← b2]; exact d2)
 ·intro a o1 gi h1 d1
  obtain ⟨p1,a1,a2⟩:=hup a o1 h1
  exact hi.own a p1 gi a1 (by rw [← a2]; exact d1)
 ·intro a gi h1 h2
  by_cases e : a = m
  ·subst e; rw [zaD] at h2; cases h2
  ·rw [zaz _ _ e] at h2; exact hi.dom a gi h1 h2
theorem zzG {k : Nat} {st : St} (m f : Nat) (o : AObj) (hg : st.g m = some o) (hf : f ≤ o.fl) : Weak k st { st with g:=upd st.g m (some { o with fl:=f }) }:=by
 intro w0 ex N a w I γ _ hs
 refine ⟨I,γ,hs.size,hs.slots,hs.inv.redo hg rfl (fun _ h=>⟨h.rows,h.cel,fun h0=>h.closed (fun e=>h0 (by simp only; omega)),fun h0=>h.scalar (by simp only at h0; omega),?_⟩) (fun _ _ _ h _=>h),hs.defers,hs.glob⟩
 rcases h.at_ with h | ⟨gi,cur,fr,hγ,ha⟩
 ·exact .inl h
 ·exact .inr ⟨gi,cur,fr,hγ,ha.nn,ha.es,ha.heap,ha.frz,ha.size,ha.le,ha.tight,ha.max,ha.cells,ha.ro,ha.rw⟩
theorem ztw {k : Nat} {st : St} (m : Nat) (o : AObj) (hg : st.g m = some o) : Weak k st { st with g:=upd st.g m (some { o with tight:=false }) }:=by
 intro w0 ex N a w I γ _ hs
 refine ⟨I,γ,hs.size,hs.slots,hs.inv.redo hg rfl (fun _ h=>⟨h.rows,h.cel,h.closed,h.scalar,?_⟩) (fun _ _ _ h _=>h),hs.defers,hs.glob⟩
 rcases h.at_ with h | ⟨gi,cur,fr,hγ,ha⟩
 ·exact .inl h
 ·exact .inr ⟨gi,cur,fr,hγ,ha.nn,ha.es,ha.heap,ha.frz,ha.size,ha.le,(fun h=>by cases h),ha.max,ha.cells,ha.ro,ha.rw⟩
def zmt : Nat → List V → List V
 | _,[]=>[]
 | b,c :: r=>match c with
  | .sl 0 _ []=>.own b 0 0 :: zmt (b + 1) r
  | c=>c :: zmt b r
def pairs : Nat → List AObj → List (Nat × AObj)
 | _,[]=>[]
 | b,o :: os=>(b,o) :: pairs (b + 1) os
def zmu : List V → Nat
 | []=>0
 | c :: r=>match c with
  | .sl 0 _ []=>zmu r + 1
  | _=>zmu r
attribute [simp] zmt pairs zmu
def subC : List Nat → Code → Code
 | [],c=>c
 | n :: p,.seq a b=>if n = 0 then subC p a else subC p b
 | _ :: p,.block _ c=>subC p c
 | n :: p,.cond _ a b=>if n = 0 then subC p a else subC p b
 | _ :: p,.loop c=>subC p c
 | _ :: _,c=>c
def contC (T : TypeId → Option TI) (C : FuncId → List V → List AObj → Option CRes) (k : Nat) : List Nat → Code → (Exit → St → Prop) → Exit → St → Prop
 | [],_,Q=>Q
 | n :: p,.seq a b,Q=>if n = 0 then contC T C k p a (fun e st'=>match e with | .normal=>axwp T C k b Q st' | e=>Q e st') else contC T C k p b Q
 | _ :: p,.block id c,Q=>contC T C k p c (fun e st'=>match e with | .exit i=>if i = id then Q .normal st' else Q (.exit i) st' | e=>Q e st')
 | n :: p,.cond _ a b,Q=>if n = 0 then contC T C k p a Q else contC T C k p b Q
 | _ :: _,_,Q=>Q
attribute [simp] subC contC
def bodyC (f : Func) : Code:=f.body.getD .skip
end Go.Lift

namespace Go.Proofs.YtcpdgbncekdicaaGreat
open Go.Lift
theorem dr {A B C : Prop} (c : C) (a : A:=by kernel_rfl) (b : B:=by kernel_rfl) : (A ∧ B) ∧ C:=⟨⟨a,b⟩,c⟩
theorem w64 {a : Int} (h1 : -9223372036854775808 ≤ a:=by omega) (h2 : a ≤ 9223372036854775807:=by omega) : IntKind.i64.wrap a = a:=zeB h1 h2
theorem zvD {P : Program} {t : TypeId} {ti : TI} (z : Value) (h1 : P.underlying t = some ti.desc) (h2 : (P.info? t).map (fun i=>(i.zero,i.size,i.bytes)) = some (some z,ti.size,ti.bytes)) (h3 : z.cells.size = ti.size ∧ z.cells.toList.map ofCell = ti.zero)
 (h4 : ti.agg = (match ti.desc with | .struct _ | .array _ _=>true | _=>false)) (h5 : ti.eqc = true → P.stoodInHeld t = false ∧ P.eqGuardType P.depth t = false) : TypeOk P t ti:=by
 refine ⟨h1,?_,h4,h5⟩
 cases hi : P.info? t with
 | none=>rw [hi] at h2; cases h2
 | some i =>
  rw [hi] at h2
  simp only [Option.map_some,Option.some.injEq,Prod.mk.injEq] at h2
  exact ⟨i,z,rfl,h2.2.1,h2.2.2,h2.1,h3.1,h3.2⟩
def T (t : TypeId) : Option TI:=match t with
 | 2=>some ⟨.int .i64,1,8,[.int .i64 0],false,false⟩
 | 3=>some ⟨.int .i64,1,8,[.int .i64 0],false,false⟩
 | 4=>some ⟨.bool,1,1,[.bool false],false,false⟩
 | 5=>some ⟨.int .u8,1,1,[.int .u8 0],false,false⟩
 | 9=>some ⟨.string,1,16,[.str .empty],false,false⟩
 | 12=>some ⟨.int .u64,1,8,[.int .u64 0],false,false⟩
 | 21=>some ⟨.int .i32,1,4,[.int .i32 0],false,false⟩
 | 22=>some ⟨.pointer 69,1,8,[.pnil],false,false⟩
 | 23=>some ⟨.int .i64,1,8,[.int .i64 0],false,false⟩
 | 26=>some ⟨.pointer 74,1,8,[.pnil],false,false⟩
 | 33=>some ⟨.slice 3,1,24,[.sl 0 1 []],false,false⟩
 | 35=>some ⟨.slice 41,1,24,[.sl 0 1 []],false,false⟩
 | 39=>some ⟨.slice 56,1,24,[.sl 0 1 []],false,false⟩
 | 40 => some ⟨.struct #[⟨ "Kind", 3, 0, false, "", "", 0⟩, ⟨ "From", 3, 1, false, "", "", 8⟩, ⟨ "To", 3, 2, false, "", "", 16⟩, ⟨ "Term", 3, 3, false, "", "", 24⟩, ⟨ "Index", 3, 4, false, "", "", 32⟩, ⟨ "PrevTerm", 3, 5, false, "", "", 40⟩, ⟨ "Commit", 3, 6, false, "", "", 48⟩, ⟨ "OK", 4, 7, false, "", "", 56⟩, ⟨ "Entries", 39, 8, false, "", "", 64⟩], 9, 88, [.int .i64 0, .int .i64 0, .int .i64 0, .int .i64 0, .int .i64 0, .int .i64 0, .int .i64 0, .bool false, .sl 0 1 []], true, false⟩
 | 41 => some ⟨.struct #[⟨ "Kind", 3, 0, false, "", "", 0⟩, ⟨ "From", 3, 1, false, "", "", 8⟩, ⟨ "To", 3, 2, false, "", "", 16⟩, ⟨ "Term", 3, 3, false, "", "", 24⟩, ⟨ "Index", 3, 4, false, "", "", 32⟩, ⟨ "PrevTerm", 3, 5, false, "", "", 40⟩, ⟨ "Commit", 3, 6, false, "", "", 48⟩, ⟨ "OK", 4, 7, false, "", "", 56⟩, ⟨ "Entries", 39, 8, false, "", "", 64⟩], 9, 88, [.int .i64 0, .int .i64 0, .int .i64 0, .int .i64 0, .int .i64 0, .int .i64 0, .int .i64 0, .bool false, .sl 0 1 []], true, false⟩
 | 42=>some ⟨.int .u64,1,8,[.int .u64 0],false,false⟩
 | 44=>some ⟨.slice 48,1,24,[.sl 0 1 []],false,false⟩
 | 47 => some ⟨.struct #[⟨ "Which", 3, 0, false, "", "", 0⟩, ⟨ "A", 3, 1, false, "", "", 8⟩, ⟨ "B", 3, 2, false, "", "", 16⟩, ⟨ "M", 41, 3, false, "", "", 24⟩], 12, 112, [.int .i64 0, .int .i64 0, .int .i64 0, .int .i64 0, .int .i64 0, .int .i64 0, .int .i64 0, .int .i64 0, .int .i64 0, .int .i64 0, .bool false, .sl 0 1 []], true, false⟩
 | 48 => some ⟨.struct #[⟨ "Which", 3, 0, false, "", "", 0⟩, ⟨ "A", 3, 1, false, "", "", 8⟩, ⟨ "B", 3, 2, false, "", "", 16⟩, ⟨ "M", 41, 3, false, "", "", 24⟩], 12, 112, [.int .i64 0, .int .i64 0, .int .i64 0, .int .i64 0, .int .i64 0, .int .i64 0, .int .i64 0, .int .i64 0, .int .i64 0, .int .i64 0, .bool false, .sl 0 1 []], true, false⟩
 | 52 => some ⟨.struct #[⟨ "Kind", 3, 0, false, "", "", 0⟩, ⟨ "Tick", 3, 1, false, "", "", 8⟩, ⟨ "Tenant", 3, 2, false, "", "", 16⟩, ⟨ "Cell", 3, 3, false, "", "", 24⟩, ⟨ "Other", 3, 4, false, "", "", 32⟩, ⟨ "Epoch", 3, 5, false, "", "", 40⟩, ⟨ "From", 3, 6, false, "", "", 48⟩, ⟨ "Until", 3, 7, false, "", "", 56⟩, ⟨ "N", 3, 8, false, "", "", 64⟩], 9, 72, [.int .i64 0, .int .i64 0, .int .i64 0, .int .i64 0, .int .i64 0, .int .i64 0, .int .i64 0, .int .i64 0, .int .i64 0], true, true⟩
 | 53 => some ⟨.struct #[⟨ "Kind", 3, 0, false, "", "", 0⟩, ⟨ "Tick", 3, 1, false, "", "", 8⟩, ⟨ "Tenant", 3, 2, false, "", "", 16⟩, ⟨ "Cell", 3, 3, false, "", "", 24⟩, ⟨ "Other", 3, 4, false, "", "", 32⟩, ⟨ "Epoch", 3, 5, false, "", "", 40⟩, ⟨ "From", 3, 6, false, "", "", 48⟩, ⟨ "Until", 3, 7, false, "", "", 56⟩, ⟨ "N", 3, 8, false, "", "", 64⟩], 9, 72, [.int .i64 0, .int .i64 0, .int .i64 0, .int .i64 0, .int .i64 0, .int .i64 0, .int .i64 0, .int .i64 0, .int .i64 0], true, true⟩
 | 55 => some ⟨.struct #[⟨ "Term", 3, 0, false, "", "", 0⟩, ⟨ "Entry", 53, 1, false, "", "", 8⟩], 10, 80, [.int .i64 0, .int .i64 0, .int .i64 0, .int .i64 0, .int .i64 0, .int .i64 0, .int .i64 0, .int .i64 0, .int .i64 0, .int .i64 0], true, true⟩
 | 56 => some ⟨.struct #[⟨ "Term", 3, 0, false, "", "", 0⟩, ⟨ "Entry", 53, 1, false, "", "", 8⟩], 10, 80, [.int .i64 0, .int .i64 0, .int .i64 0, .int .i64 0, .int .i64 0, .int .i64 0, .int .i64 0, .int .i64 0, .int .i64 0, .int .i64 0], true, true⟩
 | 61=>some ⟨.pointer 99,1,8,[.pnil],false,false⟩
 | 63 => some ⟨.struct #[⟨ "Journal", 61, 0, true, "", "", 0⟩], 1, 8, [.pnil], true, false⟩
 | 64 => some ⟨.struct #[⟨ "Journal", 61, 0, true, "", "", 0⟩], 1, 8, [.pnil], true, false⟩
 | 65 => some ⟨.struct #[⟨ "next", 3, 0, false, "", "cellplane/replica", 0⟩, ⟨ "match", 3, 1, false, "", "cellplane/replica", 8⟩], 2, 16, [.int .i64 0, .int .i64 0], true, true⟩
 | 66 => some ⟨.struct #[⟨ "next", 3, 0, false, "", "cellplane/replica", 0⟩, ⟨ "match", 3, 1, false, "", "cellplane/replica", 8⟩], 2, 16, [.int .i64 0, .int .i64 0], true, true⟩
 | 67=>some ⟨.array 5 66,10,80,[.int .i64 0,.int .i64 0,.int .i64 0,.int .i64 0,.int .i64 0,.int .i64 0,.int .i64 0,.int .i64 0,.int .i64 0,.int .i64 0],true,false⟩
 | 68 => some ⟨.struct #[⟨ "memory", 64, 0, false, "", "cellplane/replica", 0⟩, ⟨ "id", 3, 1, false, "", "cellplane/replica", 8⟩, ⟨ "n", 3, 2, false, "", "cellplane/replica", 16⟩, ⟨ "role", 3, 3, false, "", "cellplane/replica", 24⟩, ⟨ "commit", 3, 4, false, "", "cellplane/replica", 32⟩, ⟨ "votes", 3, 5, false, "", "cellplane/replica", 40⟩, ⟨ "progress", 67, 6, false, "", "cellplane/replica", 48⟩], 16, 128, [.pnil, .int .i64 0, .int .i64 0, .int .i64 0, .int .i64 0, .int .i64 0, .int .i64 0, .int .i64 0, .int .i64 0, .int .i64 0, .int .i64 0, .int .i64 0, .int .i64 0, .int .i64 0, .int .i64 0, .int .i64 0], true, false⟩
 | 69 => some ⟨.struct #[⟨ "memory", 64, 0, false, "", "cellplane/replica", 0⟩, ⟨ "id", 3, 1, false, "", "cellplane/replica", 8⟩, ⟨ "n", 3, 2, false, "", "cellplane/replica", 16⟩, ⟨ "role", 3, 3, false, "", "cellplane/replica", 24⟩, ⟨ "commit", 3, 4, false, "", "cellplane/replica", 32⟩, ⟨ "votes", 3, 5, false, "", "cellplane/replica", 40⟩, ⟨ "progress", 67, 6, false, "", "cellplane/replica", 48⟩], 16, 128, [.pnil, .int .i64 0, .int .i64 0, .int .i64 0, .int .i64 0, .int .i64 0, .int .i64 0, .int .i64 0, .int .i64 0, .int .i64 0, .int .i64 0, .int .i64 0, .int .i64 0, .int .i64 0, .int .i64 0, .int .i64 0], true, false⟩
 | 70=>some ⟨.pointer 79,1,8,[.pnil],false,false⟩
 | 72=>some ⟨.slice 4,1,24,[.sl 0 1 []],false,false⟩
 | 73 => some ⟨.struct #[⟨ "J", 70, 0, false, "", "", 0⟩, ⟨ "ID", 3, 1, false, "", "", 8⟩, ⟨ "N", 3, 2, false, "", "", 16⟩, ⟨ "Role", 3, 3, false, "", "", 24⟩, ⟨ "Commit", 3, 4, false, "", "", 32⟩, ⟨ "Votes", 72, 5, false, "", "", 40⟩, ⟨ "Next", 33, 6, false, "", "", 64⟩, ⟨ "Match", 33, 7, false, "", "", 88⟩], 8, 112, [.pnil, .int .i64 0, .int .i64 0, .int .i64 0, .int .i64 0, .sl 0 1 [], .sl 0 1 [], .sl 0 1 []], true, false⟩
 | 74 => some ⟨.struct #[⟨ "J", 70, 0, false, "", "", 0⟩, ⟨ "ID", 3, 1, false, "", "", 8⟩, ⟨ "N", 3, 2, false, "", "", 16⟩, ⟨ "Role", 3, 3, false, "", "", 24⟩, ⟨ "Commit", 3, 4, false, "", "", 32⟩, ⟨ "Votes", 72, 5, false, "", "", 40⟩, ⟨ "Next", 33, 6, false, "", "", 64⟩, ⟨ "Match", 33, 7, false, "", "", 88⟩], 8, 112, [.pnil, .int .i64 0, .int .i64 0, .int .i64 0, .int .i64 0, .sl 0 1 [], .sl 0 1 [], .sl 0 1 []], true, false⟩
 | 77=>some ⟨.pointer 117,1,8,[.pnil],false,false⟩
 | 78 => some ⟨.struct #[⟨ "D", 77, 0, false, "", "", 0⟩, ⟨ "Term", 3, 1, false, "", "", 8⟩, ⟨ "Vote", 3, 2, false, "", "", 16⟩, ⟨ "L", 39, 3, false, "", "", 24⟩], 4, 48, [.pnil, .int .i64 0, .int .i64 0, .sl 0 1 []], true, false⟩
 | 79 => some ⟨.struct #[⟨ "D", 77, 0, false, "", "", 0⟩, ⟨ "Term", 3, 1, false, "", "", 8⟩, ⟨ "Vote", 3, 2, false, "", "", 16⟩, ⟨ "L", 39, 3, false, "", "", 24⟩], 4, 48, [.pnil, .int .i64 0, .int .i64 0, .sl 0 1 []], true, false⟩
 | 91 => some ⟨.struct #[⟨ "term", 3, 0, false, "", "cellplane/journal", 0⟩, ⟨ "vote", 3, 1, false, "", "cellplane/journal", 8⟩, ⟨ "log", 39, 2, false, "", "cellplane/journal", 16⟩], 3, 40, [.int .i64 0, .int .i64 0, .sl 0 1 []], true, false⟩
 | 92 => some ⟨.struct #[⟨ "term", 3, 0, false, "", "cellplane/journal", 0⟩, ⟨ "vote", 3, 1, false, "", "cellplane/journal", 8⟩, ⟨ "log", 39, 2, false, "", "cellplane/journal", 16⟩], 3, 40, [.int .i64 0, .int .i64 0, .sl 0 1 []], true, false⟩
 | 94=>some ⟨.pointer 115,1,8,[.pnil],false,false⟩
 | 96 => some ⟨.struct #[⟨ "Disk", 94, 0, true, "", "", 0⟩], 1, 8, [.pnil], true, false⟩
 | 97 => some ⟨.struct #[⟨ "Disk", 94, 0, true, "", "", 0⟩], 1, 8, [.pnil], true, false⟩
 | 98 => some ⟨.struct #[⟨ "memory", 92, 0, true, "", "cellplane/journal", 0⟩, ⟨ "tape", 97, 3, false, "", "cellplane/journal", 40⟩], 4, 48, [.int .i64 0, .int .i64 0, .sl 0 1 [], .pnil], true, false⟩
 | 99 => some ⟨.struct #[⟨ "memory", 92, 0, true, "", "cellplane/journal", 0⟩, ⟨ "tape", 97, 3, false, "", "cellplane/journal", 40⟩], 4, 48, [.int .i64 0, .int .i64 0, .sl 0 1 [], .pnil], true, false⟩
 | 111=>some ⟨.pointer 66,1,8,[.pnil],false,false⟩
 | 113=>some ⟨.slice 5,1,24,[.sl 0 1 []],false,false⟩
 | 114 => some ⟨.struct #[⟨ "data", 113, 0, false, "", "cellplane/disk", 0⟩, ⟨ "durable", 3, 1, false, "", "cellplane/disk", 24⟩], 2, 32, [.sl 0 1 [], .int .i64 0], true, false⟩
 | 115 => some ⟨.struct #[⟨ "data", 113, 0, false, "", "cellplane/disk", 0⟩, ⟨ "durable", 3, 1, false, "", "cellplane/disk", 24⟩], 2, 32, [.sl 0 1 [], .int .i64 0], true, false⟩
 | 116 => some ⟨.struct #[⟨ "B", 113, 0, false, "", "", 0⟩, ⟨ "D", 3, 1, false, "", "", 24⟩], 2, 32, [.sl 0 1 [], .int .i64 0], true, false⟩
 | 117 => some ⟨.struct #[⟨ "B", 113, 0, false, "", "", 0⟩, ⟨ "D", 3, 1, false, "", "", 24⟩], 2, 32, [.sl 0 1 [], .int .i64 0], true, false⟩
 | 119 => some ⟨.struct #[⟨ "kind", 3, 0, false, "", "cellplane/journal", 0⟩, ⟨ "term", 3, 1, false, "", "cellplane/journal", 8⟩, ⟨ "n", 3, 2, false, "", "cellplane/journal", 16⟩, ⟨ "entry", 53, 3, false, "", "cellplane/journal", 24⟩], 12, 96, [.int .i64 0, .int .i64 0, .int .i64 0, .int .i64 0, .int .i64 0, .int .i64 0, .int .i64 0, .int .i64 0, .int .i64 0, .int .i64 0, .int .i64 0, .int .i64 0], true, true⟩
 | 120 => some ⟨.struct #[⟨ "kind", 3, 0, false, "", "cellplane/journal", 0⟩, ⟨ "term", 3, 1, false, "", "cellplane/journal", 8⟩, ⟨ "n", 3, 2, false, "", "cellplane/journal", 16⟩, ⟨ "entry", 53, 3, false, "", "cellplane/journal", 24⟩], 12, 96, [.int .i64 0, .int .i64 0, .int .i64 0, .int .i64 0, .int .i64 0, .int .i64 0, .int .i64 0, .int .i64 0, .int .i64 0, .int .i64 0, .int .i64 0, .int .i64 0], true, true⟩
 | 122=>some ⟨.int .u32,1,4,[.int .u32 0],false,false⟩
 | 124=>some ⟨.int .u64,1,8,[.int .u64 0],false,false⟩
 | 130=>some ⟨.slice 113,1,24,[.sl 0 1 []],false,false⟩
 | 140 => some ⟨.struct #[⟨ "tenants", 3, 0, false, "", "cellplane/entry", 0⟩, ⟨ "cells", 3, 1, false, "", "cellplane/entry", 8⟩, ⟨ "regions", 3, 2, false, "", "cellplane/entry", 16⟩, ⟨ "versions", 3, 3, false, "", "cellplane/entry", 24⟩], 4, 32, [.int .i64 0, .int .i64 0, .int .i64 0, .int .i64 0], true, true⟩
 | 141 => some ⟨.struct #[⟨ "tenants", 3, 0, false, "", "cellplane/entry", 0⟩, ⟨ "cells", 3, 1, false, "", "cellplane/entry", 8⟩, ⟨ "regions", 3, 2, false, "", "cellplane/entry", 16⟩, ⟨ "versions", 3, 3, false, "", "cellplane/entry", 24⟩], 4, 32, [.int .i64 0, .int .i64 0, .int .i64 0, .int .i64 0], true, true⟩
 | 153=>some ⟨.pointer 92,1,8,[.pnil],false,false⟩
 | 154 => some ⟨.struct #[⟨ "low", 3, 0, false, "", "cellplane/entry", 0⟩, ⟨ "high", 3, 1, false, "", "cellplane/entry", 8⟩], 2, 16, [.int .i64 0, .int .i64 0], true, true⟩
 | 155 => some ⟨.struct #[⟨ "low", 3, 0, false, "", "cellplane/entry", 0⟩, ⟨ "high", 3, 1, false, "", "cellplane/entry", 8⟩], 2, 16, [.int .i64 0, .int .i64 0], true, true⟩
 | 156 => some ⟨.struct #[⟨ "tenant", 155, 0, false, "", "cellplane/entry", 0⟩, ⟨ "cell", 155, 2, false, "", "cellplane/entry", 16⟩, ⟨ "other", 155, 4, false, "", "cellplane/entry", 32⟩, ⟨ "epoch", 155, 6, false, "", "cellplane/entry", 48⟩, ⟨ "from", 155, 8, false, "", "cellplane/entry", 64⟩, ⟨ "until", 155, 10, false, "", "cellplane/entry", 80⟩, ⟨ "n", 155, 12, false, "", "cellplane/entry", 96⟩], 14, 112, [.int .i64 0, .int .i64 0, .int .i64 0, .int .i64 0, .int .i64 0, .int .i64 0, .int .i64 0, .int .i64 0, .int .i64 0, .int .i64 0, .int .i64 0, .int .i64 0, .int .i64 0, .int .i64 0], true, true⟩
 | 157 => some ⟨.struct #[⟨ "tenant", 155, 0, false, "", "cellplane/entry", 0⟩, ⟨ "cell", 155, 2, false, "", "cellplane/entry", 16⟩, ⟨ "other", 155, 4, false, "", "cellplane/entry", 32⟩, ⟨ "epoch", 155, 6, false, "", "cellplane/entry", 48⟩, ⟨ "from", 155, 8, false, "", "cellplane/entry", 64⟩, ⟨ "until", 155, 10, false, "", "cellplane/entry", 80⟩, ⟨ "n", 155, 12, false, "", "cellplane/entry", 96⟩], 14, 112, [.int .i64 0, .int .i64 0, .int .i64 0, .int .i64 0, .int .i64 0, .int .i64 0, .int .i64 0, .int .i64 0, .int .i64 0, .int .i64 0, .int .i64 0, .int .i64 0, .int .i64 0, .int .i64 0], true, true⟩
 | 165=>some ⟨.array 9 3,9,72,[.int .i64 0,.int .i64 0,.int .i64 0,.int .i64 0,.int .i64 0,.int .i64 0,.int .i64 0,.int .i64 0,.int .i64 0],true,false⟩
 | 171=>some ⟨.int .i64,1,8,[.int .i64 0],false,false⟩
 | 184=>some ⟨.pointer 3,1,8,[.pnil],false,false⟩
 | 186=>some ⟨.pointer 53,1,8,[.pnil],false,false⟩
 | 188=>some ⟨.int .u64,1,8,[.int .u64 0],false,false⟩
 | 193=>some ⟨.array 9 184,9,72,[.pnil,.pnil,.pnil,.pnil,.pnil,.pnil,.pnil,.pnil,.pnil],true,false⟩
 | 195=>some ⟨.slice 184,1,24,[.sl 0 1 []],false,false⟩
 | 197=>some ⟨.pointer 188,1,8,[.pnil],false,false⟩
 | 200=>some ⟨.slice 9,1,24,[.sl 0 1 []],false,false⟩
 | 210=>some ⟨.pointer 5,1,8,[.pnil],false,false⟩
 | _=>none
def OkA (t : TypeId) : Prop:=∃ ti,T t = some ti ∧ TypeOk Tryz.prog t ti
theorem OkA.get {t : TypeId} {ti : TI} (h : OkA t) (e : T t = some ti) : TypeOk Tryz.prog t ti:=by
 obtain ⟨u,h1,h2⟩:=h
 rw [e] at h1; cases h1; exact h2
theorem zaA {t : TypeId} {ti : TI} (h0 : T t = some ti) (z : Value) (h1 : Tryz.prog.underlying t = some ti.desc) (h2 : (Tryz.prog.info? t).map (fun i=>(i.zero,i.size,i.bytes)) = some (some z,ti.size,ti.bytes)) (h3 : z.cells.size = ti.size ∧ z.cells.toList.map ofCell = ti.zero)
 (h4 : ti.agg = (match ti.desc with | .struct _ | .array _ _=>true | _=>false)) (h5 : ti.eqc = true → Tryz.prog.stoodInHeld t = false ∧ Tryz.prog.eqGuardType Tryz.prog.depth t = false) : OkA t:=⟨ti,h0,zvD z h1 h2 h3 h4 h5⟩
theorem okT_2 : OkA 2:=zaA rfl (.int .i64 0) (by kernel_rfl) (by kernel_rfl) ⟨rfl,rfl⟩ rfl (fun h=>by cases h)
theorem okT_3 : OkA 3:=zaA rfl (.int .i64 0) (by kernel_rfl) (by kernel_rfl) ⟨rfl,rfl⟩ rfl (fun h=>by cases h)
theorem okT_4 : OkA 4:=zaA rfl (.bool false) (by kernel_rfl) (by kernel_rfl) ⟨rfl,rfl⟩ rfl (fun h=>by cases h)
theorem okT_5 : OkA 5:=zaA rfl (.int .u8 0) (by kernel_rfl) (by kernel_rfl) ⟨rfl,rfl⟩ rfl (fun h=>by cases h)
theorem okT_9 : OkA 9:=zaA rfl (.string .empty) (by kernel_rfl) (by kernel_rfl) ⟨rfl,rfl⟩ rfl (fun h=>by cases h)
theorem okT_12 : OkA 12:=zaA rfl (.int .u64 0) (by kernel_rfl) (by kernel_rfl) ⟨rfl,rfl⟩ rfl (fun h=>by cases h)
theorem okT_21 : OkA 21:=zaA rfl (.int .i32 0) (by kernel_rfl) (by kernel_rfl) ⟨rfl,rfl⟩ rfl (fun h=>by cases h)
theorem okT_22 : OkA 22:=zaA rfl (.pointer none) (by kernel_rfl) (by kernel_rfl) ⟨rfl,rfl⟩ rfl (fun h=>by cases h)
theorem okT_23 : OkA 23:=zaA rfl (.int .i64 0) (by kernel_rfl) (by kernel_rfl) ⟨rfl,rfl⟩ rfl (fun h=>by cases h)
theorem okT_26 : OkA 26:=zaA rfl (.pointer none) (by kernel_rfl) (by kernel_rfl) ⟨rfl,rfl⟩ rfl (fun h=>by cases h)
theorem okT_33 : OkA 33:=zaA rfl (.slice none 0 0) (by kernel_rfl) (by kernel_rfl) ⟨rfl,rfl⟩ rfl (fun h=>by cases h)
theorem okT_35 : OkA 35:=zaA rfl (.slice none 0 0) (by kernel_rfl) (by kernel_rfl) ⟨rfl,rfl⟩ rfl (fun h=>by cases h)
theorem okT_39 : OkA 39:=zaA rfl (.slice none 0 0) (by kernel_rfl) (by kernel_rfl) ⟨rfl,rfl⟩ rfl (fun h=>by cases h)
theorem okT_40 : OkA 40:=zaA rfl (.agg #[.int .i64 0,.int .i64 0,.int .i64 0,.int .i64 0,.int .i64 0,.int .i64 0,.int .i64 0,.bool false,.slice none 0 0]) (by kernel_rfl) (by kernel_rfl) ⟨rfl,rfl⟩ rfl (fun h=>by cases h)
theorem okT_41 : OkA 41:=zaA rfl (.agg #[.int .i64 0,.int .i64 0,.int .i64 0,.int .i64 0,.int .i64 0,.int .i64 0,.int .i64 0,.bool false,.slice none 0 0]) (by kernel_rfl) (by kernel_rfl) ⟨rfl,rfl⟩ rfl (fun h=>by cases h)
theorem okT_42 : OkA 42:=zaA rfl (.int .u64 0) (by kernel_rfl) (by kernel_rfl) ⟨rfl,rfl⟩ rfl (fun h=>by cases h)
theorem okT_44 : OkA 44:=zaA rfl (.slice none 0 0) (by kernel_rfl) (by kernel_rfl) ⟨rfl,rfl⟩ rfl (fun h=>by cases h)
theorem okT_47 : OkA 47:=zaA rfl (.agg #[.int .i64 0,.int .i64 0,.int .i64 0,.int .i64 0,.int .i64 0,.int .i64 0,.int .i64 0,.int .i64 0,.int .i64 0,.int .i64 0,.bool false,.slice none 0 0]) (by kernel_rfl) (by kernel_rfl) ⟨rfl,rfl⟩ rfl (fun h=>by cases h)
theorem okT_48 : OkA 48:=zaA rfl (.agg #[.int .i64 0,.int .i64 0,.int .i64 0,.int .i64 0,.int .i64 0,.int .i64 0,.int .i64 0,.int .i64 0,.int .i64 0,.int .i64 0,.bool false,.slice none 0 0]) (by kernel_rfl) (by kernel_rfl) ⟨rfl,rfl⟩ rfl (fun h=>by cases h)
theorem okT_52 : OkA 52:=zaA rfl (.agg #[.int .i64 0,.int .i64 0,.int .i64 0,.int .i64 0,.int .i64 0,.int .i64 0,.int .i64 0,.int .i64 0,.int .i64 0]) (by kernel_rfl) (by kernel_rfl) ⟨rfl,rfl⟩ rfl (fun _=>⟨by kernel_rfl,by kernel_rfl⟩)
theorem okT_53 : OkA 53:=zaA rfl (.agg #[.int .i64 0,.int .i64 0,.int .i64 0,.int .i64 0,.int .i64 0,.int .i64 0,.int .i64 0,.int .i64 0,.int .i64 0]) (by kernel_rfl) (by kernel_rfl) ⟨rfl,rfl⟩ rfl (fun _=>⟨by kernel_rfl,by kernel_rfl⟩)
theorem okT_55 : OkA 55:=zaA rfl (.agg #[.int .i64 0,.int .i64 0,.int .i64 0,.int .i64 0,.int .i64 0,.int .i64 0,.int .i64 0,.int .i64 0,.int .i64 0,.int .i64 0]) (by kernel_rfl) (by kernel_rfl) ⟨rfl,rfl⟩ rfl (fun _=>⟨by kernel_rfl,by kernel_rfl⟩)
theorem okT_56 : OkA 56:=zaA rfl (.agg #[.int .i64 0,.int .i64 0,.int .i64 0,.int .i64 0,.int .i64 0,.int .i64 0,.int .i64 0,.int .i64 0,.int .i64 0,.int .i64 0]) (by kernel_rfl) (by kernel_rfl) ⟨rfl,rfl⟩ rfl (fun _=>⟨by kernel_rfl,by kernel_rfl⟩)
theorem okT_61 : OkA 61:=zaA rfl (.pointer none) (by kernel_rfl) (by kernel_rfl) ⟨rfl,rfl⟩ rfl (fun h=>by cases h)
theorem okT_63 : OkA 63:=zaA rfl (.agg #[.pointer none]) (by kernel_rfl) (by kernel_rfl) ⟨rfl,rfl⟩ rfl (fun h=>by cases h)
theorem okT_64 : OkA 64:=zaA rfl (.agg #[.pointer none]) (by kernel_rfl) (by kernel_rfl) ⟨rfl,rfl⟩ rfl (fun h=>by cases h)
theorem okT_65 : OkA 65:=zaA rfl (.agg #[.int .i64 0,.int .i64 0]) (by kernel_rfl) (by kernel_rfl) ⟨rfl,rfl⟩ rfl (fun _=>⟨by kernel_rfl,by kernel_rfl⟩)
theorem okT_66 : OkA 66:=zaA rfl (.agg #[.int .i64 0,.int .i64 0]) (by kernel_rfl) (by kernel_rfl) ⟨rfl,rfl⟩ rfl (fun _=>⟨by kernel_rfl,by kernel_rfl⟩)
theorem okT_67 : OkA 67:=zaA rfl (.agg #[.int .i64 0,.int .i64 0,.int .i64 0,.int .i64 0,.int .i64 0,.int .i64 0,.int .i64 0,.int .i64 0,.int .i64 0,.int .i64 0]) (by kernel_rfl) (by kernel_rfl) ⟨rfl,rfl⟩ rfl (fun h=>by cases h)
theorem okT_68 : OkA 68:=zaA rfl (.agg #[.pointer none,.int .i64 0,.int .i64 0,.int .i64 0,.int .i64 0,.int .i64 0,.int .i64 0,.int .i64 0,.int .i64 0,.int .i64 0,.int .i64 0,.int .i64 0,.int .i64 0,.int .i64 0,.int .i64 0,.int .i64 0]) (by kernel_rfl) (by kernel_rfl) ⟨rfl,rfl⟩ rfl (fun h=>by cases h)
theorem okT_69 : OkA 69:=zaA rfl (.agg #[.pointer none,.int .i64 0,.int .i64 0,.int .i64 0,.int .i64 0,.int .i64 0,.int .i64 0,.int .i64 0,.int .i64 0,.int .i64 0,.int .i64 0,.int .i64 0,.int .i64 0,.int .i64 0,.int .i64 0,.int .i64 0]) (by kernel_rfl) (by kernel_rfl) ⟨rfl,rfl⟩ rfl (fun h=>by cases h)
theorem okT_70 : OkA 70:=zaA rfl (.pointer none) (by kernel_rfl) (by kernel_rfl) ⟨rfl,rfl⟩ rfl (fun h=>by cases h)
theorem okT_72 : OkA 72:=zaA rfl (.slice none 0 0) (by kernel_rfl) (by kernel_rfl) ⟨rfl,rfl⟩ rfl (fun h=>by cases h)
theorem okT_73 : OkA 73:=zaA rfl (.agg #[.pointer none,.int .i64 0,.int .i64 0,.int .i64 0,.int .i64 0,.slice none 0 0,.slice none 0 0,.slice none 0 0]) (by kernel_rfl) (by kernel_rfl) ⟨rfl,rfl⟩ rfl (fun h=>by cases h)
theorem okT_74 : OkA 74:=zaA rfl (.agg #[.pointer none,.int .i64 0,.int .i64 0,.int .i64 0,.int .i64 0,.slice none 0 0,.slice none 0 0,.slice none 0 0]) (by kernel_rfl) (by kernel_rfl) ⟨rfl,rfl⟩ rfl (fun h=>by cases h)
theorem okT_77 : OkA 77:=zaA rfl (.pointer none) (by kernel_rfl) (by kernel_rfl) ⟨rfl,rfl⟩ rfl (fun h=>by cases h)
theorem okT_78 : OkA 78:=zaA rfl (.agg #[.pointer none,.int .i64 0,.int .i64 0,.slice none 0 0]) (by kernel_rfl) (by kernel_rfl) ⟨rfl,rfl⟩ rfl (fun h=>by cases h)
theorem okT_79 : OkA 79:=zaA rfl (.agg #[.pointer none,.int .i64 0,.int .i64 0,.slice none 0 0]) (by kernel_rfl) (by kernel_rfl) ⟨rfl,rfl⟩ rfl (fun h=>by cases h)
theorem okT_91 : OkA 91:=zaA rfl (.agg #[.int .i64 0,.int .i64 0,.slice none 0 0]) (by kernel_rfl) (by kernel_rfl) ⟨rfl,rfl⟩ rfl (fun h=>by cases h)
theorem okT_92 : OkA 92:=zaA rfl (.agg #[.int .i64 0,.int .i64 0,.slice none 0 0]) (by kernel_rfl) (by kernel_rfl) ⟨rfl,rfl⟩ rfl (fun h=>by cases h)
theorem okT_94 : OkA 94:=zaA rfl (.pointer none) (by kernel_rfl) (by kernel_rfl) ⟨rfl,rfl⟩ rfl (fun h=>by cases h)
theorem okT_96 : OkA 96:=zaA rfl (.agg #[.pointer none]) (by kernel_rfl) (by kernel_rfl) ⟨rfl,rfl⟩ rfl (fun h=>by cases h)
theorem okT_97 : OkA 97:=zaA rfl (.agg #[.pointer none]) (by kernel_rfl) (by kernel_rfl) ⟨rfl,rfl⟩ rfl (fun h=>by cases h)
theorem okT_98 : OkA 98:=zaA rfl (.agg #[.int .i64 0,.int .i64 0,.slice none 0 0,.pointer none]) (by kernel_rfl) (by kernel_rfl) ⟨rfl,rfl⟩ rfl (fun h=>by cases h)
theorem okT_99 : OkA 99:=zaA rfl (.agg #[.int .i64 0,.int .i64 0,.slice none 0 0,.pointer none]) (by kernel_rfl) (by kernel_rfl) ⟨rfl,rfl⟩ rfl (fun h=>by cases h)
theorem okT_111 : OkA 111:=zaA rfl (.pointer none) (by kernel_rfl) (by kernel_rfl) ⟨rfl,rfl⟩ rfl (fun h=>by cases h)
theorem okT_113 : OkA 113:=zaA rfl (.slice none 0 0) (by kernel_rfl) (by kernel_rfl) ⟨rfl,rfl⟩ rfl (fun h=>by cases h)
theorem okT_114 : OkA 114:=zaA rfl (.agg #[.slice none 0 0,.int .i64 0]) (by kernel_rfl) (by kernel_rfl) ⟨rfl,rfl⟩ rfl (fun h=>by cases h)
theorem okT_115 : OkA 115:=zaA rfl (.agg #[.slice none 0 0,.int .i64 0]) (by kernel_rfl) (by kernel_rfl) ⟨rfl,rfl⟩ rfl (fun h=>by cases h)
theorem okT_116 : OkA 116:=zaA rfl (.agg #[.slice none 0 0,.int .i64 0]) (by kernel_rfl) (by kernel_rfl) ⟨rfl,rfl⟩ rfl (fun h=>by cases h)
theorem okT_117 : OkA 117:=zaA rfl (.agg #[.slice none 0 0,.int .i64 0]) (by kernel_rfl) (by kernel_rfl) ⟨rfl,rfl⟩ rfl (fun h=>by cases h)
theorem okT_119 : OkA 119:=zaA rfl (.agg #[.int .i64 0,.int .i64 0,.int .i64 0,.int .i64 0,.int .i64 0,.int .i64 0,.int .i64 0,.int .i64 0,.int .i64 0,.int .i64 0,.int .i64 0,.int .i64 0]) (by kernel_rfl) (by kernel_rfl) ⟨rfl,rfl⟩ rfl (fun _=>⟨by kernel_rfl,by kernel_rfl⟩)
theorem okT_120 : OkA 120:=zaA rfl (.agg #[.int .i64 0,.int .i64 0,.int .i64 0,.int .i64 0,.int .i64 0,.int .i64 0,.int .i64 0,.int .i64 0,.int .i64 0,.int .i64 0,.int .i64 0,.int .i64 0]) (by kernel_rfl) (by kernel_rfl) ⟨rfl,rfl⟩ rfl (fun _=>⟨by kernel_rfl,by kernel_rfl⟩)
theorem okT_122 : OkA 122:=zaA rfl (.int .u32 0) (by kernel_rfl) (by kernel_rfl) ⟨rfl,rfl⟩ rfl (fun h=>by cases h)
theorem okT_124 : OkA 124:=zaA rfl (.int .u64 0) (by kernel_rfl) (by kernel_rfl) ⟨rfl,rfl⟩ rfl (fun h=>by cases h)
theorem okT_130 : OkA 130:=zaA rfl (.slice none 0 0) (by kernel_rfl) (by kernel_rfl) ⟨rfl,rfl⟩ rfl (fun h=>by cases h)
theorem okT_140 : OkA 140:=zaA rfl (.agg #[.int .i64 0,.int .i64 0,.int .i64 0,.int .i64 0]) (by kernel_rfl) (by kernel_rfl) ⟨rfl,rfl⟩ rfl (fun _=>⟨by kernel_rfl,by kernel_rfl⟩)
theorem okT_141 : OkA 141:=zaA rfl (.agg #[.int .i64 0,.int .i64 0,.int .i64 0,.int .i64 0]) (by kernel_rfl) (by kernel_rfl) ⟨rfl,rfl⟩ rfl (fun _=>⟨by kernel_rfl,by kernel_rfl⟩)
theorem okT_153 : OkA 153:=zaA rfl (.pointer none) (by kernel_rfl) (by kernel_rfl) ⟨rfl,rfl⟩ rfl (fun h=>by cases h)
theorem okT_154 : OkA 154:=zaA rfl (.agg #[.int .i64 0,.int .i64 0]) (by kernel_rfl) (by kernel_rfl) ⟨rfl,rfl⟩ rfl (fun _=>⟨by kernel_rfl,by kernel_rfl⟩)
theorem okT_155 : OkA 155:=zaA rfl (.agg #[.int .i64 0,.int .i64 0]) (by kernel_rfl) (by kernel_rfl) ⟨rfl,rfl⟩ rfl (fun _=>⟨by kernel_rfl,by kernel_rfl⟩)
theorem okT_156 : OkA 156:=zaA rfl (.agg #[.int .i64 0,.int .i64 0,.int .i64 0,.int .i64 0,.int .i64 0,.int .i64 0,.int .i64 0,.int .i64 0,.int .i64 0,.int .i64 0,.int .i64 0,.int .i64 0,.int .i64 0,.int .i64 0]) (by kernel_rfl) (by kernel_rfl) ⟨rfl,rfl⟩ rfl (fun _=>⟨by kernel_rfl,by kernel_rfl⟩)
theorem okT_157 : OkA 157:=zaA rfl (.agg #[.int .i64 0,.int .i64 0,.int .i64 0,.int .i64 0,.int .i64 0,.int .i64 0,.int .i64 0,.int .i64 0,.int .i64 0,.int .i64 0,.int .i64 0,.int .i64 0,.int .i64 0,.int .i64 0]) (by kernel_rfl) (by kernel_rfl) ⟨rfl,rfl⟩ rfl (fun _=>⟨by kernel_rfl,by kernel_rfl⟩)
theorem okT_165 : OkA 165:=zaA rfl (.agg #[.int .i64 0,.int .i64 0,.int .i64 0,.int .i64 0,.int .i64 0,.int .i64 0,.int .i64 0,.int .i64 0,.int .i64 0]) (by kernel_rfl) (by kernel_rfl) ⟨rfl,rfl⟩ rfl (fun h=>by cases h)
theorem okT_171 : OkA 171:=zaA rfl (.int .i64 0) (by kernel_rfl) (by kernel_rfl) ⟨rfl,rfl⟩ rfl (fun h=>by cases h)
theorem okT_184 : OkA 184:=zaA rfl (.pointer none) (by kernel_rfl) (by kernel_rfl) ⟨rfl,rfl⟩ rfl (fun h=>by cases h)
theorem okT_186 : OkA 186:=zaA rfl (.pointer none) (by kernel_rfl) (by kernel_rfl) ⟨rfl,rfl⟩ rfl (fun h=>by cases h)
theorem okT_188 : OkA 188:=zaA rfl (.int .u64 0) (by kernel_rfl) (by kernel_rfl) ⟨rfl,rfl⟩ rfl (fun h=>by cases h)
theorem okT_193 : OkA 193:=zaA rfl (.agg #[.pointer none,.pointer none,.pointer none,.pointer none,.pointer none,.pointer none,.pointer none,.pointer none,.pointer none]) (by kernel_rfl) (by kernel_rfl) ⟨rfl,rfl⟩ rfl (fun h=>by cases h)
theorem okT_195 : OkA 195:=zaA rfl (.slice none 0 0) (by kernel_rfl) (by kernel_rfl) ⟨rfl,rfl⟩ rfl (fun h=>by cases h)
theorem okT_197 : OkA 197:=zaA rfl (.pointer none) (by kernel_rfl) (by kernel_rfl) ⟨rfl,rfl⟩ rfl (fun h=>by cases h)
theorem okT_200 : OkA 200:=zaA rfl (.slice none 0 0) (by kernel_rfl) (by kernel_rfl) ⟨rfl,rfl⟩ rfl (fun h=>by cases h)
theorem okT_210 : OkA 210:=zaA rfl (.pointer none) (by kernel_rfl) (by kernel_rfl) ⟨rfl,rfl⟩ rfl (fun h=>by cases h)
theorem zac : zaJ Tryz.prog T:=by
 intro t ti h
 unfold T at h
 split at h
 ·cases h; exact okT_2.get rfl
 ·cases h; exact okT_3.get rfl
 ·cases h; exact okT_4.get rfl
 ·cases h; exact okT_5.get rfl
 ·cases h; exact okT_9.get rfl
 ·cases h; exact okT_12.get rfl
 ·cases h; exact okT_21.get rfl
 ·cases h; exact okT_22.get rfl
 ·cases h; exact okT_23.get rfl
 ·cases h; exact okT_26.get rfl
 ·cases h; exact okT_33.get rfl
 ·cases h; exact okT_35.get rfl
 ·cases h; exact okT_39.get rfl
 ·cases h; exact okT_40.get rfl
 ·cases h; exact okT_41.get rfl
 ·cases h; exact okT_42.get rfl
 ·cases h; exact okT_44.get rfl
 ·cases h; exact okT_47.get rfl
 ·cases h; exact okT_48.get rfl
 ·cases h; exact okT_52.get rfl
 ·cases h; exact okT_53.get rfl
 ·cases h; exact okT_55.get rfl
 ·cases h; exact okT_56.get rfl
 ·cases h; exact okT_61.get rfl
 ·cases h; exact okT_63.get rfl
 ·cases h; exact okT_64.get rfl
 ·cases h; exact okT_65.get rfl
 ·cases h; exact okT_66.get rfl
 ·cases h; exact okT_67.get rfl
 ·cases h; exact okT_68.get rfl
 ·cases h; exact okT_69.get rfl
 ·cases h; exact okT_70.get rfl
 ·cases h; exact okT_72.get rfl
 ·cases h; exact okT_73.get rfl
 ·cases h; exact okT_74.get rfl
 ·cases h; exact okT_77.get rfl
 ·cases h; exact okT_78.get rfl
 ·cases h; exact okT_79.get rfl
 ·cases h; exact okT_91.get rfl
 ·cases h; exact okT_92.get rfl
 ·cases h; exact okT_94.get rfl
 ·cases h; exact okT_96.get rfl
 ·cases h; exact okT_97.get rfl
 ·cases h; exact okT_98.get rfl
 ·cases h; exact okT_99.get rfl
 ·cases h; exact okT_111.get rfl
 ·cases h; exact okT_113.get rfl
 ·cases h; exact okT_114.get rfl
 ·cases h; exact okT_115.get rfl
 ·cases h; exact okT_116.get rfl
 ·cases h; exact okT_117.get rfl
 ·cases h; exact okT_119.get rfl
 ·cases h; exact okT_120.get rfl
 ·cases h; exact okT_122.get rfl
 ·cases h; exact okT_124.get rfl
 ·cases h; exact okT_130.get rfl
 ·cases h; exact okT_140.get rfl
 ·cases h; exact okT_141.get rfl
 ·cases h; exact okT_153.get rfl
 ·cases h; exact okT_154.get rfl
 ·cases h; exact okT_155.get rfl
 ·cases h; exact okT_156.get rfl
 ·cases h; exact okT_157.get rfl
 ·cases h; exact okT_165.get rfl
 ·cases h; exact okT_171.get rfl
 ·cases h; exact okT_184.get rfl
 ·cases h; exact okT_186.get rfl
 ·cases h; exact okT_188.get rfl
 ·cases h; exact okT_193.get rfl
 ·cases h; exact okT_195.get rfl
 ·cases h; exact okT_197.get rfl
 ·cases h; exact okT_200.get rfl
 ·cases h; exact okT_210.get rfl
 ·cases h
@[simp] theorem T_2 : T 2 = some ⟨.int .i64,1,8,[.int .i64 0],false,false⟩:=rfl
@[simp] theorem D_2 : zao T 2 = some (.int .i64):=rfl
@[simp] theorem S_2 : sizeT T 2 = some 1:=rfl
@[simp] theorem T_3 : T 3 = some ⟨.int .i64,1,8,[.int .i64 0],false,false⟩:=rfl
@[simp] theorem D_3 : zao T 3 = some (.int .i64):=rfl
@[simp] theorem S_3 : sizeT T 3 = some 1:=rfl
@[simp] theorem T_4 : T 4 = some ⟨.bool,1,1,[.bool false],false,false⟩:=rfl
@[simp] theorem D_4 : zao T 4 = some (.bool):=rfl
@[simp] theorem S_4 : sizeT T 4 = some 1:=rfl
@[simp] theorem T_5 : T 5 = some ⟨.int .u8,1,1,[.int .u8 0],false,false⟩:=rfl
@[simp] theorem D_5 : zao T 5 = some (.int .u8):=rfl
@[simp] theorem S_5 : sizeT T 5 = some 1:=rfl
@[simp] theorem T_9 : T 9 = some ⟨.string,1,16,[.str .empty],false,false⟩:=rfl
@[simp] theorem D_9 : zao T 9 = some (.string):=rfl
@[simp] theorem S_9 : sizeT T 9 = some 1:=rfl
@[simp] theorem T_12 : T 12 = some ⟨.int .u64,1,8,[.int .u64 0],false,false⟩:=rfl
@[simp] theorem D_12 : zao T 12 = some (.int .u64):=rfl
@[simp] theorem S_12 : sizeT T 12 = some 1:=rfl
@[simp] theorem T_21 : T 21 = some ⟨.int .i32,1,4,[.int .i32 0],false,false⟩:=rfl
@[simp] theorem D_21 : zao T 21 = some (.int .i32):=rfl
@[simp] theorem S_21 : sizeT T 21 = some 1:=rfl
@[simp] theorem T_22 : T 22 = some ⟨.pointer 69,1,8,[.pnil],false,false⟩:=rfl
@[simp] theorem D_22 : zao T 22 = some (.pointer 69):=rfl
@[simp] theorem S_22 : sizeT T 22 = some 1:=rfl
@[simp] theorem T_23 : T 23 = some ⟨.int .i64,1,8,[.int .i64 0],false,false⟩:=rfl
@[simp] theorem D_23 : zao T 23 = some (.int .i64):=rfl
@[simp] theorem S_23 : sizeT T 23 = some 1:=rfl
@[simp] theorem T_26 : T 26 = some ⟨.pointer 74,1,8,[.pnil],false,false⟩:=rfl
@[simp] theorem D_26 : zao T 26 = some (.pointer 74):=rfl
@[simp] theorem S_26 : sizeT T 26 = some 1:=rfl
@[simp] theorem T_33 : T 33 = some ⟨.slice 3,1,24,[.sl 0 1 []],false,false⟩:=rfl
@[simp] theorem D_33 : zao T 33 = some (.slice 3):=rfl
@[simp] theorem S_33 : sizeT T 33 = some 1:=rfl
@[simp] theorem T_35 : T 35 = some ⟨.slice 41,1,24,[.sl 0 1 []],false,false⟩:=rfl
@[simp] theorem D_35 : zao T 35 = some (.slice 41):=rfl
@[simp] theorem S_35 : sizeT T 35 = some 1:=rfl
@[simp] theorem T_39 : T 39 = some ⟨.slice 56,1,24,[.sl 0 1 []],false,false⟩:=rfl
@[simp] theorem D_39 : zao T 39 = some (.slice 56):=rfl
@[simp] theorem S_39 : sizeT T 39 = some 1:=rfl
@[simp] theorem T_40 : T 40 = some ⟨.struct #[⟨ "Kind", 3, 0, false, "", "", 0⟩, ⟨ "From", 3, 1, false, "", "", 8⟩, ⟨ "To", 3, 2, false, "", "", 16⟩, ⟨ "Term", 3, 3, false, "", "", 24⟩, ⟨ "Index", 3, 4, false, "", "", 32⟩, ⟨ "PrevTerm", 3, 5, false, "", "", 40⟩, ⟨ "Commit", 3, 6, false, "", "", 48⟩, ⟨ "OK", 4, 7, false, "", "", 56⟩, ⟨ "Entries", 39, 8, false, "", "", 64⟩], 9, 88, [.int .i64 0, .int .i64 0, .int .i64 0, .int .i64 0, .int .i64 0, .int .i64 0, .int .i64 0, .bool false, .sl 0 1 []], true, false⟩ := rfl
@[simp] theorem D_40 : zao T 40 = some (.struct #[⟨ "Kind", 3, 0, false, "", "", 0⟩, ⟨ "From", 3, 1, false, "", "", 8⟩, ⟨ "To", 3, 2, false, "", "", 16⟩, ⟨ "Term", 3, 3, false, "", "", 24⟩, ⟨ "Index", 3, 4, false, "", "", 32⟩, ⟨ "PrevTerm", 3, 5, false, "", "", 40⟩, ⟨ "Commit", 3, 6, false, "", "", 48⟩, ⟨ "OK", 4, 7, false, "", "", 56⟩, ⟨ "Entries", 39, 8, false, "", "", 64⟩]) := rfl
@[simp] theorem S_40 : sizeT T 40 = some 9:=rfl
@[simp] theorem T_41 : T 41 = some ⟨.struct #[⟨ "Kind", 3, 0, false, "", "", 0⟩, ⟨ "From", 3, 1, false, "", "", 8⟩, ⟨ "To", 3, 2, false, "", "", 16⟩, ⟨ "Term", 3, 3, false, "", "", 24⟩, ⟨ "Index", 3, 4, false, "", "", 32⟩, ⟨ "PrevTerm", 3, 5, false, "", "", 40⟩, ⟨ "Commit", 3, 6, false, "", "", 48⟩, ⟨ "OK", 4, 7, false, "", "", 56⟩, ⟨ "Entries", 39, 8, false, "", "", 64⟩], 9, 88, [.int .i64 0, .int .i64 0, .int .i64 0, .int .i64 0, .int .i64 0, .int .i64 0, .int .i64 0, .bool false, .sl 0 1 []], true, false⟩ := rfl
@[simp] theorem D_41 : zao T 41 = some (.struct #[⟨ "Kind", 3, 0, false, "", "", 0⟩, ⟨ "From", 3, 1, false, "", "", 8⟩, ⟨ "To", 3, 2, false, "", "", 16⟩, ⟨ "Term", 3, 3, false, "", "", 24⟩, ⟨ "Index", 3, 4, false, "", "", 32⟩, ⟨ "PrevTerm", 3, 5, false, "", "", 40⟩, ⟨ "Commit", 3, 6, false, "", "", 48⟩, ⟨ "OK", 4, 7, false, "", "", 56⟩, ⟨ "Entries", 39, 8, false, "", "", 64⟩]) := rfl
@[simp] theorem S_41 : sizeT T 41 = some 9:=rfl
@[simp] theorem T_42 : T 42 = some ⟨.int .u64,1,8,[.int .u64 0],false,false⟩:=rfl
@[simp] theorem D_42 : zao T 42 = some (.int .u64):=rfl
@[simp] theorem S_42 : sizeT T 42 = some 1:=rfl
@[simp] theorem T_44 : T 44 = some ⟨.slice 48,1,24,[.sl 0 1 []],false,false⟩:=rfl
@[simp] theorem D_44 : zao T 44 = some (.slice 48):=rfl
@[simp] theorem S_44 : sizeT T 44 = some 1:=rfl
@[simp] theorem T_47 : T 47 = some ⟨.struct #[⟨ "Which", 3, 0, false, "", "", 0⟩, ⟨ "A", 3, 1, false, "", "", 8⟩, ⟨ "B", 3, 2, false, "", "", 16⟩, ⟨ "M", 41, 3, false, "", "", 24⟩], 12, 112, [.int .i64 0, .int .i64 0, .int .i64 0, .int .i64 0, .int .i64 0, .int .i64 0, .int .i64 0, .int .i64 0, .int .i64 0, .int .i64 0, .bool false, .sl 0 1 []], true, false⟩ := rfl
@[simp] theorem D_47 : zao T 47 = some (.struct #[⟨ "Which", 3, 0, false, "", "", 0⟩, ⟨ "A", 3, 1, false, "", "", 8⟩, ⟨ "B", 3, 2, false, "", "", 16⟩, ⟨ "M", 41, 3, false, "", "", 24⟩]) := rfl
@[simp] theorem S_47 : sizeT T 47 = some 12:=rfl
@[simp] theorem T_48 : T 48 = some ⟨.struct #[⟨ "Which", 3, 0, false, "", "", 0⟩, ⟨ "A", 3, 1, false, "", "", 8⟩, ⟨ "B", 3, 2, false, "", "", 16⟩, ⟨ "M", 41, 3, false, "", "", 24⟩], 12, 112, [.int .i64 0, .int .i64 0, .int .i64 0, .int .i64 0, .int .i64 0, .int .i64 0, .int .i64 0, .int .i64 0, .int .i64 0, .int .i64 0, .bool false, .sl 0 1 []], true, false⟩ := rfl
@[simp] theorem D_48 : zao T 48 = some (.struct #[⟨ "Which", 3, 0, false, "", "", 0⟩, ⟨ "A", 3, 1, false, "", "", 8⟩, ⟨ "B", 3, 2, false, "", "", 16⟩, ⟨ "M", 41, 3, false, "", "", 24⟩]) := rfl
@[simp] theorem S_48 : sizeT T 48 = some 12:=rfl
@[simp] theorem T_52 : T 52 = some ⟨.struct #[⟨ "Kind", 3, 0, false, "", "", 0⟩, ⟨ "Tick", 3, 1, false, "", "", 8⟩, ⟨ "Tenant", 3, 2, false, "", "", 16⟩, ⟨ "Cell", 3, 3, false, "", "", 24⟩, ⟨ "Other", 3, 4, false, "", "", 32⟩, ⟨ "Epoch", 3, 5, false, "", "", 40⟩, ⟨ "From", 3, 6, false, "", "", 48⟩, ⟨ "Until", 3, 7, false, "", "", 56⟩, ⟨ "N", 3, 8, false, "", "", 64⟩], 9, 72, [.int .i64 0, .int .i64 0, .int .i64 0, .int .i64 0, .int .i64 0, .int .i64 0, .int .i64 0, .int .i64 0, .int .i64 0], true, true⟩ := rfl
@[simp] theorem D_52 : zao T 52 = some (.struct #[⟨ "Kind", 3, 0, false, "", "", 0⟩, ⟨ "Tick", 3, 1, false, "", "", 8⟩, ⟨ "Tenant", 3, 2, false, "", "", 16⟩, ⟨ "Cell", 3, 3, false, "", "", 24⟩, ⟨ "Other", 3, 4, false, "", "", 32⟩, ⟨ "Epoch", 3, 5, false, "", "", 40⟩, ⟨ "From", 3, 6, false, "", "", 48⟩, ⟨ "Until", 3, 7, false, "", "", 56⟩, ⟨ "N", 3, 8, false, "", "", 64⟩]) := rfl
@[simp] theorem S_52 : sizeT T 52 = some 9:=rfl
@[simp] theorem T_53 : T 53 = some ⟨.struct #[⟨ "Kind", 3, 0, false, "", "", 0⟩, ⟨ "Tick", 3, 1, false, "", "", 8⟩, ⟨ "Tenant", 3, 2, false, "", "", 16⟩, ⟨ "Cell", 3, 3, false, "", "", 24⟩, ⟨ "Other", 3, 4, false, "", "", 32⟩, ⟨ "Epoch", 3, 5, false, "", "", 40⟩, ⟨ "From", 3, 6, false, "", "", 48⟩, ⟨ "Until", 3, 7, false, "", "", 56⟩, ⟨ "N", 3, 8, false, "", "", 64⟩], 9, 72, [.int .i64 0, .int .i64 0, .int .i64 0, .int .i64 0, .int .i64 0, .int .i64 0, .int .i64 0, .int .i64 0, .int .i64 0], true, true⟩ := rfl
@[simp] theorem D_53 : zao T 53 = some (.struct #[⟨ "Kind", 3, 0, false, "", "", 0⟩, ⟨ "Tick", 3, 1, false, "", "", 8⟩, ⟨ "Tenant", 3, 2, false, "", "", 16⟩, ⟨ "Cell", 3, 3, false, "", "", 24⟩, ⟨ "Other", 3, 4, false, "", "", 32⟩, ⟨ "Epoch", 3, 5, false, "", "", 40⟩, ⟨ "From", 3, 6, false, "", "", 48⟩, ⟨ "Until", 3, 7, false, "", "", 56⟩, ⟨ "N", 3, 8, false, "", "", 64⟩]) := rfl
@[simp] theorem S_53 : sizeT T 53 = some 9:=rfl
@[simp] theorem T_55 : T 55 = some ⟨.struct #[⟨ "Term", 3, 0, false, "", "", 0⟩, ⟨ "Entry", 53, 1, false, "", "", 8⟩], 10, 80, [.int .i64 0, .int .i64 0, .int .i64 0, .int .i64 0, .int .i64 0, .int .i64 0, .int .i64 0, .int .i64 0, .int .i64 0, .int .i64 0], true, true⟩ := rfl
@[simp] theorem D_55 : zao T 55 = some (.struct #[⟨ "Term", 3, 0, false, "", "", 0⟩, ⟨ "Entry", 53, 1, false, "", "", 8⟩]) := rfl
@[simp] theorem S_55 : sizeT T 55 = some 10:=rfl
@[simp] theorem T_56 : T 56 = some ⟨.struct #[⟨ "Term", 3, 0, false, "", "", 0⟩, ⟨ "Entry", 53, 1, false, "", "", 8⟩], 10, 80, [.int .i64 0, .int .i64 0, .int .i64 0, .int .i64 0, .int .i64 0, .int .i64 0, .int .i64 0, .int .i64 0, .int .i64 0, .int .i64 0], true, true⟩ := rfl
@[simp] theorem D_56 : zao T 56 = some (.struct #[⟨ "Term", 3, 0, false, "", "", 0⟩, ⟨ "Entry", 53, 1, false, "", "", 8⟩]) := rfl
@[simp] theorem S_56 : sizeT T 56 = some 10:=rfl
@[simp] theorem T_61 : T 61 = some ⟨.pointer 99,1,8,[.pnil],false,false⟩:=rfl
@[simp] theorem D_61 : zao T 61 = some (.pointer 99):=rfl
@[simp] theorem S_61 : sizeT T 61 = some 1:=rfl
@[simp] theorem T_63 : T 63 = some ⟨.struct #[⟨ "Journal", 61, 0, true, "", "", 0⟩], 1, 8, [.pnil], true, false⟩ := rfl
@[simp] theorem D_63 : zao T 63 = some (.struct #[⟨ "Journal", 61, 0, true, "", "", 0⟩]) := rfl
@[simp] theorem S_63 : sizeT T 63 = some 1:=rfl
@[simp] theorem T_64 : T 64 = some ⟨.struct #[⟨ "Journal", 61, 0, true, "", "", 0⟩], 1, 8, [.pnil], true, false⟩ := rfl
@[simp] theorem D_64 : zao T 64 = some (.struct #[⟨ "Journal", 61, 0, true, "", "", 0⟩]) := rfl
@[simp] theorem S_64 : sizeT T 64 = some 1:=rfl
@[simp] theorem T_65 : T 65 = some ⟨.struct #[⟨ "next", 3, 0, false, "", "cellplane/replica", 0⟩, ⟨ "match", 3, 1, false, "", "cellplane/replica", 8⟩], 2, 16, [.int .i64 0, .int .i64 0], true, true⟩ := rfl
@[simp] theorem D_65 : zao T 65 = some (.struct #[⟨ "next", 3, 0, false, "", "cellplane/replica", 0⟩, ⟨ "match", 3, 1, false, "", "cellplane/replica", 8⟩]) := rfl
@[simp] theorem S_65 : sizeT T 65 = some 2:=rfl
@[simp] theorem T_66 : T 66 = some ⟨.struct #[⟨ "next", 3, 0, false, "", "cellplane/replica", 0⟩, ⟨ "match", 3, 1, false, "", "cellplane/replica", 8⟩], 2, 16, [.int .i64 0, .int .i64 0], true, true⟩ := rfl
@[simp] theorem D_66 : zao T 66 = some (.struct #[⟨ "next", 3, 0, false, "", "cellplane/replica", 0⟩, ⟨ "match", 3, 1, false, "", "cellplane/replica", 8⟩]) := rfl
@[simp] theorem S_66 : sizeT T 66 = some 2:=rfl
@[simp] theorem T_67 : T 67 = some ⟨.array 5 66,10,80,[.int .i64 0,.int .i64 0,.int .i64 0,.int .i64 0,.int .i64 0,.int .i64 0,.int .i64 0,.int .i64 0,.int .i64 0,.int .i64 0],true,false⟩:=rfl
@[simp] theorem D_67 : zao T 67 = some (.array 5 66):=rfl
@[simp] theorem S_67 : sizeT T 67 = some 10:=rfl
@[simp] theorem T_68 : T 68 = some ⟨.struct #[⟨ "memory", 64, 0, false, "", "cellplane/replica", 0⟩, ⟨ "id", 3, 1, false, "", "cellplane/replica", 8⟩, ⟨ "n", 3, 2, false, "", "cellplane/replica", 16⟩, ⟨ "role", 3, 3, false, "", "cellplane/replica", 24⟩, ⟨ "commit", 3, 4, false, "", "cellplane/replica", 32⟩, ⟨ "votes", 3, 5, false, "", "cellplane/replica", 40⟩, ⟨ "progress", 67, 6, false, "", "cellplane/replica", 48⟩], 16, 128, [.pnil, .int .i64 0, .int .i64 0, .int .i64 0, .int .i64 0, .int .i64 0, .int .i64 0, .int .i64 0, .int .i64 0, .int .i64 0, .int .i64 0, .int .i64 0, .int .i64 0, .int .i64 0, .int .i64 0, .int .i64 0], true, false⟩ := rfl
@[simp] theorem D_68 : zao T 68 = some (.struct #[⟨ "memory", 64, 0, false, "", "cellplane/replica", 0⟩, ⟨ "id", 3, 1, false, "", "cellplane/replica", 8⟩, ⟨ "n", 3, 2, false, "", "cellplane/replica", 16⟩, ⟨ "role", 3, 3, false, "", "cellplane/replica", 24⟩, ⟨ "commit", 3, 4, false, "", "cellplane/replica", 32⟩, ⟨ "votes", 3, 5, false, "", "cellplane/replica", 40⟩, ⟨ "progress", 67, 6, false, "", "cellplane/replica", 48⟩]) := rfl
@[simp] theorem S_68 : sizeT T 68 = some 16:=rfl
@[simp] theorem T_69 : T 69 = some ⟨.struct #[⟨ "memory", 64, 0, false, "", "cellplane/replica", 0⟩, ⟨ "id", 3, 1, false, "", "cellplane/replica", 8⟩, ⟨ "n", 3, 2, false, "", "cellplane/replica", 16⟩, ⟨ "role", 3, 3, false, "", "cellplane/replica", 24⟩, ⟨ "commit", 3, 4, false, "", "cellplane/replica", 32⟩, ⟨ "votes", 3, 5, false, "", "cellplane/replica", 40⟩, ⟨ "progress", 67, 6, false, "", "cellplane/replica", 48⟩], 16, 128, [.pnil, .int .i64 0, .int .i64 0, .int .i64 0, .int .i64 0, .int .i64 0, .int .i64 0, .int .i64 0, .int .i64 0, .int .i64 0, .int .i64 0, .int .i64 0, .int .i64 0, .int .i64 0, .int .i64 0, .int .i64 0], true, false⟩ := rfl
@[simp] theorem D_69 : zao T 69 = some (.struct #[⟨ "memory", 64, 0, false, "", "cellplane/replica", 0⟩, ⟨ "id", 3, 1, false, "", "cellplane/replica", 8⟩, ⟨ "n", 3, 2, false, "", "cellplane/replica", 16⟩, ⟨ "role", 3, 3, false, "", "cellplane/replica", 24⟩, ⟨ "commit", 3, 4, false, "", "cellplane/replica", 32⟩, ⟨ "votes", 3, 5, false, "", "cellplane/replica", 40⟩, ⟨ "progress", 67, 6, false, "", "cellplane/replica", 48⟩]) := rfl
@[simp] theorem S_69 : sizeT T 69 = some 16:=rfl
@[simp] theorem T_70 : T 70 = some ⟨.pointer 79,1,8,[.pnil],false,false⟩:=rfl
@[simp] theorem D_70 : zao T 70 = some (.pointer 79):=rfl
@[simp] theorem S_70 : sizeT T 70 = some 1:=rfl
@[simp] theorem T_72 : T 72 = some ⟨.slice 4,1,24,[.sl 0 1 []],false,false⟩:=rfl
@[simp] theorem D_72 : zao T 72 = some (.slice 4):=rfl
@[simp] theorem S_72 : sizeT T 72 = some 1:=rfl
@[simp] theorem T_73 : T 73 = some ⟨.struct #[⟨ "J", 70, 0, false, "", "", 0⟩, ⟨ "ID", 3, 1, false, "", "", 8⟩, ⟨ "N", 3, 2, false, "", "", 16⟩, ⟨ "Role", 3, 3, false, "", "", 24⟩, ⟨ "Commit", 3, 4, false, "", "", 32⟩, ⟨ "Votes", 72, 5, false, "", "", 40⟩, ⟨ "Next", 33, 6, false, "", "", 64⟩, ⟨ "Match", 33, 7, false, "", "", 88⟩], 8, 112, [.pnil, .int .i64 0, .int .i64 0, .int .i64 0, .int .i64 0, .sl 0 1 [], .sl 0 1 [], .sl 0 1 []], true, false⟩ := rfl
@[simp] theorem D_73 : zao T 73 = some (.struct #[⟨ "J", 70, 0, false, "", "", 0⟩, ⟨ "ID", 3, 1, false, "", "", 8⟩, ⟨ "N", 3, 2, false, "", "", 16⟩, ⟨ "Role", 3, 3, false, "", "", 24⟩, ⟨ "Commit", 3, 4, false, "", "", 32⟩, ⟨ "Votes", 72, 5, false, "", "", 40⟩, ⟨ "Next", 33, 6, false, "", "", 64⟩, ⟨ "Match", 33, 7, false, "", "", 88⟩]) := rfl
@[simp] theorem S_73 : sizeT T 73 = some 8:=rfl
@[simp] theorem T_74 : T 74 = some ⟨.struct #[⟨ "J", 70, 0, false, "", "", 0⟩, ⟨ "ID", 3, 1, false, "", "", 8⟩, ⟨ "N", 3, 2, false, "", "", 16⟩, ⟨ "Role", 3, 3, false, "", "", 24⟩, ⟨ "Commit", 3, 4, false, "", "", 32⟩, ⟨ "Votes", 72, 5, false, "", "", 40⟩, ⟨ "Next", 33, 6, false, "", "", 64⟩, ⟨ "Match", 33, 7, false, "", "", 88⟩], 8, 112, [.pnil, .int .i64 0, .int .i64 0, .int .i64 0, .int .i64 0, .sl 0 1 [], .sl 0 1 [], .sl 0 1 []], true, false⟩ := rfl
@[simp] theorem D_74 : zao T 74 = some (.struct #[⟨ "J", 70, 0, false, "", "", 0⟩, ⟨ "ID", 3, 1, false, "", "", 8⟩, ⟨ "N", 3, 2, false, "", "", 16⟩, ⟨ "Role", 3, 3, false, "", "", 24⟩, ⟨ "Commit", 3, 4, false, "", "", 32⟩, ⟨ "Votes", 72, 5, false, "", "", 40⟩, ⟨ "Next", 33, 6, false, "", "", 64⟩, ⟨ "Match", 33, 7, false, "", "", 88⟩]) := rfl
@[simp] theorem S_74 : sizeT T 74 = some 8:=rfl
@[simp] theorem T_77 : T 77 = some ⟨.pointer 117,1,8,[.pnil],false,false⟩:=rfl
@[simp] theorem D_77 : zao T 77 = some (.pointer 117):=rfl
@[simp] theorem S_77 : sizeT T 77 = some 1:=rfl
@[simp] theorem T_78 : T 78 = some ⟨.struct #[⟨ "D", 77, 0, false, "", "", 0⟩, ⟨ "Term", 3, 1, false, "", "", 8⟩, ⟨ "Vote", 3, 2, false, "", "", 16⟩, ⟨ "L", 39, 3, false, "", "", 24⟩], 4, 48, [.pnil, .int .i64 0, .int .i64 0, .sl 0 1 []], true, false⟩ := rfl
@[simp] theorem D_78 : zao T 78 = some (.struct #[⟨ "D", 77, 0, false, "", "", 0⟩, ⟨ "Term", 3, 1, false, "", "", 8⟩, ⟨ "Vote", 3, 2, false, "", "", 16⟩, ⟨ "L", 39, 3, false, "", "", 24⟩]) := rfl
@[simp] theorem S_78 : sizeT T 78 = some 4:=rfl
@[simp] theorem T_79 : T 79 = some ⟨.struct #[⟨ "D", 77, 0, false, "", "", 0⟩, ⟨ "Term", 3, 1, false, "", "", 8⟩, ⟨ "Vote", 3, 2, false, "", "", 16⟩, ⟨ "L", 39, 3, false, "", "", 24⟩], 4, 48, [.pnil, .int .i64 0, .int .i64 0, .sl 0 1 []], true, false⟩ := rfl
@[simp] theorem D_79 : zao T 79 = some (.struct #[⟨ "D", 77, 0, false, "", "", 0⟩, ⟨ "Term", 3, 1, false, "", "", 8⟩, ⟨ "Vote", 3, 2, false, "", "", 16⟩, ⟨ "L", 39, 3, false, "", "", 24⟩]) := rfl
@[simp] theorem S_79 : sizeT T 79 = some 4:=rfl
@[simp] theorem T_91 : T 91 = some ⟨.struct #[⟨ "term", 3, 0, false, "", "cellplane/journal", 0⟩, ⟨ "vote", 3, 1, false, "", "cellplane/journal", 8⟩, ⟨ "log", 39, 2, false, "", "cellplane/journal", 16⟩], 3, 40, [.int .i64 0, .int .i64 0, .sl 0 1 []], true, false⟩ := rfl
@[simp] theorem D_91 : zao T 91 = some (.struct #[⟨ "term", 3, 0, false, "", "cellplane/journal", 0⟩, ⟨ "vote", 3, 1, false, "", "cellplane/journal", 8⟩, ⟨ "log", 39, 2, false, "", "cellplane/journal", 16⟩]) := rfl
@[simp] theorem S_91 : sizeT T 91 = some 3:=rfl
@[simp] theorem T_92 : T 92 = some ⟨.struct #[⟨ "term", 3, 0, false, "", "cellplane/journal", 0⟩, ⟨ "vote", 3, 1, false, "", "cellplane/journal", 8⟩, ⟨ "log", 39, 2, false, "", "cellplane/journal", 16⟩], 3, 40, [.int .i64 0, .int .i64 0, .sl 0 1 []], true, false⟩ := rfl
@[simp] theorem D_92 : zao T 92 = some (.struct #[⟨ "term", 3, 0, false, "", "cellplane/journal", 0⟩, ⟨ "vote", 3, 1, false, "", "cellplane/journal", 8⟩, ⟨ "log", 39, 2, false, "", "cellplane/journal", 16⟩]) := rfl
@[simp] theorem S_92 : sizeT T 92 = some 3:=rfl
@[simp] theorem T_94 : T 94 = some ⟨.pointer 115,1,8,[.pnil],false,false⟩:=rfl
@[simp] theorem D_94 : zao T 94 = some (.pointer 115):=rfl
@[simp] theorem S_94 : sizeT T 94 = some 1:=rfl
@[simp] theorem T_96 : T 96 = some ⟨.struct #[⟨ "Disk", 94, 0, true, "", "", 0⟩], 1, 8, [.pnil], true, false⟩ := rfl
@[simp] theorem D_96 : zao T 96 = some (.struct #[⟨ "Disk", 94, 0, true, "", "", 0⟩]) := rfl
@[simp] theorem S_96 : sizeT T 96 = some 1:=rfl
@[simp] theorem T_97 : T 97 = some ⟨.struct #[⟨ "Disk", 94, 0, true, "", "", 0⟩], 1, 8, [.pnil], true, false⟩ := rfl
@[simp] theorem D_97 : zao T 97 = some (.struct #[⟨ "Disk", 94, 0, true, "", "", 0⟩]) := rfl
@[simp] theorem S_97 : sizeT T 97 = some 1:=rfl
@[simp] theorem T_98 : T 98 = some ⟨.struct #[⟨ "memory", 92, 0, true, "", "cellplane/journal", 0⟩, ⟨ "tape", 97, 3, false, "", "cellplane/journal", 40⟩], 4, 48, [.int .i64 0, .int .i64 0, .sl 0 1 [], .pnil], true, false⟩ := rfl
@[simp] theorem D_98 : zao T 98 = some (.struct #[⟨ "memory", 92, 0, true, "", "cellplane/journal", 0⟩, ⟨ "tape", 97, 3, false, "", "cellplane/journal", 40⟩]) := rfl
@[simp] theorem S_98 : sizeT T 98 = some 4:=rfl
@[simp] theorem T_99 : T 99 = some ⟨.struct #[⟨ "memory", 92, 0, true, "", "cellplane/journal", 0⟩, ⟨ "tape", 97, 3, false, "", "cellplane/journal", 40⟩], 4, 48, [.int .i64 0, .int .i64 0, .sl 0 1 [], .pnil], true, false⟩ := rfl
@[simp] theorem D_99 : zao T 99 = some (.struct #[⟨ "memory", 92, 0, true, "", "cellplane/journal", 0⟩, ⟨ "tape", 97, 3, false, "", "cellplane/journal", 40⟩]) := rfl
@[simp] theorem S_99 : sizeT T 99 = some 4:=rfl
@[simp] theorem T_111 : T 111 = some ⟨.pointer 66,1,8,[.pnil],false,false⟩:=rfl
@[simp] theorem D_111 : zao T 111 = some (.pointer 66):=rfl
@[simp] theorem S_111 : sizeT T 111 = some 1:=rfl
@[simp] theorem T_113 : T 113 = some ⟨.slice 5,1,24,[.sl 0 1 []],false,false⟩:=rfl
@[simp] theorem D_113 : zao T 113 = some (.slice 5):=rfl
@[simp] theorem S_113 : sizeT T 113 = some 1:=rfl
@[simp] theorem T_114 : T 114 = some ⟨.struct #[⟨ "data", 113, 0, false, "", "cellplane/disk", 0⟩, ⟨ "durable", 3, 1, false, "", "cellplane/disk", 24⟩], 2, 32, [.sl 0 1 [], .int .i64 0], true, false⟩ := rfl
@[simp] theorem D_114 : zao T 114 = some (.struct #[⟨ "data", 113, 0, false, "", "cellplane/disk", 0⟩, ⟨ "durable", 3, 1, false, "", "cellplane/disk", 24⟩]) := rfl
@[simp] theorem S_114 : sizeT T 114 = some 2:=rfl
@[simp] theorem T_115 : T 115 = some ⟨.struct #[⟨ "data", 113, 0, false, "", "cellplane/disk", 0⟩, ⟨ "durable", 3, 1, false, "", "cellplane/disk", 24⟩], 2, 32, [.sl 0 1 [], .int .i64 0], true, false⟩ := rfl
@[simp] theorem D_115 : zao T 115 = some (.struct #[⟨ "data", 113, 0, false, "", "cellplane/disk", 0⟩, ⟨ "durable", 3, 1, false, "", "cellplane/disk", 24⟩]) := rfl
@[simp] theorem S_115 : sizeT T 115 = some 2:=rfl
@[simp] theorem T_116 : T 116 = some ⟨.struct #[⟨ "B", 113, 0, false, "", "", 0⟩, ⟨ "D", 3, 1, false, "", "", 24⟩], 2, 32, [.sl 0 1 [], .int .i64 0], true, false⟩ := rfl
@[simp] theorem D_116 : zao T 116 = some (.struct #[⟨ "B", 113, 0, false, "", "", 0⟩, ⟨ "D", 3, 1, false, "", "", 24⟩]) := rfl
@[simp] theorem S_116 : sizeT T 116 = some 2:=rfl
@[simp] theorem T_117 : T 117 = some ⟨.struct #[⟨ "B", 113, 0, false, "", "", 0⟩, ⟨ "D", 3, 1, false, "", "", 24⟩], 2, 32, [.sl 0 1 [], .int .i64 0], true, false⟩ := rfl
@[simp] theorem D_117 : zao T 117 = some (.struct #[⟨ "B", 113, 0, false, "", "", 0⟩, ⟨ "D", 3, 1, false, "", "", 24⟩]) := rfl
@[simp] theorem S_117 : sizeT T 117 = some 2:=rfl
@[simp] theorem T_119 : T 119 = some ⟨.struct #[⟨ "kind", 3, 0, false, "", "cellplane/journal", 0⟩, ⟨ "term", 3, 1, false, "", "cellplane/journal", 8⟩, ⟨ "n", 3, 2, false, "", "cellplane/journal", 16⟩, ⟨ "entry", 53, 3, false, "", "cellplane/journal", 24⟩], 12, 96, [.int .i64 0, .int .i64 0, .int .i64 0, .int .i64 0, .int .i64 0, .int .i64 0, .int .i64 0, .int .i64 0, .int .i64 0, .int .i64 0, .int .i64 0, .int .i64 0], true, true⟩ := rfl
@[simp] theorem D_119 : zao T 119 = some (.struct #[⟨ "kind", 3, 0, false, "", "cellplane/journal", 0⟩, ⟨ "term", 3, 1, false, "", "cellplane/journal", 8⟩, ⟨ "n", 3, 2, false, "", "cellplane/journal", 16⟩, ⟨ "entry", 53, 3, false, "", "cellplane/journal", 24⟩]) := rfl
@[simp] theorem S_119 : sizeT T 119 = some 12:=rfl
@[simp] theorem T_120 : T 120 = some ⟨.struct #[⟨ "kind", 3, 0, false, "", "cellplane/journal", 0⟩, ⟨ "term", 3, 1, false, "", "cellplane/journal", 8⟩, ⟨ "n", 3, 2, false, "", "cellplane/journal", 16⟩, ⟨ "entry", 53, 3, false, "", "cellplane/journal", 24⟩], 12, 96, [.int .i64 0, .int .i64 0, .int .i64 0, .int .i64 0, .int .i64 0, .int .i64 0, .int .i64 0, .int .i64 0, .int .i64 0, .int .i64 0, .int .i64 0, .int .i64 0], true, true⟩ := rfl
@[simp] theorem D_120 : zao T 120 = some (.struct #[⟨ "kind", 3, 0, false, "", "cellplane/journal", 0⟩, ⟨ "term", 3, 1, false, "", "cellplane/journal", 8⟩, ⟨ "n", 3, 2, false, "", "cellplane/journal", 16⟩, ⟨ "entry", 53, 3, false, "", "cellplane/journal", 24⟩]) := rfl
@[simp] theorem S_120 : sizeT T 120 = some 12:=rfl
@[simp] theorem T_122 : T 122 = some ⟨.int .u32,1,4,[.int .u32 0],false,false⟩:=rfl
@[simp] theorem D_122 : zao T 122 = some (.int .u32):=rfl
@[simp] theorem S_122 : sizeT T 122 = some 1:=rfl
@[simp] theorem T_124 : T 124 = some ⟨.int .u64,1,8,[.int .u64 0],false,false⟩:=rfl
@[simp] theorem D_124 : zao T 124 = some (.int .u64):=rfl
@[simp] theorem S_124 : sizeT T 124 = some 1:=rfl
@[simp] theorem T_130 : T 130 = some ⟨.slice 113,1,24,[.sl 0 1 []],false,false⟩:=rfl
@[simp] theorem D_130 : zao T 130 = some (.slice 113):=rfl
@[simp] theorem S_130 : sizeT T 130 = some 1:=rfl
@[simp] theorem T_140 : T 140 = some ⟨.struct #[⟨ "tenants", 3, 0, false, "", "cellplane/entry", 0⟩, ⟨ "cells", 3, 1, false, "", "cellplane/entry", 8⟩, ⟨ "regions", 3, 2, false, "", "cellplane/entry", 16⟩, ⟨ "versions", 3, 3, false, "", "cellplane/entry", 24⟩], 4, 32, [.int .i64 0, .int .i64 0, .int .i64 0, .int .i64 0], true, true⟩ := rfl
@[simp] theorem D_140 : zao T 140 = some (.struct #[⟨ "tenants", 3, 0, false, "", "cellplane/entry", 0⟩, ⟨ "cells", 3, 1, false, "", "cellplane/entry", 8⟩, ⟨ "regions", 3, 2, false, "", "cellplane/entry", 16⟩, ⟨ "versions", 3, 3, false, "", "cellplane/entry", 24⟩]) := rfl
@[simp] theorem S_140 : sizeT T 140 = some 4:=rfl
@[simp] theorem T_141 : T 141 = some ⟨.struct #[⟨ "tenants", 3, 0, false, "", "cellplane/entry", 0⟩, ⟨ "cells", 3, 1, false, "", "cellplane/entry", 8⟩, ⟨ "regions", 3, 2, false, "", "cellplane/entry", 16⟩, ⟨ "versions", 3, 3, false, "", "cellplane/entry", 24⟩], 4, 32, [.int .i64 0, .int .i64 0, .int .i64 0, .int .i64 0], true, true⟩ := rfl
@[simp] theorem D_141 : zao T 141 = some (.struct #[⟨ "tenants", 3, 0, false, "", "cellplane/entry", 0⟩, ⟨ "cells", 3, 1, false, "", "cellplane/entry", 8⟩, ⟨ "regions", 3, 2, false, "", "cellplane/entry", 16⟩, ⟨ "versions", 3, 3, false, "", "cellplane/entry", 24⟩]) := rfl
@[simp] theorem S_141 : sizeT T 141 = some 4:=rfl
@[simp] theorem T_153 : T 153 = some ⟨.pointer 92,1,8,[.pnil],false,false⟩:=rfl
@[simp] theorem D_153 : zao T 153 = some (.pointer 92):=rfl
@[simp] theorem S_153 : sizeT T 153 = some 1:=rfl
@[simp] theorem T_154 : T 154 = some ⟨.struct #[⟨ "low", 3, 0, false, "", "cellplane/entry", 0⟩, ⟨ "high", 3, 1, false, "", "cellplane/entry", 8⟩], 2, 16, [.int .i64 0, .int .i64 0], true, true⟩ := rfl
@[simp] theorem D_154 : zao T 154 = some (.struct #[⟨ "low", 3, 0, false, "", "cellplane/entry", 0⟩, ⟨ "high", 3, 1, false, "", "cellplane/entry", 8⟩]) := rfl
@[simp] theorem S_154 : sizeT T 154 = some 2:=rfl
@[simp] theorem T_155 : T 155 = some ⟨.struct #[⟨ "low", 3, 0, false, "", "cellplane/entry", 0⟩, ⟨ "high", 3, 1, false, "", "cellplane/entry", 8⟩], 2, 16, [.int .i64 0, .int .i64 0], true, true⟩ := rfl
@[simp] theorem D_155 : zao T 155 = some (.struct #[⟨ "low", 3, 0, false, "", "cellplane/entry", 0⟩, ⟨ "high", 3, 1, false, "", "cellplane/entry", 8⟩]) := rfl
@[simp] theorem S_155 : sizeT T 155 = some 2:=rfl
@[simp] theorem T_156 : T 156 = some ⟨.struct #[⟨ "tenant", 155, 0, false, "", "cellplane/entry", 0⟩, ⟨ "cell", 155, 2, false, "", "cellplane/entry", 16⟩, ⟨ "other", 155, 4, false, "", "cellplane/entry", 32⟩, ⟨ "epoch", 155, 6, false, "", "cellplane/entry", 48⟩, ⟨ "from", 155, 8, false, "", "cellplane/entry", 64⟩, ⟨ "until", 155, 10, false, "", "cellplane/entry", 80⟩, ⟨ "n", 155, 12, false, "", "cellplane/entry", 96⟩], 14, 112, [.int .i64 0, .int .i64 0, .int .i64 0, .int .i64 0, .int .i64 0, .int .i64 0, .int .i64 0, .int .i64 0, .int .i64 0, .int .i64 0, .int .i64 0, .int .i64 0, .int .i64 0, .int .i64 0], true, true⟩ := rfl
@[simp] theorem D_156 : zao T 156 = some (.struct #[⟨ "tenant", 155, 0, false, "", "cellplane/entry", 0⟩, ⟨ "cell", 155, 2, false, "", "cellplane/entry", 16⟩, ⟨ "other", 155, 4, false, "", "cellplane/entry", 32⟩, ⟨ "epoch", 155, 6, false, "", "cellplane/entry", 48⟩, ⟨ "from", 155, 8, false, "", "cellplane/entry", 64⟩, ⟨ "until", 155, 10, false, "", "cellplane/entry", 80⟩, ⟨ "n", 155, 12, false, "", "cellplane/entry", 96⟩]) := rfl
@[simp] theorem S_156 : sizeT T 156 = some 14:=rfl
@[simp] theorem T_157 : T 157 = some ⟨.struct #[⟨ "tenant", 155, 0, false, "", "cellplane/entry", 0⟩, ⟨ "cell", 155, 2, false, "", "cellplane/entry", 16⟩, ⟨ "other", 155, 4, false, "", "cellplane/entry", 32⟩, ⟨ "epoch", 155, 6, false, "", "cellplane/entry", 48⟩, ⟨ "from", 155, 8, false, "", "cellplane/entry", 64⟩, ⟨ "until", 155, 10, false, "", "cellplane/entry", 80⟩, ⟨ "n", 155, 12, false, "", "cellplane/entry", 96⟩], 14, 112, [.int .i64 0, .int .i64 0, .int .i64 0, .int .i64 0, .int .i64 0, .int .i64 0, .int .i64 0, .int .i64 0, .int .i64 0, .int .i64 0, .int .i64 0, .int .i64 0, .int .i64 0, .int .i64 0], true, true⟩ := rfl
@[simp] theorem D_157 : zao T 157 = some (.struct #[⟨ "tenant", 155, 0, false, "", "cellplane/entry", 0⟩, ⟨ "cell", 155, 2, false, "", "cellplane/entry", 16⟩, ⟨ "other", 155, 4, false, "", "cellplane/entry", 32⟩, ⟨ "epoch", 155, 6, false, "", "cellplane/entry", 48⟩, ⟨ "from", 155, 8, false, "", "cellplane/entry", 64⟩, ⟨ "until", 155, 10, false, "", "cellplane/entry", 80⟩, ⟨ "n", 155, 12, false, "", "cellplane/entry", 96⟩]) := rfl
@[simp] theorem S_157 : sizeT T 157 = some 14:=rfl
@[simp] theorem T_165 : T 165 = some ⟨.array 9 3,9,72,[.int .i64 0,.int .i64 0,.int .i64 0,.int .i64 0,.int .i64 0,.int .i64 0,.int .i64 0,.int .i64 0,.int .i64 0],true,false⟩:=rfl
@[simp] theorem D_165 : zao T 165 = some (.array 9 3):=rfl
@[simp] theorem S_165 : sizeT T 165 = some 9:=rfl
@[simp] theorem T_171 : T 171 = some ⟨.int .i64,1,8,[.int .i64 0],false,false⟩:=rfl
@[simp] theorem D_171 : zao T 171 = some (.int .i64):=rfl
@[simp] theorem S_171 : sizeT T 171 = some 1:=rfl
@[simp] theorem T_184 : T 184 = some ⟨.pointer 3,1,8,[.pnil],false,false⟩:=rfl
@[simp] theorem D_184 : zao T 184 = some (.pointer 3):=rfl
@[simp] theorem S_184 : sizeT T 184 = some 1:=rfl
@[simp] theorem T_186 : T 186 = some ⟨.pointer 53,1,8,[.pnil],false,false⟩:=rfl
@[simp] theorem D_186 : zao T 186 = some (.pointer 53):=rfl
@[simp] theorem S_186 : sizeT T 186 = some 1:=rfl
@[simp] theorem T_188 : T 188 = some ⟨.int .u64,1,8,[.int .u64 0],false,false⟩:=rfl
@[simp] theorem D_188 : zao T 188 = some (.int .u64):=rfl
@[simp] theorem S_188 : sizeT T 188 = some 1:=rfl
@[simp] theorem T_193 : T 193 = some ⟨.array 9 184,9,72,[.pnil,.pnil,.pnil,.pnil,.pnil,.pnil,.pnil,.pnil,.pnil],true,false⟩:=rfl
@[simp] theorem D_193 : zao T 193 = some (.array 9 184):=rfl
@[simp] theorem S_193 : sizeT T 193 = some 9:=rfl
@[simp] theorem T_195 : T 195 = some ⟨.slice 184,1,24,[.sl 0 1 []],false,false⟩:=rfl
@[simp] theorem D_195 : zao T 195 = some (.slice 184):=rfl
@[simp] theorem S_195 : sizeT T 195 = some 1:=rfl
@[simp] theorem T_197 : T 197 = some ⟨.pointer 188,1,8,[.pnil],false,false⟩:=rfl
@[simp] theorem D_197 : zao T 197 = some (.pointer 188):=rfl
@[simp] theorem S_197 : sizeT T 197 = some 1:=rfl
@[simp] theorem T_200 : T 200 = some ⟨.slice 9,1,24,[.sl 0 1 []],false,false⟩:=rfl
@[simp] theorem D_200 : zao T 200 = some (.slice 9):=rfl
@[simp] theorem S_200 : sizeT T 200 = some 1:=rfl
@[simp] theorem T_210 : T 210 = some ⟨.pointer 5,1,8,[.pnil],false,false⟩:=rfl
@[simp] theorem D_210 : zao T 210 = some (.pointer 5):=rfl
@[simp] theorem S_210 : sizeT T 210 = some 1:=rfl
def C0 : FuncId → List V → List AObj → Option CRes:=fun _ _ _=>none
theorem C0_ok : zai Tryz.prog C0:=fun f ⟨_,_,_,h⟩=>by cases h
theorem follows : Tryz.prog.follows .mixedOrders = true:=by kernel_rfl
end Go.Proofs.YtcpdgbncekdicaaGreat

namespace Go.Lift
def In64 (n : Int) : Prop:=-9223372036854775808 ≤ n ∧ n ≤ 9223372036854775807
def InU64 (n : Int) : Prop:=0 ≤ n ∧ n ≤ 18446744073709551615
def zaC (l : List Bool) : List (List V):=l.map fun b=>[.bool b]
@[simp] theorem boolRow_length (l : List Bool) : (zaC l).length = l.length:=by simp [zaC]
@[simp] theorem boolRow_nil : zaC [] = []:=rfl
theorem zky (a b : List Bool) : zaC (a ++ b) = zaC a ++ zaC b:=by simp [zaC]
@[simp] theorem boolRow_append' (a b : List Bool) : zaC a ++ zaC b = zaC (a ++ b):=(zky a b).symm
@[simp] theorem boolRow_get (l : List Bool) (n : Nat) : (zaC l)[n]? = (l[n]?).map fun b=>[V.bool b]:=by simp [zaC]
@[simp] theorem boolRow_getElem (l : List Bool) (n : Nat) (h : n < (zaC l).length) : (zaC l)[n] = (fun b : Bool=>[V.bool b]) (l[n]'(by simpa using h)):=by simp [zaC]
@[simp] theorem boolRow_isEmpty (l : List Bool) : (zaC l).isEmpty = l.isEmpty:=by cases l <;> rfl
@[simp] theorem boolRow_take (l : List Bool) (n : Nat) : (zaC l).take n = zaC (l.take n):=by simp [zaC,List.map_take]
@[simp] theorem boolRow_drop (l : List Bool) (n : Nat) : (zaC l).drop n = zaC (l.drop n):=by simp [zaC,List.map_drop]
@[simp] theorem zkz : ∀ l : List Bool,zaL (zaC l) = true
 | []=>rfl
 | b :: l=>by
  have:=zkz l
  simp only [zaC,List.map_cons] at this ⊢
  simp [zaL,this,V.closed,V.closed.closedAll]
@[simp] theorem boolRow_fz (g : Nat → Option AObj) (F : List Nat) (l : List Bool) : (zaC l).map (·.map (fzV g F)) = zaC l:=by simp [zaC]
@[simp] theorem zkA : ∀ l : List Bool,zbd (zaC l) = true
 | []=>rfl
 | b :: l=>by
  have:=zkA l
  simp only [zaC,List.map_cons] at this ⊢
  simp [zbd,this]
theorem zjd : ∀ {a b : List Bool},zaC a = zaC b → a = b
 | [],[],_=>rfl
 | [],_ :: _,h=>by cases h
 | _ :: _,[],h=>by cases h
 | x :: a,y :: b,h=>by
  simp only [zaC,List.map_cons,List.cons.injEq] at h
  obtain ⟨h1,h2⟩:=h
  rw [zjd h2,show x = y by simpa using h1]
@[simp] theorem boolRow_eq {a b : List Bool} : zaC a = zaC b ↔ a = b:=⟨zjd,fun h=>by rw [h]⟩
@[simp] theorem zmg : ∀ l : List Int,zaL (zaF l) = true
 | []=>rfl
 | b :: l=>by
  have:=zmg l
  simp only [zaF,List.map_cons] at this ⊢
  simp [zaL,this,V.closed,V.closed.closedAll]
@[simp] theorem intRow_fz (g : Nat → Option AObj) (F : List Nat) (l : List Int) : (zaF l).map (·.map (fzV g F)) = zaF l:=by simp [zaF]
@[simp] theorem zkC : ∀ l : List UInt8,zaL (zae l) = true
 | []=>rfl
 | b :: l=>by
  have:=zkC l
  simp only [zae,List.map_cons] at this ⊢
  simp [zaL,this,V.closed,V.closed.closedAll]
@[simp] theorem byteRow_fz (g : Nat → Option AObj) (F : List Nat) (l : List UInt8) : (zae l).map (·.map (fzV g F)) = zae l:=by simp [zae]
structure GEntry where -- 53
 Kind : Int
 Tick : Int
 Tenant : Int
 Cell : Int
 Other : Int
 Epoch : Int
 From : Int
 Until : Int
 N : Int
 deriving DecidableEq
def GEntry.cells (x : GEntry) : List V:=[.int .i64 x.Kind,.int .i64 x.Tick,.int .i64 x.Tenant,.int .i64 x.Cell,.int .i64 x.Other,.int .i64 x.Epoch,.int .i64 x.From,.int .i64 x.Until,.int .i64 x.N]
def GEntry.ok (x : GEntry) : Prop:=In64 x.Kind ∧ In64 x.Tick ∧ In64 x.Tenant ∧ In64 x.Cell ∧ In64 x.Other ∧ In64 x.Epoch ∧ In64 x.From ∧ In64 x.Until ∧ In64 x.N
theorem GEntry.cells_inj {x y : GEntry} (h : x.cells = y.cells) : x = y:=by
 obtain ⟨_,_,_,_,_,_,_,_,_⟩:=x
 obtain ⟨_,_,_,_,_,_,_,_,_⟩:=y
 simp [GEntry.cells] at h
 simp [h]
def GEntry.row (l : List GEntry) : List (List V):=l.map GEntry.cells
@[simp] theorem GEntry.row_length (l : List GEntry) : (GEntry.row l).length = l.length:=by simp [GEntry.row]
@[simp] theorem GEntry.row_nil : GEntry.row [] = []:=rfl
theorem GEntry.row_append (a b : List GEntry) : GEntry.row (a ++ b) = GEntry.row a ++ GEntry.row b:=by simp [GEntry.row]
@[simp] theorem GEntry.row_append' (a b : List GEntry) : GEntry.row a ++ GEntry.row b = GEntry.row (a ++ b):=(GEntry.row_append a b).symm
@[simp] theorem GEntry.row_get (l : List GEntry) (n : Nat) : (GEntry.row l)[n]? = (l[n]?).map fun b=>GEntry.cells b:=by simp [GEntry.row]
@[simp] theorem GEntry.row_getElem (l : List GEntry) (n : Nat) (h : n < (GEntry.row l).length) : (GEntry.row l)[n] = (fun b : GEntry=>GEntry.cells b) (l[n]'(by simpa using h)):=by simp [GEntry.row]
@[simp] theorem GEntry.row_isEmpty (l : List GEntry) : (GEntry.row l).isEmpty = l.isEmpty:=by cases l <;> rfl
@[simp] theorem GEntry.row_take (l : List GEntry) (n : Nat) : (GEntry.row l).take n = GEntry.row (l.take n):=by simp [GEntry.row,List.map_take]
@[simp] theorem GEntry.row_drop (l : List GEntry) (n : Nat) : (GEntry.row l).drop n = GEntry.row (l.drop n):=by simp [GEntry.row,List.map_drop]
@[simp] theorem GEntry.row_closed : ∀ l : List GEntry,zaL (GEntry.row l) = true
 | []=>rfl
 | b :: l=>by
  have:=GEntry.row_closed l
  simp only [GEntry.row,List.map_cons] at this ⊢
  simp [zaL,this,V.closed,V.closed.closedAll,GEntry.cells]
@[simp] theorem GEntry.row_fz (g : Nat → Option AObj) (F : List Nat) (l : List GEntry) : (GEntry.row l).map (·.map (fzV g F)) = GEntry.row l:=by simp [GEntry.row,GEntry.cells]
@[simp] theorem GEntry.row_scalar : ∀ l : List GEntry,zbd (GEntry.row l) = true
 | []=>rfl
 | b :: l=>by
  have:=GEntry.row_scalar l
  simp only [GEntry.row,List.map_cons] at this ⊢
  simp [zbd,this,GEntry.cells]
theorem GEntry.row_inj : ∀ {a b : List GEntry},GEntry.row a = GEntry.row b → a = b
 | [],[],_=>rfl
 | [],_ :: _,h=>by cases h
 | _ :: _,[],h=>by cases h
 | x :: a,y :: b,h=>by
  simp only [GEntry.row,List.map_cons,List.cons.injEq] at h
  obtain ⟨h1,h2⟩:=h
  rw [GEntry.row_inj h2,show x = y from GEntry.cells_inj h1]
@[simp] theorem GEntry.row_eq {a b : List GEntry} : GEntry.row a = GEntry.row b ↔ a = b:=⟨GEntry.row_inj,fun h=>by rw [h]⟩
def zaB (x : GEntry) : V:=.agg x.cells
theorem zbe (x : GEntry) : Folded (zaB x):=⟨x.cells,rfl,by simp [GEntry.cells,V.closed,V.closed.closedAll]⟩
@[simp] theorem vEntry_eq {x y : GEntry} : zaB x = zaB y ↔ x = y:=⟨fun h=>by simp only [zaB,V.agg.injEq] at h; exact GEntry.cells_inj h,fun h=>by rw [h]⟩
@[simp] theorem vEntry_closed (x : GEntry) : (zaB x).closed = true:=(zbe x).closed
@[simp] theorem vEntry_ren (x : GEntry) (f : Nat → Nat) : (zaB x).ren f = zaB x:=(zbe x).ren f
@[simp] theorem vEntry_within (x : GEntry) (D : Nat → Bool) : (zaB x).within D = true:=(zbe x).within D
@[simp] theorem vEntry_argV (x : GEntry) (g : Nat → Option AObj) (refs : List Nat) : argV g refs (zaB x) = some (zaB x,[]):=(zbe x).argV refs
@[simp] theorem vEntry_names (x : GEntry) : zaU (zaB x) = []:=(zbe x).names
@[simp] theorem vEntry_deep (x : GEntry) (g : Nat → Option AObj) : argNm g (zaB x) = []:=(zbe x).deep
@[simp] theorem vEntry_ptr (x : GEntry) (r : List V) : za1 (zaB x :: r) = za1 r:=(zbe x).ptr r
@[simp] theorem vEntry_junk (x : GEntry) : (zaB x).isJunk = false:=(zbe x).junk
@[simp] theorem vEntry_fz (x : GEntry) (g : Nat → Option AObj) (F : List Nat) : fzV g F (zaB x) = zaB x:=(zbe x).fz F
@[simp] theorem vEntry_tag (x : GEntry) : tagV (zaB x) = zaB x:=by simp [zaB,GEntry.cells]
@[simp] theorem zon (x : GEntry) : (zaB x).cells = x.cells:=rfl
theorem zaE (x : GEntry) : V.agg [.int .i64 x.Kind,.int .i64 x.Tick,.int .i64 x.Tenant,.int .i64 x.Cell,.int .i64 x.Other,.int .i64 x.Epoch,.int .i64 x.From,.int .i64 x.Until,.int .i64 x.N] = zaB x:=rfl
structure GLogged where -- 56
 Term : Int
 Entry : GEntry
 deriving DecidableEq
def GLogged.cells (x : GLogged) : List V:=[.int .i64 x.Term,.int .i64 x.Entry.Kind,.int .i64 x.Entry.Tick,.int .i64 x.Entry.Tenant,.int .i64 x.Entry.Cell,.int .i64 x.Entry.Other,.int .i64 x.Entry.Epoch,.int .i64 x.Entry.From,.int .i64 x.Entry.Until,.int .i64 x.Entry.N]
def GLogged.ok (x : GLogged) : Prop:=In64 x.Term ∧ GEntry.ok x.Entry
theorem GLogged.cells_inj {x y : GLogged} (h : x.cells = y.cells) : x = y:=by
 obtain ⟨_,⟨_,_,_,_,_,_,_,_,_⟩⟩:=x
 obtain ⟨_,⟨_,_,_,_,_,_,_,_,_⟩⟩:=y
 simp [GLogged.cells] at h
 simp [h]
def GLogged.row (l : List GLogged) : List (List V):=l.map GLogged.cells
@[simp] theorem GLogged.row_length (l : List GLogged) : (GLogged.row l).length = l.length:=by simp [GLogged.row]
@[simp] theorem GLogged.row_nil : GLogged.row [] = []:=rfl
theorem GLogged.row_append (a b : List GLogged) : GLogged.row (a ++ b) = GLogged.row a ++ GLogged.row b:=by simp [GLogged.row]
@[simp] theorem GLogged.row_append' (a b : List GLogged) : GLogged.row a ++ GLogged.row b = GLogged.row (a ++ b):=(GLogged.row_append a b).symm
@[simp] theorem GLogged.row_get (l : List GLogged) (n : Nat) : (GLogged.row l)[n]? = (l[n]?).map fun b=>GLogged.cells b:=by simp [GLogged.row]
@[simp] theorem GLogged.row_getElem (l : List GLogged) (n : Nat) (h : n < (GLogged.row l).length) : (GLogged.row l)[n] = (fun b : GLogged=>GLogged.cells b) (l[n]'(by simpa using h)):=by simp [GLogged.row]
@[simp] theorem GLogged.row_isEmpty (l : List GLogged) : (GLogged.row l).isEmpty = l.isEmpty:=by cases l <;> rfl
@[simp] theorem GLogged.row_take (l : List GLogged) (n : Nat) : (GLogged.row l).take n = GLogged.row (l.take n):=by simp [GLogged.row,List.map_take]
@[simp] theorem GLogged.row_drop (l : List GLogged) (n : Nat) : (GLogged.row l).drop n = GLogged.row (l.drop n):=by simp [GLogged.row,List.map_drop]
@[simp] theorem GLogged.row_closed : ∀ l : List GLogged,zaL (GLogged.row l) = true
 | []=>rfl
 | b :: l=>by
  have:=GLogged.row_closed l
  simp only [GLogged.row,List.map_cons] at this ⊢
  simp [zaL,this,V.closed,V.closed.closedAll,GLogged.cells]
@[simp] theorem GLogged.row_fz (g : Nat → Option AObj) (F : List Nat) (l : List GLogged) : (GLogged.row l).map (·.map (fzV g F)) = GLogged.row l:=by simp [GLogged.row,GLogged.cells]
@[simp] theorem GLogged.row_scalar : ∀ l : List GLogged,zbd (GLogged.row l) = true
 | []=>rfl
 | b :: l=>by
  have:=GLogged.row_scalar l
  simp only [GLogged.row,List.map_cons] at this ⊢
  simp [zbd,this,GLogged.cells]
theorem GLogged.row_inj : ∀ {a b : List GLogged},GLogged.row a = GLogged.row b → a = b
 | [],[],_=>rfl
 | [],_ :: _,h=>by cases h
 | _ :: _,[],h=>by cases h
 | x :: a,y :: b,h=>by
  simp only [GLogged.row,List.map_cons,List.cons.injEq] at h
  obtain ⟨h1,h2⟩:=h
  rw [GLogged.row_inj h2,show x = y from GLogged.cells_inj h1]
@[simp] theorem GLogged.row_eq {a b : List GLogged} : GLogged.row a = GLogged.row b ↔ a = b:=⟨GLogged.row_inj,fun h=>by rw [h]⟩
def zaM (x : GLogged) : V:=.agg x.cells
theorem zba (x : GLogged) : Folded (zaM x):=⟨x.cells,rfl,by simp [GLogged.cells,V.closed,V.closed.closedAll]⟩
@[simp] theorem vLogged_eq {x y : GLogged} : zaM x = zaM y ↔ x = y:=⟨fun h=>by simp only [zaM,V.agg.injEq] at h; exact GLogged.cells_inj h,fun h=>by rw [h]⟩
@[simp] theorem vLogged_closed (x : GLogged) : (zaM x).closed = true:=(zba x).closed
@[simp] theorem vLogged_ren (x : GLogged) (f : Nat → Nat) : (zaM x).ren f = zaM x:=(zba x).ren f
@[simp] theorem vLogged_within (x : GLogged) (D : Nat → Bool) : (zaM x).within D = true:=(zba x).within D
@[simp] theorem vLogged_argV (x : GLogged) (g : Nat → Option AObj) (refs : List Nat) : argV g refs (zaM x) = some (zaM x,[]):=(zba x).argV refs
@[simp] theorem vLogged_names (x : GLogged) : zaU (zaM x) = []:=(zba x).names
@[simp] theorem vLogged_deep (x : GLogged) (g : Nat → Option AObj) : argNm g (zaM x) = []:=(zba x).deep
@[simp] theorem vLogged_ptr (x : GLogged) (r : List V) : za1 (zaM x :: r) = za1 r:=(zba x).ptr r
@[simp] theorem vLogged_junk (x : GLogged) : (zaM x).isJunk = false:=(zba x).junk
@[simp] theorem vLogged_fz (x : GLogged) (g : Nat → Option AObj) (F : List Nat) : fzV g F (zaM x) = zaM x:=(zba x).fz F
@[simp] theorem vLogged_tag (x : GLogged) : tagV (zaM x) = zaM x:=by simp [zaM,GLogged.cells]
@[simp] theorem vLogged_cells (x : GLogged) : (zaM x).cells = x.cells:=rfl
theorem zdP (x : GLogged) : V.agg [.int .i64 x.Term,.int .i64 x.Entry.Kind,.int .i64 x.Entry.Tick,.int .i64 x.Entry.Tenant,.int .i64 x.Entry.Cell,.int .i64 x.Entry.Other,.int .i64 x.Entry.Epoch,.int .i64 x.Entry.From,.int .i64 x.Entry.Until,.int .i64 x.Entry.N] = zaM x:=rfl
structure GMessage where -- 41
 Kind : Int
 From : Int
 To : Int
 Term : Int
 Index : Int
 PrevTerm : Int
 Commit : Int
 OK : Bool
 Entries : List GLogged
 deriving DecidableEq
def GMessage.cells (x : GMessage) : List V:=[.int .i64 x.Kind,.int .i64 x.From,.int .i64 x.To,.int .i64 x.Term,.int .i64 x.Index,.int .i64 x.PrevTerm,.int .i64 x.Commit,.bool x.OK,.sl 2 10 (GLogged.row x.Entries)]
def GMessage.ok (x : GMessage) : Prop:=In64 x.Kind ∧ In64 x.From ∧ In64 x.To ∧ In64 x.Term ∧ In64 x.Index ∧ In64 x.PrevTerm ∧ In64 x.Commit ∧ (∀ y ∈ x.Entries,GLogged.ok y)
theorem GMessage.cells_inj {x y : GMessage} (h : x.cells = y.cells) : x = y:=by
 obtain ⟨_,_,_,_,_,_,_,_,_⟩:=x
 obtain ⟨_,_,_,_,_,_,_,_,_⟩:=y
 simp [GMessage.cells] at h
 simp [h]
def GMessage.row (l : List GMessage) : List (List V):=l.map GMessage.cells
@[simp] theorem GMessage.row_length (l : List GMessage) : (GMessage.row l).length = l.length:=by simp [GMessage.row]
@[simp] theorem GMessage.row_nil : GMessage.row [] = []:=rfl
theorem GMessage.row_append (a b : List GMessage) : GMessage.row (a ++ b) = GMessage.row a ++ GMessage.row b:=by simp [GMessage.row]
@[simp] theorem GMessage.row_append' (a b : List GMessage) : GMessage.row a ++ GMessage.row b = GMessage.row (a ++ b):=(GMessage.row_append a b).symm
@[simp] theorem GMessage.row_get (l : List GMessage) (n : Nat) : (GMessage.row l)[n]? = (l[n]?).map fun b=>GMessage.cells b:=by simp [GMessage.row]
@[simp] theorem GMessage.row_getElem (l : List GMessage) (n : Nat) (h : n < (GMessage.row l).length) : (GMessage.row l)[n] = (fun b : GMessage=>GMessage.cells b) (l[n]'(by simpa using h)):=by simp [GMessage.row]
@[simp] theorem GMessage.row_isEmpty (l : List GMessage) : (GMessage.row l).isEmpty = l.isEmpty:=by cases l <;> rfl
@[simp] theorem GMessage.row_take (l : List GMessage) (n : Nat) : (GMessage.row l).take n = GMessage.row (l.take n):=by simp [GMessage.row,List.map_take]
@[simp] theorem GMessage.row_drop (l : List GMessage) (n : Nat) : (GMessage.row l).drop n = GMessage.row (l.drop n):=by simp [GMessage.row,List.map_drop]
@[simp] theorem GMessage.row_closed : ∀ l : List GMessage,zaL (GMessage.row l) = true
 | []=>rfl
 | b :: l=>by
  have:=GMessage.row_closed l
  simp only [GMessage.row,List.map_cons] at this ⊢
  simp [zaL,this,V.closed,V.closed.closedAll,GMessage.cells]
@[simp] theorem GMessage.row_fz (g : Nat → Option AObj) (F : List Nat) (l : List GMessage) : (GMessage.row l).map (·.map (fzV g F)) = GMessage.row l:=by simp [GMessage.row,GMessage.cells]
theorem GMessage.row_inj : ∀ {a b : List GMessage},GMessage.row a = GMessage.row b → a = b
 | [],[],_=>rfl
 | [],_ :: _,h=>by cases h
 | _ :: _,[],h=>by cases h
 | x :: a,y :: b,h=>by
  simp only [GMessage.row,List.map_cons,List.cons.injEq] at h
  obtain ⟨h1,h2⟩:=h
  rw [GMessage.row_inj h2,show x = y from GMessage.cells_inj h1]
@[simp] theorem GMessage.row_eq {a b : List GMessage} : GMessage.row a = GMessage.row b ↔ a = b:=⟨GMessage.row_inj,fun h=>by rw [h]⟩
def zam (x : GMessage) : V:=.agg x.cells
theorem za3 (x : GMessage) : Folded (zam x):=⟨x.cells,rfl,by simp [GMessage.cells,V.closed,V.closed.closedAll]⟩
@[simp] theorem vMessage_eq {x y : GMessage} : zam x = zam y ↔ x = y:=⟨fun h=>by simp only [zam,V.agg.injEq] at h; exact GMessage.cells_inj h,fun h=>by rw [h]⟩
@[simp] theorem vMessage_closed (x : GMessage) : (zam x).closed = true:=(za3 x).closed
@[simp] theorem vMessage_ren (x : GMessage) (f : Nat → Nat) : (zam x).ren f = zam x:=(za3 x).ren f
@[simp] theorem vMessage_within (x : GMessage) (D : Nat → Bool) : (zam x).within D = true:=(za3 x).within D
@[simp] theorem vMessage_argV (x : GMessage) (g : Nat → Option AObj) (refs : List Nat) : argV g refs (zam x) = some (zam x,[]):=(za3 x).argV refs
@[simp] theorem vMessage_names (x : GMessage) : zaU (zam x) = []:=(za3 x).names
@[simp] theorem vMessage_deep (x : GMessage) (g : Nat → Option AObj) : argNm g (zam x) = []:=(za3 x).deep
@[simp] theorem vMessage_ptr (x : GMessage) (r : List V) : za1 (zam x :: r) = za1 r:=(za3 x).ptr r
@[simp] theorem vMessage_junk (x : GMessage) : (zam x).isJunk = false:=(za3 x).junk
@[simp] theorem vMessage_fz (x : GMessage) (g : Nat → Option AObj) (F : List Nat) : fzV g F (zam x) = zam x:=(za3 x).fz F
@[simp] theorem vMessage_tag (x : GMessage) : tagV (zam x) = zam x:=by simp [zam,GMessage.cells]
@[simp] theorem vMessage_cells (x : GMessage) : (zam x).cells = x.cells:=rfl
theorem zab (x : GMessage) : V.agg [.int .i64 x.Kind,.int .i64 x.From,.int .i64 x.To,.int .i64 x.Term,.int .i64 x.Index,.int .i64 x.PrevTerm,.int .i64 x.Commit,.bool x.OK,.sl 2 10 (GLogged.row x.Entries)] = zam x:=rfl
structure GL09Step where -- 48
 Which : Int
 A : Int
 B : Int
 M : GMessage
 deriving DecidableEq
def GL09Step.cells (x : GL09Step) : List V:=[.int .i64 x.Which,.int .i64 x.A,.int .i64 x.B,.int .i64 x.M.Kind,.int .i64 x.M.From,.int .i64 x.M.To,.int .i64 x.M.Term,.int .i64 x.M.Index,.int .i64 x.M.PrevTerm,.int .i64 x.M.Commit,.bool x.M.OK,.sl 2 10 (GLogged.row x.M.Entries)]
def GL09Step.ok (x : GL09Step) : Prop:=In64 x.Which ∧ In64 x.A ∧ In64 x.B ∧ GMessage.ok x.M
theorem GL09Step.cells_inj {x y : GL09Step} (h : x.cells = y.cells) : x = y:=by
 obtain ⟨_,_,_,⟨_,_,_,_,_,_,_,_,_⟩⟩:=x
 obtain ⟨_,_,_,⟨_,_,_,_,_,_,_,_,_⟩⟩:=y
 simp [GL09Step.cells] at h
 simp [h]
def GL09Step.row (l : List GL09Step) : List (List V):=l.map GL09Step.cells
@[simp] theorem GL09Step.row_length (l : List GL09Step) : (GL09Step.row l).length = l.length:=by simp [GL09Step.row]
@[simp] theorem GL09Step.row_nil : GL09Step.row [] = []:=rfl
theorem GL09Step.row_append (a b : List GL09Step) : GL09Step.row (a ++ b) = GL09Step.row a ++ GL09Step.row b:=by simp [GL09Step.row]
@[simp] theorem GL09Step.row_append' (a b : List GL09Step) : GL09Step.row a ++ GL09Step.row b = GL09Step.row (a ++ b):=(GL09Step.row_append a b).symm
@[simp] theorem GL09Step.row_get (l : List GL09Step) (n : Nat) : (GL09Step.row l)[n]? = (l[n]?).map fun b=>GL09Step.cells b:=by simp [GL09Step.row]
@[simp] theorem GL09Step.row_getElem (l : List GL09Step) (n : Nat) (h : n < (GL09Step.row l).length) : (GL09Step.row l)[n] = (fun b : GL09Step=>GL09Step.cells b) (l[n]'(by simpa using h)):=by simp [GL09Step.row]
@[simp] theorem GL09Step.row_isEmpty (l : List GL09Step) : (GL09Step.row l).isEmpty = l.isEmpty:=by cases l <;> rfl
@[simp] theorem GL09Step.row_take (l : List GL09Step) (n : Nat) : (GL09Step.row l).take n = GL09Step.row (l.take n):=by simp [GL09Step.row,List.map_take]
@[simp] theorem GL09Step.row_drop (l : List GL09Step) (n : Nat) : (GL09Step.row l).drop n = GL09Step.row (l.drop n):=by simp [GL09Step.row,List.map_drop]
@[simp] theorem GL09Step.row_closed : ∀ l : List GL09Step,zaL (GL09Step.row l) = true
 | []=>rfl
 | b :: l=>by
  have:=GL09Step.row_closed l
  simp only [GL09Step.row,List.map_cons] at this ⊢
  simp [zaL,this,V.closed,V.closed.closedAll,GL09Step.cells]
@[simp] theorem GL09Step.row_fz (g : Nat → Option AObj) (F : List Nat) (l : List GL09Step) : (GL09Step.row l).map (·.map (fzV g F)) = GL09Step.row l:=by simp [GL09Step.row,GL09Step.cells]
theorem GL09Step.row_inj : ∀ {a b : List GL09Step},GL09Step.row a = GL09Step.row b → a = b
 | [],[],_=>rfl
 | [],_ :: _,h=>by cases h
 | _ :: _,[],h=>by cases h
 | x :: a,y :: b,h=>by
  simp only [GL09Step.row,List.map_cons,List.cons.injEq] at h
  obtain ⟨h1,h2⟩:=h
  rw [GL09Step.row_inj h2,show x = y from GL09Step.cells_inj h1]
@[simp] theorem GL09Step.row_eq {a b : List GL09Step} : GL09Step.row a = GL09Step.row b ↔ a = b:=⟨GL09Step.row_inj,fun h=>by rw [h]⟩
def zaY (x : GL09Step) : V:=.agg x.cells
theorem za2 (x : GL09Step) : Folded (zaY x):=⟨x.cells,rfl,by simp [GL09Step.cells,V.closed,V.closed.closedAll]⟩
@[simp] theorem vL09Step_eq {x y : GL09Step} : zaY x = zaY y ↔ x = y:=⟨fun h=>by simp only [zaY,V.agg.injEq] at h; exact GL09Step.cells_inj h,fun h=>by rw [h]⟩
@[simp] theorem zkq (x : GL09Step) : (zaY x).closed = true:=(za2 x).closed
@[simp] theorem vL09Step_ren (x : GL09Step) (f : Nat → Nat) : (zaY x).ren f = zaY x:=(za2 x).ren f
@[simp] theorem vL09Step_within (x : GL09Step) (D : Nat → Bool) : (zaY x).within D = true:=(za2 x).within D
@[simp] theorem vL09Step_argV (x : GL09Step) (g : Nat → Option AObj) (refs : List Nat) : argV g refs (zaY x) = some (zaY x,[]):=(za2 x).argV refs
@[simp] theorem vL09Step_names (x : GL09Step) : zaU (zaY x) = []:=(za2 x).names
@[simp] theorem vL09Step_deep (x : GL09Step) (g : Nat → Option AObj) : argNm g (zaY x) = []:=(za2 x).deep
@[simp] theorem vL09Step_ptr (x : GL09Step) (r : List V) : za1 (zaY x :: r) = za1 r:=(za2 x).ptr r
@[simp] theorem vL09Step_junk (x : GL09Step) : (zaY x).isJunk = false:=(za2 x).junk
@[simp] theorem vL09Step_fz (x : GL09Step) (g : Nat → Option AObj) (F : List Nat) : fzV g F (zaY x) = zaY x:=(za2 x).fz F
@[simp] theorem vL09Step_tag (x : GL09Step) : tagV (zaY x) = zaY x:=by simp [zaY,GL09Step.cells]
@[simp] theorem vL09Step_cells (x : GL09Step) : (zaY x).cells = x.cells:=rfl
theorem zbf (x : GL09Step) : V.agg [.int .i64 x.Which,.int .i64 x.A,.int .i64 x.B,.int .i64 x.M.Kind,.int .i64 x.M.From,.int .i64 x.M.To,.int .i64 x.M.Term,.int .i64 x.M.Index,.int .i64 x.M.PrevTerm,.int .i64 x.M.Commit,.bool x.M.OK,.sl 2 10 (GLogged.row x.M.Entries)] = zaY x:=rfl
end Go.Lift

set_option maxRecDepth 20000
namespace Go.Proofs.YtcpdgbncekdicaaGreat
open Go.Lift
theorem own : ownKnob Tryz.prog.godebug = none:=by kernel_rfl
theorem zqA (a b : ByteArray) : (a.toList == b.toList) = decide (a = b):=by
 rw [Bool.eq_iff_iff,beq_iff_eq,decide_eq_true_iff,ByteArray.toList_eq,ByteArray.toList_eq]
 exact ⟨fun h=>by cases a; cases b; simp at h; simp [h],fun h=>by rw [h]⟩
theorem zyn (x y : GEntry) : eqV T 5 53 (zaB x) (zaB y) = some (decide (x = y)):=by
 obtain ⟨aKind,aTick,aTenant,aCell,aOther,aEpoch,aFrom,aUntil,aN⟩:=x
 obtain ⟨bKind,bTick,bTenant,bCell,bOther,bEpoch,bFrom,bUntil,bN⟩:=y
 simp [zaB,GEntry.cells,eqV,eqF,zqA]
 try rw [Bool.eq_iff_iff]; simp; try grind
@[simp] theorem eql_53 (x y : GEntry) : aBin T .eql 53 (zaB x) (zaB y) = some (.bool (decide (x = y))):=by show (eqV T 5 53 (zaB x) (zaB y)).map V.bool = _; rw [zyn]; rfl
@[simp] theorem neq_53 (x y : GEntry) : aBin T .neq 53 (zaB x) (zaB y) = some (.bool (!decide (x = y))):=by show (eqV T 5 53 (zaB x) (zaB y)).map (fun b=>V.bool (!b)) = _; rw [zyn]; rfl
theorem zyo (x y : GLogged) : eqV T 5 56 (zaM x) (zaM y) = some (decide (x = y)):=by
 obtain ⟨aTerm,⟨aEntryKind,aEntryTick,aEntryTenant,aEntryCell,aEntryOther,aEntryEpoch,aEntryFrom,aEntryUntil,aEntryN⟩⟩:=x
 obtain ⟨bTerm,⟨bEntryKind,bEntryTick,bEntryTenant,bEntryCell,bEntryOther,bEntryEpoch,bEntryFrom,bEntryUntil,bEntryN⟩⟩:=y
 simp [zaM,GEntry.cells,GLogged.cells,eqV,eqF,zqA]
 try rw [Bool.eq_iff_iff]; simp; try grind
@[simp] theorem eql_56 (x y : GLogged) : aBin T .eql 56 (zaM x) (zaM y) = some (.bool (decide (x = y))):=by show (eqV T 5 56 (zaM x) (zaM y)).map V.bool = _; rw [zyo]; rfl
@[simp] theorem neq_56 (x y : GLogged) : aBin T .neq 56 (zaM x) (zaM y) = some (.bool (!decide (x = y))):=by show (eqV T 5 56 (zaM x) (zaM y)).map (fun b=>V.bool (!b)) = _; rw [zyo]; rfl
end Go.Proofs.YtcpdgbncekdicaaGreat

namespace Go.Proofs.YtcpdgbncekdicaaGreat
open Go.Lift
theorem zAz {v n : Int} (h : 0 < n) : (v.tmod n + n).tmod n = v % n:=by
 have h1:=Int.tmod_lt_of_pos v h
 have h2:=Int.lt_tmod_of_pos v h
 rw [Int.tmod_eq_emod_of_nonneg (by omega),Int.add_emod_right]
 have : v.tmod n = v % n ∨ v.tmod n = v % n - n:=by
  have h3:=Int.tmod_add_tdiv_mul v n
  have h4:=Int.emod_add_ediv_mul v n
  rcases Int.le_total 0 v with hv | hv
  ·left; exact Int.tmod_eq_emod_of_nonneg hv
  ·by_cases hz : v % n = 0
   ·left
    have : v.tmod n = 0:=Int.tmod_eq_zero_of_dvd (Int.dvd_of_emod_eq_zero hz)
    rw [this,hz]
   ·right
    rw [Int.tmod_def] at *
    have hd:=Int.tdiv_eq_ediv (a:=v) (b:=n)
    have hnd : ¬ n ∣ v:=fun hd=>hz (Int.emod_eq_zero_of_dvd hd)
    rw [if_neg (by
     simp [hnd]
     apply Classical.byContradiction
     intro h0
     have : v = 0:=by omega
     rw [this] at hz; simp at hz)] at hd
    have hs : n.sign = 1:=Int.sign_eq_one_of_pos h
    rw [hd,hs,Int.mul_add,Int.emod_def]; omega
 rcases this with e | e
 ·rw [e,Int.emod_emod_of_dvd _ (Int.dvd_refl n)]
 ·rw [e,Int.sub_emod_right,Int.emod_emod_of_dvd _ (Int.dvd_refl n)]
noncomputable def modSp:=fam (fun i : Int × Int=>[V.int .i64 i.1,.int .i64 i.2]) (fun _=>[]) (fun i=>(0 < i.2) ∧ (i.2 ≤ 4611686018427387904)) (fun i=>⟨.int .i64 (i.1 % i.2),[]⟩)
@[simp] theorem modSp_eq {v n : Int} (h1 : 0 < n) (h2 : n ≤ 4611686018427387904) : modSp ([V.int .i64 v,.int .i64 n]) ([]) = some (⟨.int .i64 (v % n),[]⟩) :=
 zag (by rintro ⟨a0,a1⟩ ⟨b0,b1⟩ h h' <;> simp at h h' <;> simp_all) (v,n) ⟨h1,h2⟩
theorem zgR : Lift.Spec Tryz.prog 13 modSp:=by
 refine zaj (C:=C0) zac C0_ok follows Tryz.func13 (by kernel_rfl) rfl (by kernel_rfl) rfl ?_
 rintro ⟨v,n⟩ ⟨h1,h2⟩
 try simp only at h1 h2
 refine ⟨by simp,?_⟩
 intro r hr
 have h3:=Int.tmod_lt_of_pos v h1
 have h4:=Int.lt_tmod_of_pos v h1
 have w : IntKind.i64.wrap (v.tmod n + n) = v.tmod n + n:=w64
 have h0 : ¬ n = 0:=by omega
 simp [h0,w,zAz h1]
 rw [hr]; refine zaa rfl ?_ rfl
 simp
noncomputable def CM1:=mkC [(13,modSp)]
theorem zyf : zai Tryz.prog CM1:=zat (all_cons zgR all_nil)
@[simp] theorem CM1_1 : CM1 13 = modSp:=rfl
noncomputable def zcr:=fam (fun i : Int × Int × Int=>[V.int .i64 i.1,.int .i64 i.2.1,.int .i64 i.2.2]) (fun _=>[]) (fun i=>(i.2.1 ≤ i.2.2) ∧ (-1099511627776 ≤ i.2.1) ∧ (i.2.2 ≤ 1099511627776)) (fun i=>⟨.int .i64 (i.2.1 + i.1 % (i.2.2 - i.2.1 + 1)),[]⟩)
@[simp] theorem betweenSp_eq {v low high : Int} (h1 : low ≤ high) (h2 : -1099511627776 ≤ low) (h3 : high ≤ 1099511627776) : zcr ([V.int .i64 v,.int .i64 low,.int .i64 high]) ([]) = some (⟨.int .i64 (low + v % (high - low + 1)),[]⟩) :=
 zag (by rintro ⟨a0,a1,a2⟩ ⟨b0,b1,b2⟩ h h' <;> simp at h h' <;> simp_all) (v,low,high) ⟨h1,h2,h3⟩
theorem zdE : Lift.Spec Tryz.prog 11 zcr:=by
 refine zaj (C:=CM1) zac zyf follows Tryz.func11 (by kernel_rfl) rfl (by kernel_rfl) rfl ?_
 rintro ⟨v,low,high⟩ ⟨h1,h2,h3⟩
 try simp only at h1 h2 h3
 refine ⟨by simp,?_⟩
 intro r hr
 have w1 : IntKind.i64.wrap (high - low) = high - low:=w64
 have w2 : IntKind.i64.wrap (high - low + 1) = high - low + 1:=w64
 have h4 : 0 < high - low + 1:=by omega
 have h5 : high - low + 1 ≤ 4611686018427387904:=by omega
 have h6:=Int.emod_nonneg v (show high - low + 1 ≠ 0 by omega)
 have h7:=Int.emod_lt_of_pos v h4
 have w3 : IntKind.i64.wrap (low + v % (high - low + 1)) = low + v % (high - low + 1):=w64
 simp [w1,w2,h4,h5,w3]
 rw [hr]; refine zaa rfl ?_ rfl
 simp
end Go.Proofs.YtcpdgbncekdicaaGreat

namespace Go.Proofs.YtcpdgbncekdicaaGreat
open Go.Lift
@[simp] theorem natInt_neg (n : Nat) : ((n : Int) < 0) = False:=by simp
theorem zmd (a : Int) : iAnd .i64 a 1 = a % 2:=by
 have h : (BitVec.ofInt 64 a &&& BitVec.ofInt 64 1).toNat = (a % 2).toNat:=by
  rw [BitVec.toNat_and,BitVec.toNat_ofInt]
  have : (BitVec.ofInt 64 1).toNat = 1:=rfl
  rw [this,Nat.and_one_is_mod]
  omega
 show IntKind.i64.wrap ((BitVec.ofInt 64 a &&& BitVec.ofInt 64 1).toNat : Int) = a % 2
 rw [h,w64]; omega
def inB (n lo hi : Int) : Bool:=decide (lo ≤ n ∧ n ≤ hi)
theorem zuC {n lo hi : Int} : inB n lo hi = true ↔ lo ≤ n ∧ n ≤ hi:=by simp [inB]
def AllTo {α : Type} (p : α → Bool) (l : List α) (i : Nat) : Prop:=(l.take i).all p = true
theorem AllTo.zero {α : Type} (p : α → Bool) (l : List α) : AllTo p l 0:=by simp [AllTo]
def idxTo (p : Nat → Bool) (n : Nat) : List Int:=((List.range n).filter p).map fun (k : Nat)=>(k : Int)
theorem zuz {p : Nat → Bool} {n : Nat} (h : p n = true) : idxTo p (n + 1) = idxTo p n ++ [(n : Int)]:=by simp [idxTo,List.range_succ,h]
theorem zux {p : Nat → Bool} {n : Nat} (h : p n = false) : idxTo p (n + 1) = idxTo p n:=by simp [idxTo,List.range_succ,h]
theorem zk7 (p : Nat → Bool) : idxTo p 0 = []:=rfl
theorem zjO (p : Nat → Bool) (n : Nat) : (idxTo p n).length ≤ n:=by
 have:=List.length_filter_le p (List.range n)
 simpa [idxTo] using this
theorem zuy {p : Nat → Bool} {n : Nat} {x : Int} (h : x ∈ idxTo p n) : ∃ k : Nat,x = (k : Int) ∧ k < n ∧ p k = true:=by
 simp only [idxTo,List.mem_map,List.mem_filter,List.mem_range] at h
 obtain ⟨k,⟨h1,h2⟩,rfl⟩:=h
 exact ⟨k,rfl,h1,h2⟩
theorem zav {α : Type} {l : List α} {k : Nat} (h : k < l.length) : ∃ x,l[k]? = some x ∧ l[k] = x ∧ x ∈ l:=⟨_,List.getElem?_eq_getElem h,rfl,List.getElem_mem h⟩
end Go.Proofs.YtcpdgbncekdicaaGreat

namespace Go.Proofs.YtcpdgbncekdicaaGreat
open Go.Lift
theorem zu4 {l : List Int} {n : Nat} (h : l.length ≤ n) (hn : n ≤ 16) : (l.length : Int) + 1 ≤ 140737488355328 ∧ ((l.length : Int) + 1) * 8 ≤ 140737488355328:=by omega
theorem zf9 (l : List Int) (x : Int) : zaF (l ++ [x]) = zaF l ++ [[.int .i64 x]]:=by simp [zaF]
end Go.Proofs.YtcpdgbncekdicaaGreat

namespace Go.Proofs.YtcpdgbncekdicaaGreat
open Go.Lift
def code (n : Int) : Nat:=if n < 0 then (-2 * n - 1).toNat else (2 * n).toNat
def loB (u : Nat) : UInt8:=UInt8.ofNat u
def hiB (u : Nat) : UInt8:=UInt8.ofNat (u % 128 + 128)
def enc (u : Nat) : List UInt8:=if u < 128 then [loB u] else hiB u :: enc (u / 128)
termination_by u
decreasing_by omega
theorem zcN {u : Nat} (h : u < 128) : enc u = [loB u]:=by rw [enc,if_pos h]
theorem zcM {u : Nat} (h : ¬ u < 128) : enc u = hiB u :: enc (u / 128):=by rw [enc,if_neg h]
theorem zzc (k : Nat) : ∀ u,u < 128 ^ (k + 1) → (enc u).length ≤ k + 1:=by
 induction k with
 | zero=>intro u h; rw [zcN (by omega)]; simp
 | succ k ih =>
  intro u h
  by_cases hu : u < 128
  ·rw [zcN hu]; simp
  ·rw [zcM hu,List.length_cons]
   have : u / 128 < 128 ^ (k + 1):=by
    rw [Nat.div_lt_iff_lt_mul (by omega),← Nat.pow_succ]; exact h
   have:=ih _ this
   omega
theorem zeP (u : Nat) (h : u < 18446744073709551616) : (enc u).length ≤ 10:=zzc 9 u (Nat.lt_of_lt_of_le h (by decide))
theorem zhm (u : Nat) : 1 ≤ (enc u).length:=by
 by_cases hu : u < 128
 ·rw [zcN hu]; simp
 ·rw [zcM hu]; simp
theorem zdd {n : Int} (h : In64 n) : code n < 18446744073709551616:=by unfold In64 at h; unfold code; split <;> omega
theorem zw2 (u : Nat) : (u : Int).fdiv 128 = ((u / 128 : Nat) : Int):=by
 rw [Int.fdiv_eq_ediv_of_nonneg _ (by omega)]; rfl
theorem zri (u : Nat) : (u : Int).tmod 128 = ((u % 128 : Nat) : Int):=rfl
theorem zyv (u : Nat) : IntKind.u8.wrap (u : Int) = ((loB u).toNat : Int):=by
 rw [zkt]; simp [loB]
theorem zvE (u : Nat) : IntKind.u8.wrap (IntKind.u8.wrap ((u : Int).tmod 128) + 128) = ((hiB u).toNat : Int):=by
 rw [zkt,zkt,zri]; simp [hiB]
noncomputable def zgw:=fam (fun n : Int=>[V.int .i64 n]) (fun _=>[]) In64 (fun n=>⟨.int .u64 (code n),[]⟩)
@[simp] theorem codeSp_eq {n : Int} (h : In64 n) : zgw [V.int .i64 n] [] = some ⟨.int .u64 (code n),[]⟩ :=
 zag (A:=fun n : Int=>[V.int .i64 n]) (fun i j h _=>by simp at h; rw [h]) n h
theorem zpa : Lift.Spec Tryz.prog 205 zgw:=by
 refine zaj (C:=C0) zac C0_ok follows Tryz.func205 (by kernel_rfl) rfl (by kernel_rfl) rfl ?_
 intro n hn
 refine ⟨by simp,?_⟩
 intro r hr
 unfold In64 at hn
 simp
 refine zbU (fun h=>?_) (fun h=>?_)
 ·simp
  rw [hr]; refine zaa rfl ?_ rfl
  simp [zeC,code,h]
  omega
 ·simp
  rw [hr]; refine zaa rfl ?_ rfl
  simp [zeC,code,h]
  omega
theorem zh4 : Lift.Spec Tryz.prog 131 zgw:=by
 refine zaj (C:=C0) zac C0_ok follows Tryz.func131 (by kernel_rfl) rfl (by kernel_rfl) rfl ?_
 intro n hn
 refine ⟨by simp,?_⟩
 intro r hr
 unfold In64 at hn
 simp
 refine zbU (fun h=>?_) (fun h=>?_)
 ·simp
  rw [hr]; refine zaa rfl ?_ rfl
  simp [zeC,code,show ¬ n < 0 by omega]
  omega
 ·simp
  rw [hr]; refine zaa rfl ?_ rfl
  simp [zeC,zmM,code,show n < 0 by omega]
  omega
def rowOf (l : List UInt8) : AObj:=⟨5,1,zae l,false,2,.rw⟩
@[simp] theorem rowOf_eq {a b : List UInt8} : rowOf a = rowOf b ↔ a = b:=by simp [rowOf]
noncomputable def zqB:=fam (fun i : Nat × List UInt8 × Int=>[V.sl i.1 1 (zae i.2.1),.int .i64 i.2.2]) (fun _=>[]) (fun i=>0 ≤ i.2.2 ∧ i.2.1.length + i.2.2 ≤ 140737488351232) (fun i=>⟨.own 0 0 i.2.1.length,[rowOf i.2.1]⟩)
@[simp] theorem copySp_eq {t : Nat} {l : List UInt8} {m : Int} (h0 : 0 ≤ m) (h : l.length + m ≤ 140737488351232) : zqB [V.sl t 1 (zae l),.int .i64 m] [] = some ⟨.own 0 0 l.length,[rowOf l]⟩ :=
 zag (A:=fun i : Nat × List UInt8 × Int=>[V.sl i.1 1 (zae i.2.1),.int .i64 i.2.2]) (fun i j h _=>by simp at h; rw [h.1.2]) (t,l,m) ⟨h0,h⟩
theorem zt8 : Lift.Spec Tryz.prog 196 zqB:=by
 refine zaj (C:=C0) zac C0_ok follows Tryz.func196 (by kernel_rfl) rfl (by kernel_rfl) rfl ?_
 rintro ⟨t,l,m⟩ hm
 simp only at hm
 refine ⟨by simp,?_⟩
 intro r hr
 have hw : IntKind.i64.wrap ((l.length : Int) + m) = l.length + m:=w64
 have h1 : 0 ≤ (l.length : Int) + m:=by omega
 have h2 : (l.length : Int) + m ≤ 140737488351232:=by omega
 have h3 : (l.length : Int) + m ≤ 140737488355328:=by omega
 have h4 : (l.length : Int) ≤ 140737488355328:=by omega
 simp [hw,h1,h2,h3,h4]
 rw [hr]; refine zka rfl rfl ?_ (by simp [rowOf])
 simp [rowOf]
noncomputable def appSp:=fam (fun i : List UInt8 × Int=>[V.own 0 0 i.1.length,.int .i64 i.2]) (fun i=>[rowOf i.1]) (fun i=>In64 i.2 ∧ (i.1.length : Int) ≤ 140737488355318) (fun i=>⟨.own 1 0 (i.1.length + (enc (code i.2)).length),[kill (rowOf i.1),rowOf (i.1 ++ enc (code i.2))]⟩)
@[simp] theorem appSp_eq {l : List UInt8} {n : Int} {k : Nat} (hk : k = l.length) (h : In64 n) (h0 : (l.length : Int) ≤ 140737488355318) : appSp [V.own 0 0 k,.int .i64 n] [⟨5,1,zae l,false,2,.rw⟩] = some ⟨.own 1 0 (l.length + (enc (code n)).length),[kill (rowOf l),rowOf (l ++ enc (code n))]⟩:=by
 subst hk
 exact zag (A:=fun i : List UInt8 × Int=>[V.own 0 0 i.1.length,.int .i64 i.2]) (O:=fun i=>[rowOf i.1]) (fun i j h h'=>by simp at h h'; rw [h',h.2]) (l,n) ⟨h,h0⟩
@[simp] theorem appSp_sl {a b : Nat} {c : List (List V)} {v : V} {os : List AObj} : appSp [V.sl a b c,v] os = none:=zgH (fun i h _=>by simp at h)
def appSt (l : List UInt8) (i : Bool × List UInt8 × Nat) : St :=
 mkSt [(0,.own (if i.1 then 1 else 0) 0 i.2.1.length),(5,.int .u64 i.2.2)] (if i.1 then [(0,kill (rowOf l)),(1,rowOf i.2.1)] else [(0,rowOf l)]) 2
noncomputable def C2:=mkC [(205,zgw),(131,zgw)]
theorem C2_ok : zai Tryz.prog C2:=zat (all_cons zpa (all_cons zh4 all_nil))
@[simp] theorem C2_1 : C2 205 = zgw:=rfl
@[simp] theorem C2_2 : C2 131 = zgw:=rfl
theorem zwA : Lift.Spec Tryz.prog 195 appSp:=by
 refine zaj (C:=C2) zac C2_ok follows Tryz.func195 (by kernel_rfl) rfl (by kernel_rfl) rfl ?_
 rintro ⟨l,n⟩ ⟨hn,hlen⟩
 simp only at hn hlen
 refine ⟨by simp,?_⟩
 intro r hr
 simp [hn]
 refine zal (appSt l) (fun i=>i.2.1 ++ enc i.2.2 = l ++ enc (code n) ∧ i.2.2 < 18446744073709551616 ∧ (i.1 = false → i.2.1 = l)) (fun i=>i.2.2) (false,l,code n) ?_ ⟨rfl,zdd hn,fun _=>rfl⟩ ?_
 ·refine zaW id ?_ ?_ ?_ ?_ <;> simp [rowOf]
 ·rintro ⟨b,acc,u⟩ ⟨h1,h2,h3⟩
  simp only at h1 h2 h3
  have q1 : (acc.length : Int) + 1 ≤ 140737488355328:=by
   have:=congrArg List.length h1
   simp only [List.length_append] at this
   have:=zhm u
   have:=zeP _ (zdd hn)
   omega
  have q2 : (128 : Int) ≤ (u : Int) ↔ ¬ u < 128:=by omega
  have hst : appSt l (b,acc,u) = mkSt [(0,.own (if b then 1 else 0) 0 acc.length),(5,.int .u64 u)] (if b then [(0,kill (rowOf l)),(1,rowOf acc)] else [(0,rowOf acc)]) 2:=by
   cases b with
   | false=>rw [h3 rfl]; rfl
   | true=>rfl
  rw [hst]
  have fin : u < 128 → acc ++ [loB u] = l ++ enc (code n):=fun hu=>by rw [zcN hu] at h1; exact h1
  cases b <;> simp [rowOf] <;> refine zbU (fun hu=>?_) (fun hu=>?_) <;> simp [q1,zw2,zvE,zyv,zdv]
  ·refine Again.mk (true,acc ++ [hiB u],u / 128) ?_ ?_ ?_
   ·rw [zcM (by omega)] at h1
    exact ⟨by simpa using h1,by show u / 128 < _; omega,fun h=>by cases h⟩
   ·show u / 128 < u; omega
   ·rw [h3 rfl] at *
    refine zak [.inl 0,.inr 0] ?_ ?_ ?_ ?_ <;> simp [rowOf]
  ·have hf:=fin (by omega)
   have hz : l.length + (enc (code n)).length = acc.length + 1:=by simpa using (congrArg List.length hf).symm
   rw [hr,← hf,hz]
   rw [h3 rfl] at *
   refine zbN [.inl 0,.inr 4] rfl ?_ ?_ (by simp) ?_ ?_ ?_ ?_ <;> simp [rowOf]
  ·refine Again.mk (true,acc ++ [hiB u],u / 128) ?_ ?_ ?_
   ·rw [zcM (by omega)] at h1
    exact ⟨by simpa using h1,by show u / 128 < _; omega,fun h=>by cases h⟩
   ·show u / 128 < u; omega
   ·refine zak [.inl 0,.inr 0] ?_ ?_ ?_ ?_ <;> simp [rowOf]
  ·have hf:=fin (by omega)
   have hz : l.length + (enc (code n)).length = acc.length + 1:=by simpa using (congrArg List.length hf).symm
   rw [hr,← hf,hz]
   refine zbN [.inl 0,.inr 4] rfl ?_ ?_ (by simp) ?_ ?_ ?_ ?_ <;> simp [rowOf]
noncomputable def C3:=mkC [(195,appSp),(196,zqB),(131,zgw)]
theorem C3_ok : zai Tryz.prog C3:=zat (all_cons zwA (all_cons zt8 (all_cons zh4 all_nil)))
@[simp] theorem C3_1 : C3 195 = appSp:=rfl
@[simp] theorem C3_2 : C3 196 = zqB:=rfl
@[simp] theorem C3_3 : C3 131 = zgw:=rfl
noncomputable def intSp:=fam (fun i : Nat × List UInt8 × Int=>[V.sl i.1 1 (zae i.2.1),.int .i64 i.2.2]) (fun _=>[]) (fun i=>In64 i.2.2 ∧ (i.2.1.length : Int) ≤ 140737488351222) (fun i=>⟨.own 0 0 (i.2.1.length + (enc (code i.2.2)).length),[rowOf (i.2.1 ++ enc (code i.2.2))]⟩)
@[simp] theorem zw8 {t : Nat} {l : List UInt8} {n : Int} (h : In64 n) (h0 : (l.length : Int) ≤ 140737488351222) : intSp [V.sl t 1 (zae l),.int .i64 n] [] = some ⟨.own 0 0 (l.length + (enc (code n)).length),[rowOf (l ++ enc (code n))]⟩ :=
 zag (A:=fun i : Nat × List UInt8 × Int=>[V.sl i.1 1 (zae i.2.1),.int .i64 i.2.2]) (fun i j h _=>by simp at h; rw [h.1.2,h.2]) (t,l,n) ⟨h,h0⟩
theorem ziu : Lift.Spec Tryz.prog 177 intSp:=by
 refine zaj (C:=C3) zac C3_ok follows Tryz.func177 (by kernel_rfl) rfl (by kernel_rfl) rfl ?_
 rintro ⟨t,l,n⟩ ⟨hn,hlen⟩
 simp only at hn hlen
 refine ⟨by simp,?_⟩
 intro r hr
 have q : (l.length : Int) ≤ 140737488355318:=by omega
 have q2 : (l.length : Int) + 10 ≤ 140737488351232:=by omega
 simp [rowOf,hn,q,q2]
 rw [hr]
 refine zbN [.inr 4] rfl ?_ ?_ (by simp) ?_ ?_ ?_ ?_ <;> simp [rowOf]
def refSt (i : List UInt8 × Nat) : St:=mkSt [(5,.own 0 0 i.1.length),(6,.int .u64 i.2)] [(0,rowOf i.1)] 1
theorem zes : Lift.Spec Tryz.prog 109 intSp:=by
 refine zaj (C:=C3) zac C3_ok follows Tryz.func109 (by kernel_rfl) rfl (by kernel_rfl) rfl ?_
 rintro ⟨t,l,n⟩ ⟨hn,hlen⟩
 simp only at hn hlen
 refine ⟨by simp,?_⟩
 intro r hr
 have q : (l.length : Int) ≤ 140737488355328:=by omega
 simp [hn,q]
 refine zal refSt (fun i=>i.1 ++ enc i.2 = l ++ enc (code n) ∧ i.2 < 18446744073709551616) (fun i=>i.2) (l,code n) ?_ ⟨rfl,zdd hn⟩ ?_
 ·refine zak [.inr 5] ?_ ?_ ?_ ?_ <;> simp [rowOf]
 ·rintro ⟨acc,u⟩ ⟨h1,h2⟩
  simp only at h1 h2
  have q1 : (acc.length : Int) + 1 ≤ 140737488355328:=by
   have:=congrArg List.length h1
   simp only [List.length_append] at this
   have:=zhm u
   have:=zeP _ (zdd hn)
   omega
  simp [refSt,rowOf]
  refine zbU (fun hu=>?_) (fun hu=>?_) <;> simp [q1,zvE,zyv,zdv]
  ·refine Again.mk (acc ++ [hiB u],u / 128) ?_ ?_ ?_
   ·rw [zcM (by omega)] at h1
    exact ⟨by simpa using h1,by show u / 128 < _; omega⟩
   ·show u / 128 < u; omega
   ·have hw : IntKind.u64.wrap ((u : Int) / 128) = (u : Int) / 128:=zaS (by omega) (by omega)
    refine zak [.inr 5] ?_ ?_ ?_ ?_ <;> simp [rowOf,hw]
  ·rw [zcN (by omega)] at h1
   have hz : l.length + (enc (code n)).length = acc.length + 1:=by simpa using (congrArg List.length h1).symm
   rw [hr,← h1,hz]
   refine zbN [.inr 4] rfl ?_ ?_ (by simp) ?_ ?_ ?_ ?_ <;> simp [rowOf]
def padB (i x : Int) : Bool:=decide (0 < i ∧ x = 0)
def zjK (i x : Int) : Bool:=decide (i = 9 ∧ 1 < x)
noncomputable def padSp:=fam (fun i : Int × Int=>[V.int .i64 i.1,.int .u8 i.2]) (fun _=>[]) (fun _=>True) (fun i=>⟨.bool (padB i.1 i.2),[]⟩)
@[simp] theorem padSp_eq {i x : Int} : padSp [V.int .i64 i,.int .u8 x] [] = some ⟨.bool (padB i x),[]⟩ :=
 zag (A:=fun i : Int × Int=>[V.int .i64 i.1,.int .u8 i.2]) (fun i j h _=>by simp at h; rw [h.1,h.2]) (i,x) trivial
theorem zxi : Lift.Spec Tryz.prog 199 padSp:=by
 refine zaj (C:=C0) zac C0_ok follows Tryz.func199 (by kernel_rfl) rfl (by kernel_rfl) rfl ?_
 rintro ⟨i,x⟩ _
 refine ⟨by simp,?_⟩
 intro r hr
 by_cases hi : 0 < i <;> simp [hi] <;> rw [hr] <;> refine zaa rfl ?_ rfl <;> simp [hi,padB]
noncomputable def zmb:=fam (fun i : Int × Int=>[V.int .i64 i.1,.int .u8 i.2]) (fun _=>[]) (fun _=>True) (fun i=>⟨.bool (zjK i.1 i.2),[]⟩)
@[simp] theorem greatSp_eq {i x : Int} : zmb [V.int .i64 i,.int .u8 x] [] = some ⟨.bool (zjK i x),[]⟩ :=
 zag (A:=fun i : Int × Int=>[V.int .i64 i.1,.int .u8 i.2]) (fun i j h _=>by simp at h; rw [h.1,h.2]) (i,x) trivial
theorem zr2 : Lift.Spec Tryz.prog 200 zmb:=by
 refine zaj (C:=C0) zac C0_ok follows Tryz.func200 (by kernel_rfl) rfl (by kernel_rfl) rfl ?_
 rintro ⟨i,x⟩ _
 refine ⟨by simp,?_⟩
 intro r hr
 by_cases hi : i = 9 <;> simp [hi] <;> rw [hr] <;> refine zaa rfl ?_ rfl <;> simp [hi,zjK]
def zbV (c : Nat) : Int:=if c % 2 = 1 then -((c / 2 : Nat) : Int) - 1 else ((c / 2 : Nat) : Int)
theorem zoU {n : Int} : zbV (code n) = n:=by unfold zbV code; split <;> split <;> omega
theorem zoS {c : Nat} : code (zbV c) = c:=by unfold zbV code; split <;> split <;> omega
theorem zua {c : Nat} (h : c < 18446744073709551616) : In64 (zbV c):=by unfold In64 zbV; split <;> omega
noncomputable def zik:=fam (fun c : Nat=>[V.int .u64 c]) (fun _=>[]) (fun c=>c < 18446744073709551616) (fun c=>⟨.int .i64 (zbV c),[]⟩)
@[simp] theorem decodeSp_eq {c : Nat} (h : c < 18446744073709551616) : zik [V.int .u64 (c : Int)] [] = some ⟨.int .i64 (zbV c),[]⟩ :=
 zag (A:=fun c : Nat=>[V.int .u64 (c : Int)]) (fun i j h _=>by simp at h; rw [show i = j by omega]) c h
theorem zoV : Lift.Spec Tryz.prog 201 zik:=by
 refine zaj (C:=C0) zac C0_ok follows Tryz.func201 (by kernel_rfl) rfl (by kernel_rfl) rfl ?_
 intro c hc
 refine ⟨by simp,?_⟩
 intro r hr
 have h2 : (c : Int).fdiv 2 = ((c / 2 : Nat) : Int):=by
  rw [Int.fdiv_eq_ediv_of_nonneg _ (by omega)]; rfl
 have h3 : IntKind.i64.wrap ((c : Int) / 2) = (c : Int) / 2:=w64
 have h4 : IntKind.i64.wrap (-((c : Int) / 2) - 1) = -((c : Int) / 2) - 1:=w64
 have h1 : iAnd .u64 (c : Int) 1 = ((c % 2 : Nat) : Int):=by
  have : (BitVec.ofInt 64 (c : Int) &&& BitVec.ofInt 64 1).toNat = c % 2:=by
   show (BitVec.ofNat 64 c &&& 1#64).toNat = c % 2
   rw [BitVec.toNat_and,BitVec.toNat_ofNat,BitVec.toNat_ofNat]
   show _ &&& 1 = _
   rw [Nat.and_one_is_mod]; omega
  show IntKind.u64.wrap ((BitVec.ofInt 64 (c : Int) &&& BitVec.ofInt 64 1).toNat : Int) = _
  rw [this]; exact zaS (by omega) (by omega)
 simp
 refine zbU (fun hq=>?_) (fun hq=>?_)
 ·have ho : ((c % 2 : Nat) : Int) = 1:=h1.symm.trans hq
  have ho : c % 2 = 1:=by omega
  simp
  rw [hr]; refine zaa rfl ?_ rfl
  simp [zbV,ho,h2,h3,h4]
 ·have ho : ¬ ((c % 2 : Nat) : Int) = 1:=fun h=>hq (h1.trans h)
  have ho : ¬ c % 2 = 1:=by omega
  simp
  rw [hr]; refine zaa rfl ?_ rfl
  simp [zbV,ho,h2,h3]
def zbq : List UInt8 → Nat → Nat → Int × Int × Int
 | [],i,_=>if i < 10 then (0,0,17) else (0,0,18)
 | x :: l,i,c =>
  if 10 ≤ i then (0,0,18)
  else if 128 ≤ x.toNat then zbq l (i + 1) (c + x.toNat % 128 * 2 ^ (7 * i))
  else if (0 < i ∧ x.toNat = 0) ∨ (i = 9 ∧ 1 < x.toNat) then (0,0,18) else (zbV (c + x.toNat * 2 ^ (7 * i)),(i : Int) + 1,0)
noncomputable def takeT : List UInt8 → Int × Int × Int:=hush fun l=>zbq l 0 0
theorem zbk (l : List UInt8) : takeT l = zbq l 0 0:=by unfold takeT; rw [zdT]
noncomputable def takeV (l : List UInt8) : V:=.tup [.int .i64 (takeT l).1,.int .i64 (takeT l).2.1,.int .i64 (takeT l).2.2]
noncomputable def zdc:=fam (fun i : Nat × List UInt8=>[V.sl i.1 1 (zae i.2)]) (fun _=>[]) (fun _=>True) (fun i=>⟨takeV i.2,[]⟩)
@[simp] theorem takeSp_eq {t : Nat} {l : List UInt8} : zdc [V.sl t 1 (zae l)] [] = some ⟨takeV l,[]⟩ :=
 zag (A:=fun i : Nat × List UInt8=>[V.sl i.1 1 (zae i.2)]) (fun i j h _=>by simp at h; rw [h.2]) (t,l) trivial
noncomputable def CT:=mkC [(199,padSp),(200,zmb),(201,zik)]
theorem CT_ok : zai Tryz.prog CT:=zat (all_cons zxi (all_cons zr2 (all_cons zoV all_nil)))
@[simp] theorem CT_1 : CT 199 = padSp:=rfl
@[simp] theorem CT_2 : CT 200 = zmb:=rfl
@[simp] theorem CT_3 : CT 201 = zik:=rfl
theorem zmv {c y i : Nat} (hc : c < 2 ^ (7 * i)) (hy : c + y * 2 ^ (7 * i) < 18446744073709551616) : iOr .u64 (c : Int) (IntKind.u64.wrap ((y : Int) * 2 ^ (7 * i))) = ((c + y * 2 ^ (7 * i) : Nat) : Int):=by
 have e1 : (y : Int) * 2 ^ (7 * i) = ((y * 2 ^ (7 * i) : Nat) : Int):=by simp
 have e2 : y * 2 ^ (7 * i) < 18446744073709551616:=by omega
 rw [e1,zaS (x:=((y * 2 ^ (7 * i) : Nat) : Int)) (by omega) (by omega)]
 have : (BitVec.ofInt 64 (c : Int) ||| BitVec.ofInt 64 ((y * 2 ^ (7 * i) : Nat) : Int)).toNat = c + y * 2 ^ (7 * i):=by
  rw [BitVec.toNat_or,BitVec.ofInt_natCast,BitVec.ofInt_natCast,BitVec.toNat_ofNat,BitVec.toNat_ofNat,Nat.mod_eq_of_lt (by omega),Nat.mod_eq_of_lt (by omega),Nat.or_comm,Nat.mul_comm y,← Nat.two_pow_add_eq_or_of_lt hc]
  omega
 show IntKind.u64.wrap ((BitVec.ofInt 64 (c : Int) ||| BitVec.ofInt 64 ((y * 2 ^ (7 * i) : Nat) : Int)).toNat : Int) = _
 rw [this]
 exact zaS (by omega) (by omega)
theorem zgX {c y i : Nat} (hc : c < 2 ^ (7 * i)) (hi : i ≤ 8) (hy : y < 128) : c + y * 2 ^ (7 * i) < 2 ^ (7 * (i + 1)) ∧ c + y * 2 ^ (7 * i) < 18446744073709551616:=by
 have e : 2 ^ (7 * (i + 1)) = 128 * 2 ^ (7 * i):=by rw [show 7 * (i + 1) = 7 * i + 7 by omega,Nat.pow_add]; omega
 have h1 : y * 2 ^ (7 * i) ≤ 127 * 2 ^ (7 * i):=Nat.mul_le_mul_right _ (by omega)
 have h2 : 2 ^ (7 * (i + 1)) ≤ 2 ^ 63:=Nat.pow_le_pow_right (by decide) (by omega)
 have h3 : (2 : Nat) ^ 63 = 9223372036854775808:=by decide
 omega
theorem zlD (l : List UInt8) (c : Nat) : zbq l 10 c = (0,0,18):=by cases l <;> rfl
def tkSt (t tg : Nat) (l : List UInt8) (k : Nat) (i : Nat × Int) : St :=
 mkSt [(0,.sl t 1 (zae l)),(5,.int .u64 i.2),(12,.sl tg 1 (zae (l.take k))),(13,.int .i64 k),(14,.int .i64 i.1)] [] 0
theorem zko : Lift.Spec Tryz.prog 183 zdc:=by
 refine zaj (C:=CT) zac CT_ok follows Tryz.func183 (by kernel_rfl) rfl (by kernel_rfl) rfl ?_
 rintro ⟨t,l⟩ _
 refine ⟨by simp,?_⟩
 intro r hr
 obtain ⟨k,hk⟩ : ∃ k,k = min l.length 10:=⟨_,rfl⟩
 have hm : (if (10 : Int) < (l.length : Int) then 10 else (l.length : Int)) = (k : Int):=by split <;> omega
 have hk1 : k ≤ l.length:=by omega
 simp [hm,hk1]
 generalize htg : zdx t (decide ((k : Int) = (l.length : Int))) = tg
 refine zal (tkSt t tg l k) (fun i=>i.1 ≤ k ∧ (i.1 < 10 → ∃ c : Nat,i.2 = c ∧ c < 2 ^ (7 * i.1) ∧ zbq (l.drop i.1) i.1 c = zbq l 0 0) ∧ (i.1 = 10 → zbq l 0 0 = (0,0,18))) (fun i=>k - i.1) (0,0) ?_ ⟨by simp,fun _=>⟨0,by simp⟩,fun h=>by simp at h⟩ ?_
 ·refine zaW id ?_ ?_ ?_ ?_ <;> simp
 ·rintro ⟨i,c⟩ ⟨h1,h2,h3⟩
  simp only at h1 h2 h3
  by_cases hik : i < k
  ·obtain ⟨x,hx⟩ : ∃ x,l[i]? = some x:=⟨_,List.getElem?_eq_getElem (by omega)⟩
   have hi10 : i < 10:=by clear h2; omega
   obtain ⟨n,rfl,hn,ht⟩:=h2 hi10
   clear h2
   have hd : l.drop i = x :: l.drop (i + 1):=by
    have hi : i < l.length:=by omega
    rw [List.drop_eq_getElem_cons hi]; rw [List.getElem?_eq_getElem hi] at hx; cases hx; rfl
   rw [hd,zbq,if_neg (by omega)] at ht
   have w1 : IntKind.i64.wrap (7 * (i : Int)) = 7 * (i : Int):=w64
   have w2 : (min (7 * (i : Int)).toNat 64) = 7 * i:=by omega
   have w0 : ¬ (7 * (i : Int) < 0):=by omega
   have w3 : IntKind.u64.wrap ((x.toNat : Int).tmod 128) = ((x.toNat % 128 : Nat) : Int):=by
    rw [zri]; exact zaS (by omega) (by omega)
   have w4 : IntKind.i64.wrap ((i : Int) + 1) = (i : Int) + 1:=w64
   have hik' : (i : Int) < (k : Int):=by omega
   by_cases hb : 128 ≤ x.toNat
   ·have hb' : (128 : Int) ≤ (x.toNat : Int):=by omega
    rw [if_pos hb] at ht
    simp [tkSt,hik,hx,hb',w0,w1,w2,w3]
    refine Again.mk (i + 1,iOr .u64 (n : Int) (IntKind.u64.wrap (((x.toNat % 128 : Nat) : Int) * 2 ^ (7 * i)))) ⟨by show i + 1 ≤ k; omega,fun h=>?_,fun h=>?_⟩ (by show k - (i + 1) < k - i; omega) ?_
    ·have hp:=zgX hn (show i ≤ 8 by simp only at h; omega) (Nat.mod_lt x.toNat (show 128 > 0 by decide))
     exact ⟨_,zmv hn hp.2,hp.1,ht⟩
    ·simp only at h
     rw [← ht,show i + 1 = 10 from h,zlD]
    ·refine zaW id ?_ ?_ ?_ ?_ <;> simp [w4]
   ·have hb' : ¬ (128 : Int) ≤ (x.toNat : Int):=by omega
    rw [if_neg hb] at ht
    by_cases hp : padB i x.toNat = true
    ·simp [tkSt,hik,hx,hb',w0,w1,w2,w3,hp]
     rw [hr]; refine zaa rfl ?_ rfl
     simp only [padB,decide_eq_true_eq] at hp
     rw [if_pos (.inl (by omega))] at ht
     simp [takeV,zbk,← ht]
    ·by_cases hg : zjK i x.toNat = true
     ·simp [tkSt,hik,hx,hb',w0,w1,w2,w3,hp,hg]
      rw [hr]; refine zaa rfl ?_ rfl
      simp only [zjK,decide_eq_true_eq] at hg
      rw [if_pos (.inr (by omega))] at ht
      simp [takeV,zbk,← ht]
     ·have hsm : x.toNat % 128 = x.toNat:=Nat.mod_eq_of_lt (by omega)
      have hc : n + x.toNat * 2 ^ (7 * i) < 18446744073709551616:=by
       simp only [zjK,decide_eq_true_eq] at hg
       by_cases h9 : i = 9
       ·subst h9
        have : x.toNat ≤ 1:=by omega
        have e63 : 2 ^ (7 * 9) = 9223372036854775808:=by decide
        rw [e63] at hn ⊢
        have : x.toNat * 9223372036854775808 ≤ 9223372036854775808:=by omega
        omega
       ·exact (zgX hn (show i ≤ 8 by omega) (show x.toNat < 128 by omega)).2
      have ho:=zmv hn hc
      rw [hsm] at w3
      generalize n + x.toNat * 2 ^ (7 * i) = m at *
      simp [tkSt,hik,hx,hb',w0,w1,w2,w3,w4,hp,hg,ho,hc]
      rw [if_neg (by simp only [padB,zjK,decide_eq_true_eq] at hp hg; omega)] at ht
      rw [hr]
      refine zaa rfl ?_ rfl
      simp [takeV,zbk,← ht]
  ·have : i = k:=by omega
   subst this
   simp [tkSt]
   refine zbU (fun h=>?_) (fun h=>?_) <;> simp <;> rw [hr]
   ·refine zaa rfl ?_ rfl
    obtain ⟨c,_,_,hc⟩:=h2 (by omega)
    have : i = l.length:=by omega
    rw [this,List.drop_length,zbq,if_pos (by omega)] at hc
    simp [takeV,zbk,← hc]
   ·refine zaa rfl ?_ rfl
    have:=h3 (by omega)
    simp [takeV,zbk,this]
theorem Int.ofNat_tmod_two (m : Nat) : (m : Int).tmod 2 = ((m % 2 : Nat) : Int):=rfl
def rkSt (t : Nat) (l : List UInt8) (i : Nat × Int) : St :=
 mkSt [(0,.sl t 1 (zae l)),(5,.int .u64 i.2),(6,.int .i64 i.1)] [] 0
theorem zdK : Lift.Spec Tryz.prog 136 zdc:=by
 refine zaj (C:=C0) zac C0_ok follows Tryz.func136 (by kernel_rfl) rfl (by kernel_rfl) rfl ?_
 rintro ⟨t,l⟩ _
 refine ⟨by simp,?_⟩
 intro r hr
 simp
 refine zal (rkSt t l) (fun i=>i.1 ≤ 10 ∧ i.1 ≤ l.length ∧ (i.1 < 10 → ∃ c : Nat,i.2 = c ∧ c < 2 ^ (7 * i.1) ∧ zbq (l.drop i.1) i.1 c = zbq l 0 0) ∧ (i.1 = 10 → zbq l 0 0 = (0,0,18))) (fun i=>10 - i.1) (0,0) ?_ ⟨by simp,by simp,fun _=>⟨0,by simp⟩,fun h=>by simp at h⟩ ?_
 ·refine zaW id ?_ ?_ ?_ ?_ <;> simp
 ·rintro ⟨i,c⟩ ⟨h1,hl,h2,h3⟩
  simp only at h1 hl h2 h3
  by_cases hik : i < 10
  ·obtain ⟨n,rfl,hn,ht⟩:=h2 hik
   clear h2
   have hik' : (i : Int) < 10:=by omega
   by_cases hil : i = l.length
   ·subst hil
    simp [rkSt,hik']
    rw [hr]; refine zaa rfl ?_ rfl
    rw [List.drop_length,zbq,if_pos (by omega)] at ht
    simp [takeV,zbk,← ht]
   ·have hil' : ¬ (i : Int) = (l.length : Int):=by omega
    obtain ⟨x,hx⟩ : ∃ x,l[i]? = some x:=⟨_,List.getElem?_eq_getElem (by omega)⟩
    have hd : l.drop i = x :: l.drop (i + 1):=by
     have hi : i < l.length:=by omega
     rw [List.drop_eq_getElem_cons hi]; rw [List.getElem?_eq_getElem hi] at hx; cases hx; rfl
    rw [hd,zbq,if_neg (by omega)] at ht
    have w1 : IntKind.i64.wrap (7 * (i : Int)) = 7 * (i : Int):=w64
    have w2 : (min (7 * (i : Int)).toNat 64) = 7 * i:=by omega
    have w0 : ¬ (7 * (i : Int) < 0):=by omega
    have w4 : IntKind.i64.wrap ((i : Int) + 1) = (i : Int) + 1:=w64
    have w5 : IntKind.u64.wrap (7 * (i : Int)) = 7 * (i : Int):=zaS (by omega) (by omega)
    have w6 : IntKind.u64.wrap (x.toNat : Int) = (x.toNat : Int):=zaS (by omega) (by have:=x.toNat_lt; omega)
    by_cases hb : 128 ≤ x.toNat
    ·have hb' : ¬ (x.toNat : Int) < 128:=by omega
     rw [if_pos hb] at ht
     have w7 : IntKind.u8.wrap ((x.toNat : Int) - 128) = ((x.toNat % 128 : Nat) : Int):=by rw [zhE (by omega) (by have:=x.toNat_lt; omega)]; have:=x.toNat_lt; omega
     have w8 : IntKind.u64.wrap ((x.toNat % 128 : Nat) : Int) = ((x.toNat % 128 : Nat) : Int):=zaS (by omega) (by omega)
     generalize hy : x.toNat % 128 = y at *
     simp [rkSt,hik',hil',hx,hb',w0,w1,w2,w4,w5,w7,w8]
     refine Again.mk (i + 1,iOr .u64 (n : Int) (IntKind.u64.wrap ((y : Int) * 2 ^ (7 * i)))) ⟨by show i + 1 ≤ 10; omega,by show i + 1 ≤ l.length; omega,fun h=>?_,fun h=>?_⟩ (by show 10 - (i + 1) < 10 - i; omega) ?_
     ·have hp:=zgX hn (show i ≤ 8 by simp only at h; omega) (show y < 128 by omega)
      exact ⟨_,zmv hn hp.2,hp.1,ht⟩
     ·simp only at h
      rw [← ht,show i + 1 = 10 from h,zlD]
     ·refine zaW id ?_ ?_ ?_ ?_ <;> simp
    ·have hb' : (x.toNat : Int) < 128:=by omega
     rw [if_neg hb] at ht
     by_cases hp : 0 < i ∧ x.toNat = 0
     ·rw [if_pos (.inl hp)] at ht
      simp [rkSt,hik',hil',hx,hp.1,hp.2]
      rw [hr]; refine zaa rfl ?_ rfl
      simp [takeV,zbk,← ht]
     ·by_cases hg : i = 9 ∧ 1 < x.toNat
      ·rw [if_pos (.inr hg)] at ht
       obtain ⟨rfl,hg⟩:=hg
       have hx0 : ¬ x.toNat = 0:=by omega
       have hg2 : (1 : Int) < (x.toNat : Int):=by omega
       simp at hil'
       simp [rkSt,hil',hx,hb',hx0,hg2]
       rw [hr]; refine zaa rfl ?_ rfl
       simp [takeV,zbk,← ht]
      ·rw [if_neg (by omega)] at ht
       have hc : n + x.toNat * 2 ^ (7 * i) < 18446744073709551616:=by
        by_cases h9 : i = 9
        ·subst h9
         have : x.toNat ≤ 1:=by omega
         have e63 : 2 ^ (7 * 9) = 9223372036854775808:=by decide
         rw [e63] at hn ⊢
         have : x.toNat * 9223372036854775808 ≤ 9223372036854775808:=by omega
         omega
        ·exact (zgX hn (show i ≤ 8 by omega) (show x.toNat < 128 by omega)).2
       have ho:=zmv hn hc
       generalize n + x.toNat * 2 ^ (7 * i) = m at *
       have m1 : IntKind.i64.wrap ((m : Int) / 2) = (m : Int) / 2:=w64
       have m2 : IntKind.u64.wrap ((m : Int) / 2) = (m : Int) / 2:=zaS (by omega) (by omega)
       have m3 : IntKind.i64.wrap (-((m : Int) / 2)) = -((m : Int) / 2):=w64
       have m4 : IntKind.i64.wrap (-((m : Int) / 2) - 1) = -((m : Int) / 2) - 1:=w64
       have hx0 : 0 < i → ¬ x.toNat = 0:=by omega
       by_cases h0 : 0 < i
       ·have hx0:=hx0 h0
        by_cases h9 : i = 9
        ·have hx1 : ¬ (1 : Int) < (x.toNat : Int):=by omega
         simp [rkSt,hik',hil',hx,hb',h0,hx0]
         refine zqe (fun g9=>?_) (fun g9=>absurd h9 (by simp at g9; omega))
         simp [hx,hx1,g9,w0,w1,w2,w5,w6,ho]
         refine zbU (fun hq=>?_) (fun hq=>?_)
         ·rw [Int.ofNat_tmod_two,Int.natCast_eq_zero] at hq
          simp [m1,m2,w4]
          rw [hr]; refine zaa rfl ?_ rfl
          simp [zbV,hq] at ht
          simp [takeV,zbk,← ht]
         ·rw [Int.ofNat_tmod_two,Int.natCast_eq_zero] at hq
          have hq : m % 2 = 1:=by omega
          simp [m1,m2,m3,m4,w4]
          rw [hr]; refine zaa rfl ?_ rfl
          simp [zbV,hq] at ht
          simp [takeV,zbk,← ht]
        ·have h9' : ¬ (i : Int) = 9:=by omega
         simp [rkSt,hik',hil',hx,hb',w0,w1,w2,w5,w6,ho,h0,hx0,h9']
         refine zbU (fun hq=>?_) (fun hq=>?_)
         ·rw [Int.ofNat_tmod_two,Int.natCast_eq_zero] at hq
          simp [m1,m2,w4]
          rw [hr]; refine zaa rfl ?_ rfl
          simp [zbV,hq] at ht
          simp [takeV,zbk,← ht]
         ·rw [Int.ofNat_tmod_two,Int.natCast_eq_zero] at hq
          have hq : m % 2 = 1:=by omega
          simp [m1,m2,m3,m4,w4]
          rw [hr]; refine zaa rfl ?_ rfl
          simp [zbV,hq] at ht
          simp [takeV,zbk,← ht]
       ·have h9' : ¬ (i : Int) = 9:=by omega
        simp [rkSt,hik',hil',hx,hb',w0,w1,w2,w5,w6,ho,h0,h9']
        refine zbU (fun hq=>?_) (fun hq=>?_)
        ·rw [Int.ofNat_tmod_two,Int.natCast_eq_zero] at hq
         simp [m1,m2,w4]
         rw [hr]; refine zaa rfl ?_ rfl
         simp [zbV,hq] at ht
         simp [takeV,zbk,← ht]
        ·rw [Int.ofNat_tmod_two,Int.natCast_eq_zero] at hq
         have hq : m % 2 = 1:=by omega
         simp [m1,m2,m3,m4,w4]
         rw [hr]; refine zaa rfl ?_ rfl
         simp [zbV,hq] at ht
         simp [takeV,zbk,← ht]
  ·have : i = 10:=by clear h2; omega
   subst this
   simp [rkSt]
   rw [hr]; refine zaa rfl ?_ rfl
   have:=h3 rfl
   simp [takeV,zbk,this]
end Go.Proofs.YtcpdgbncekdicaaGreat

namespace Go.Proofs.YtcpdgbncekdicaaGreat
open Go.Lift
theorem zuJ {u : Nat} (h : u < 128) : (loB u).toNat = u:=by simp [loB]; omega
theorem zpk (u : Nat) : (hiB u).toNat = u % 128 + 128:=by simp [hiB]; omega
theorem zs0 (rest : List UInt8) : ∀ (u i c : Nat),i ≤ 9 → u < 2 ^ (64 - 7 * i) → (0 < i → 0 < u) → zbq (enc u ++ rest) i c = (zbV (c + u * 2 ^ (7 * i)),(i : Int) + (enc u).length,0):=by
 intro u
 induction u using Nat.strongRecOn with
 | _ u ih =>
  intro i c hi hu hp
  by_cases h : u < 128
  ·rw [zcN h]
   show zbq (loB u :: rest) i c = _
   rw [zbq,if_neg (by omega),zuJ h,if_neg (by omega),if_neg]
   ·rfl
   ·intro hc
    rcases hc with hc | hc
    ·have:=hp hc.1; omega
    ·have e : 64 - 7 * i = 1:=by omega
     rw [e] at hu; omega
  ·rw [zcM h]
   show zbq (hiB u :: (enc (u / 128) ++ rest)) i c = _
   have hi8 : i ≤ 8:=by
    apply Classical.byContradiction
    intro hn
    have e : 64 - 7 * i = 1:=by omega
    rw [e] at hu; omega
   have e1 : 2 ^ (64 - 7 * i) = 2 ^ (64 - 7 * (i + 1)) * 128:=by
    rw [show 64 - 7 * i = (64 - 7 * (i + 1)) + 7 by omega,Nat.pow_add]
   have hq : u / 128 < 2 ^ (64 - 7 * (i + 1)):=by
    rw [Nat.div_lt_iff_lt_mul (by omega)]; omega
   rw [zbq,if_neg (by omega),zpk,if_pos (by omega),ih (u / 128) (by omega) (i + 1) _ (by omega) hq (fun _=>by omega)]
   have e2 : (u % 128 + 128) % 128 = u % 128:=by omega
   have e3 : 2 ^ (7 * (i + 1)) = 128 * 2 ^ (7 * i):=by rw [show 7 * (i + 1) = 7 * i + 7 by omega,Nat.pow_add]; omega
   have e4 : c + u % 128 * 2 ^ (7 * i) + u / 128 * (128 * 2 ^ (7 * i)) = c + u * 2 ^ (7 * i):=by
    have : u % 128 * 2 ^ (7 * i) + u / 128 * (128 * 2 ^ (7 * i)) = u * 2 ^ (7 * i):=by
     rw [← Nat.mul_assoc,← Nat.add_mul]
     congr 1; omega
    omega
   rw [e2,e3,e4]
   simp only [List.length_cons,Prod.mk.injEq,true_and,and_true]
   omega
theorem zcu {n : Int} (hn : In64 n) (rest : List UInt8) : takeT (enc (code n) ++ rest) = (n,((enc (code n)).length : Int),0):=by
 rw [zbk,zs0 rest (code n) 0 0 (by omega) (by have:=zdd hn; simpa using this) (fun h=>by omega)]
 simp [zoU]
theorem zkn : ∀ (l : List UInt8) (i c : Nat) (n k : Int),i ≤ 10 → c < 2 ^ (7 * i) → zbq l i c = (n,k,0) →
 ∃ u rest,l = enc u ++ rest ∧ n = zbV (c + u * 2 ^ (7 * i)) ∧ k = (i : Int) + (enc u).length ∧ c + u * 2 ^ (7 * i) < 18446744073709551616 ∧ (0 < i → 0 < u)
 | [],i,c,n,k,_,_,h=>by
  rw [zbq] at h
  split at h <;> simp at h
 | x :: l,i,c,n,k,hi,hc,h=>by
  rw [zbq] at h
  split at h
  ·simp at h
  ·rename_i hi10
   split at h
   ·rename_i hx
    have e3 : 2 ^ (7 * (i + 1)) = 128 * 2 ^ (7 * i):=by rw [show 7 * (i + 1) = 7 * i + 7 by omega,Nat.pow_add]; omega
    have hm : x.toNat % 128 * 2 ^ (7 * i) ≤ 127 * 2 ^ (7 * i):=Nat.mul_le_mul_right _ (by omega)
    obtain ⟨u,rest,h1,h2,h3,h4,h5⟩:=zkn l (i + 1) _ n k (by omega) (by rw [e3]; omega) h
    have hu:=h5 (by omega)
    have e5 : (128 * u + x.toNat % 128) / 128 = u:=by omega
    have e6 : (128 * u + x.toNat % 128) % 128 = x.toNat % 128:=by omega
    have e4 : c + (128 * u + x.toNat % 128) * 2 ^ (7 * i) = c + x.toNat % 128 * 2 ^ (7 * i) + u * 2 ^ (7 * (i + 1)):=by
     rw [e3,Nat.add_mul,← Nat.mul_assoc,Nat.mul_comm 128 u]; omega
    have hlt:=x.toNat_lt
    refine ⟨128 * u + x.toNat % 128,rest,?_,by rw [e4]; exact h2,?_,by rw [e4]; exact h4,fun _=>by omega⟩
    ·rw [zcM (by omega),e5,h1]
     have : hiB (128 * u + x.toNat % 128) = x:=by
      apply UInt8.toNat_inj.1
      rw [zpk,e6]; omega
     rw [this]; rfl
    ·rw [zcM (by omega),e5,List.length_cons,h3]; push_cast; omega
   ·rename_i hx
    split at h
    ·simp at h
    ·rename_i hg
     simp only [Prod.mk.injEq,and_true] at h
     have hb : loB x.toNat = x:=by apply UInt8.toNat_inj.1; rw [zuJ (by omega)]
     refine ⟨x.toNat,l,by rw [zcN (by omega),hb]; rfl,h.1.symm,by rw [zcN (by omega)]; simp [← h.2],?_,fun h0=>by omega⟩
     by_cases h9 : i = 9
     ·subst h9
      have : x.toNat ≤ 1:=by omega
      have e63 : 2 ^ (7 * 9) = 9223372036854775808:=by decide
      rw [e63] at hc ⊢
      have : x.toNat * 9223372036854775808 ≤ 9223372036854775808:=by omega
      omega
     ·exact (zgX hc (show i ≤ 8 by omega) (show x.toNat < 128 by omega)).2
theorem zfH {l : List UInt8} {n k : Int} (h : takeT l = (n,k,0)) : In64 n ∧ ∃ rest,l = enc (code n) ++ rest ∧ k = (enc (code n)).length:=by
 rw [zbk] at h
 obtain ⟨u,rest,h1,h2,h3,h4,_⟩:=zkn l 0 0 n k (by omega) (by simp) h
 simp only [Nat.mul_zero,Nat.pow_zero,Nat.mul_one,Nat.zero_add] at h2 h4
 rw [h2,zoS]
 exact ⟨zua h4,rest,h1,by simpa using h3⟩
theorem zlC : ∀ (l : List UInt8) (i c : Nat),zbq l i c = (0,0,17) ∨ zbq l i c = (0,0,18) ∨ ∃ n k,zbq l i c = (n,k,0)
 | [],i,c=>by
  rw [zbq]; split
  ·exact .inl rfl
  ·exact .inr (.inl rfl)
 | x :: l,i,c=>by
  rw [zbq]
  split
  ·exact .inr (.inl rfl)
  ·split
   ·exact zlC l _ _
   ·split
    ·exact .inr (.inl rfl)
    ·exact .inr (.inr ⟨_,_,rfl⟩)
theorem zvy (l : List UInt8) : takeT l = (0,0,17) ∨ takeT l = (0,0,18) ∨ ∃ n k,takeT l = (n,k,0):=by rw [zbk]; exact zlC l 0 0
theorem zqR : In64 (-1):=by unfold In64; omega
theorem zeU {t : Nat} {n : Int} (h : In64 n) : intSp [V.sl t 1 [],.int .i64 n] [] = some ⟨.own 0 0 (enc (code n)).length,[rowOf (enc (code n))]⟩:=by
 have:=zw8 (t:=t) (l:=[]) h (by simp)
 simpa using this
noncomputable def CW:=mkC [(177,intSp),(109,intSp),(183,zdc),(136,zdc)]
theorem CW_ok : zai Tryz.prog CW:=zat (all_cons ziu (all_cons zes (all_cons zko (all_cons zdK all_nil))))
@[simp] theorem CW_1 : CW 177 = intSp:=rfl
@[simp] theorem CW_2 : CW 109 = intSp:=rfl
@[simp] theorem CW_3 : CW 183 = zdc:=rfl
@[simp] theorem CW_4 : CW 136 = zdc:=rfl
noncomputable def lenT0 (l : List UInt8) : Int × Int × Int :=
 if (takeT l).2.2 = 0 then (if (takeT l).1 < 0 then (0,0,18) else if 65536 < (takeT l).1 then (0,0,2) else ((takeT l).1,(takeT l).2.1,0)) else (0,0,(takeT l).2.2)
noncomputable def lenT : List UInt8 → Int × Int × Int:=hush lenT0
theorem zcQ (l : List UInt8) : lenT l = lenT0 l:=by unfold lenT; rw [zdT]
noncomputable def lenV (l : List UInt8) : V:=.tup [.int .i64 (lenT l).1,.int .i64 (lenT l).2.1,.int .i64 (lenT l).2.2]
noncomputable def lenSp:=fam (fun i : Nat × List UInt8=>[V.sl i.1 1 (zae i.2)]) (fun _=>[]) (fun _=>True) (fun i=>⟨lenV i.2,[]⟩)
@[simp] theorem lenSp_eq {t : Nat} {l : List UInt8} : lenSp [V.sl t 1 (zae l)] [] = some ⟨lenV l,[]⟩ :=
 zag (A:=fun i : Nat × List UInt8=>[V.sl i.1 1 (zae i.2)]) (fun i j h _=>by simp at h; rw [h.2]) (t,l) trivial
theorem zsm (l : List UInt8) : (∃ e,¬ e = 0 ∧ lenT l = (0,0,e)) ∨ ∃ n k : Nat,lenT l = ((n : Int),(k : Int),0) ∧ n ≤ 65536 ∧ k ≤ l.length ∧ 1 ≤ k ∧ k ≤ 10 ∧ ∃ rest,l = enc (code (n : Int)) ++ rest ∧ k = (enc (code (n : Int))).length:=by
 rcases hT : takeT l with ⟨a,b,c⟩
 by_cases hc : c = 0
 ·subst hc
  by_cases ha : a < 0
  ·exact .inl ⟨18,by decide,by rw [zcQ,lenT0,hT]; simp [ha]⟩
  ·by_cases hb : 65536 < a
   ·exact .inl ⟨2,by decide,by rw [zcQ,lenT0,hT]; simp [ha,hb]⟩
   ·obtain ⟨hn,rest,h1,h2⟩:=zfH hT
    have e : ((a.toNat : Nat) : Int) = a:=by omega
    refine .inr ⟨a.toNat,(enc (code a)).length,by rw [zcQ,lenT0,hT]; simp [ha,hb,h2,e],by omega,by rw [h1]; simp,zhm _,zeP _ (zdd hn),rest,by rw [e]; exact h1,by rw [e]⟩
 ·exact .inl ⟨c,hc,by rw [zcQ,lenT0,hT]; simp [hc]⟩
end Go.Proofs.YtcpdgbncekdicaaGreat

namespace Go.Proofs.YtcpdgbncekdicaaGreat
open Go.Lift
def mixB (h n : BitVec 64) : BitVec 64:=((h ^^^ n) * 1099511628211#64) ^^^ (((h ^^^ n) * 1099511628211#64) >>> 29)
theorem zgd (x : BitVec 64) : BitVec.ofInt 64 (x.toNat : Int) = x:=by
 apply BitVec.eq_of_toNat_eq
 rw [BitVec.ofInt_natCast,BitVec.toNat_ofNat]
 exact Nat.mod_eq_of_lt x.isLt
theorem zpl (x : BitVec 64) : InU64 (x.toNat : Int):=by have:=x.isLt; unfold InU64; omega
theorem wrapB (n : Int) : IntKind.u64.wrap n = ((BitVec.ofInt 64 n).toNat : Int):=by
 rw [zeC,BitVec.toNat_ofInt]
 show n % 18446744073709551616 = ((n % 18446744073709551616).toNat : Int)
 omega
theorem xorB (a b : Int) : iXor .u64 a b = ((BitVec.ofInt 64 a ^^^ BitVec.ofInt 64 b).toNat : Int):=by
 show IntKind.u64.wrap _ = _
 exact zaS (by omega) (by have:=(BitVec.ofInt 64 a ^^^ BitVec.ofInt 64 b).isLt; simp only [zwH] at *; omega)
theorem mulB (a : BitVec 64) : IntKind.u64.wrap ((a.toNat : Int) * 1099511628211) = ((a * 1099511628211#64).toNat : Int):=by
 rw [zeC,BitVec.toNat_mul]
 show (a.toNat : Int) * 1099511628211 % 18446744073709551616 = ((a.toNat * 1099511628211 % 18446744073709551616 : Nat) : Int)
 omega
theorem shrB (a : BitVec 64) : (a.toNat : Int).fdiv 536870912 = ((a >>> 29).toNat : Int):=by
 rw [BitVec.toNat_ushiftRight,Nat.shiftRight_eq_div_pow,Int.fdiv_eq_ediv_of_nonneg _ (by omega)]
 rfl
theorem zvs {y z : BitVec 64} (h : y ^^^ y >>> 29 = z ^^^ z >>> 29) : y = z:=by
 have e : (y ^^^ z) = (y ^^^ z) >>> 29:=by
  rw [BitVec.ushiftRight_xor_distrib]
  have h2 : (y ^^^ y >>> 29) ^^^ (y >>> 29 ^^^ z) = (z ^^^ z >>> 29) ^^^ (y >>> 29 ^^^ z):=by rw [h]
  have h3 : (y ^^^ y >>> 29) ^^^ (y >>> 29 ^^^ z) = y ^^^ z:=by
   rw [BitVec.xor_assoc,← BitVec.xor_assoc (y >>> 29),BitVec.xor_self,BitVec.zero_xor]
  have h4 : (z ^^^ z >>> 29) ^^^ (y >>> 29 ^^^ z) = y >>> 29 ^^^ z >>> 29:=by
   rw [BitVec.xor_comm z,BitVec.xor_assoc,BitVec.xor_comm (y >>> 29) z,← BitVec.xor_assoc z z,BitVec.xor_self,BitVec.zero_xor,BitVec.xor_comm]
  rw [← h3,h2,h4]
 have e2 : (y ^^^ z).toNat = (y ^^^ z).toNat / 536870912:=by
  have:=congrArg BitVec.toNat e
  rw [BitVec.toNat_ushiftRight,Nat.shiftRight_eq_div_pow] at this
  exact this
 have e3 : y ^^^ z = 0#64:=by
  apply BitVec.eq_of_toNat_eq
  show (y ^^^ z).toNat = 0
  omega
 have : (y ^^^ z) ^^^ z = 0#64 ^^^ z:=by rw [e3]
 rwa [BitVec.xor_assoc,BitVec.xor_self,BitVec.xor_zero,BitVec.zero_xor] at this
theorem zzj {y z : BitVec 64} (h : y * 1099511628211#64 = z * 1099511628211#64) : y = z:=by
 have k : (1099511628211#64 : BitVec 64) * 14886173955864302971#64 = 1#64:=by decide
 have:=congrArg (· * (14886173955864302971#64 : BitVec 64)) h
 simpa only [BitVec.mul_assoc,k,BitVec.mul_one] using this
theorem zq1 {g h n m : BitVec 64} (e : mixB g n = mixB h m) : g ^^^ n = h ^^^ m:=zzj (zvs e)
theorem zxa {h n m : BitVec 64} : mixB h n = mixB h m ↔ n = m:=by
 refine ⟨fun e=>?_,fun e=>by rw [e]⟩
 have:=congrArg (h ^^^ ·) (zq1 e)
 simpa only [← BitVec.xor_assoc,BitVec.xor_self,BitVec.zero_xor] using this
theorem zuR {g h n : BitVec 64} : mixB g n = mixB h n ↔ g = h:=by
 refine ⟨fun e=>?_,fun e=>by rw [e]⟩
 have:=congrArg (· ^^^ n) (zq1 e)
 simpa only [BitVec.xor_assoc,BitVec.xor_self,BitVec.xor_zero] using this
noncomputable def mixI : Int → Int → Int:=hush fun h n=>((mixB (BitVec.ofInt 64 h) (BitVec.ofInt 64 n)).toNat : Int)
theorem zeW (h n : Int) : mixI h n = ((mixB (BitVec.ofInt 64 h) (BitVec.ofInt 64 n)).toNat : Int):=by unfold mixI; rw [zdT]
theorem zem (h n : Int) : InU64 (mixI h n):=by rw [zeW]; exact zpl _
theorem zuX {a b : Int} (ha : In64 a) (hb : In64 b) : BitVec.ofInt 64 a = BitVec.ofInt 64 b ↔ a = b:=by
 refine ⟨fun e=>?_,fun e=>by rw [e]⟩
 have:=congrArg BitVec.toInt e
 unfold In64 at ha hb
 rw [BitVec.toInt_ofInt,BitVec.toInt_ofInt,Int.bmod_eq_of_le (by omega) (by omega),Int.bmod_eq_of_le (by omega) (by omega)] at this
 exact this
theorem zsu {a b : Int} (ha : InU64 a) (hb : InU64 b) : BitVec.ofInt 64 a = BitVec.ofInt 64 b ↔ a = b:=by
 refine ⟨fun e=>?_,fun e=>by rw [e]⟩
 have:=congrArg BitVec.toNat e
 unfold InU64 at ha hb
 rw [BitVec.toNat_ofInt,BitVec.toNat_ofInt] at this
 have e1 : (a % 18446744073709551616).toNat = (b % 18446744073709551616).toNat:=this
 omega
theorem zxb {h a b : Int} (ha : In64 a) (hb : In64 b) : mixI h a = mixI h b ↔ a = b:=by
 rw [zeW,zeW,Int.natCast_inj,← BitVec.toNat_eq,zxa,zuX ha hb]
theorem znQ {g h n : Int} (hg : InU64 g) (hh : InU64 h) : mixI g n = mixI h n ↔ g = h:=by
 rw [zeW,zeW,Int.natCast_inj,← BitVec.toNat_eq,zuR,zsu hg hh]
theorem zuS (h n : Int) : mixI h (IntKind.i64.wrap n) = mixI h n:=by
 have : BitVec.ofInt 64 (IntKind.i64.wrap n) = BitVec.ofInt 64 n:=by
  apply BitVec.eq_of_toNat_eq
  rw [BitVec.toNat_ofInt,BitVec.toNat_ofInt,zmM]
  show (_ % (18446744073709551616 : Int)).toNat = (n % (18446744073709551616 : Int)).toNat
  split <;> omega
 rw [zeW,zeW,this]
theorem zuB (n : Int) : In64 (IntKind.i64.wrap n):=by rw [zmM]; unfold In64; split <;> omega
theorem zqT {n : Nat} (h : (n : Int) ≤ 9223372036854775807) : In64 (n : Int):=by unfold In64; omega
theorem zuA (x : UInt8) : In64 (x.toNat : Int):=by have:=x.toNat_lt; unfold In64; omega
noncomputable def foldI : Int → List UInt8 → Int:=hush fun h l=>l.foldl (fun h x=>mixI h (x.toNat : Int)) h
theorem zfn (h : Int) (l : List UInt8) : foldI h l = l.foldl (fun h x=>mixI h (x.toNat : Int)) h:=by unfold foldI; rw [zdT]
theorem zgI (h : Int) : foldI h [] = h:=zfn h []
theorem zis {h : Int} (hh : InU64 h) (l : List UInt8) : InU64 (foldI h l):=by
 rw [zfn]
 have : ∀ (l : List UInt8) (h : Int),InU64 h → InU64 (l.foldl (fun h x=>mixI h (x.toNat : Int)) h):=by
  intro l
  induction l with
  | nil=>intro h hh; exact hh
  | cons x l ih=>intro h _; exact ih _ (zem _ _)
 exact this l h hh
theorem zup (l : List UInt8) : ∀ {g h : Int},InU64 g → InU64 h → (foldI g l = foldI h l ↔ g = h):=by
 induction l with
 | nil=>intro g h _ _; rw [zgI,zgI]
 | cons x l ih =>
  intro g h hg hh
  have e : ∀ g,foldI g (x :: l) = foldI (mixI g (x.toNat : Int)) l:=fun g=>by rw [zfn,zfn]; rfl
  rw [e,e,ih (zem _ _) (zem _ _),znQ hg hh]
theorem zk4 {h : Int} {l : List UInt8} {i : Nat} {x : UInt8} (hx : l[i]? = some x) : foldI h (l.take (i + 1)) = mixI (foldI h (l.take i)) (x.toNat : Int):=by
 rw [zfn,zfn,List.take_add_one,hx]
 simp
noncomputable def allI (h : Int) (l : List UInt8) : Int:=mixI (foldI h l) (l.length : Int)
noncomputable def sumI : Int → List UInt8 → Int:=hush fun key l=>allI (mixI 14695981039346656037 key) l
theorem zkm (key : Int) (l : List UInt8) : sumI key l = allI (mixI 14695981039346656037 key) l:=by unfold sumI; rw [zdT]
theorem zxF {a b : Int} (ha : In64 a) (hb : In64 b) (l : List UInt8) : sumI a l = sumI b l ↔ a = b:=by
 rw [zkm,zkm,allI,allI,znQ (zis (zem _ _) _) (zis (zem _ _) _),zup l (zem _ _) (zem _ _),zxb ha hb]
attribute [simp] zem zuA zuS zuB
noncomputable def mixSp:=fam (fun i : Int × Int=>[V.int .u64 i.1,.int .i64 i.2]) (fun _=>[]) (fun i=>InU64 i.1 ∧ In64 i.2) (fun i=>⟨.int .u64 (mixI i.1 i.2),[]⟩)
@[simp] theorem mixSp_eq {h n : Int} (h1 : InU64 h) (h2 : In64 n) : mixSp [V.int .u64 h,.int .i64 n] [] = some ⟨.int .u64 (mixI h n),[]⟩ :=
 zag (A:=fun i : Int × Int=>[V.int .u64 i.1,.int .i64 i.2]) (fun i j h _=>by simp at h; rw [h.1,h.2]) (h,n) ⟨h1,h2⟩
theorem zq2 {h n : Int} : iXor .u64 (IntKind.u64.wrap (iXor .u64 h (IntKind.u64.wrap n) * 1099511628211)) ((IntKind.u64.wrap (iXor .u64 h (IntKind.u64.wrap n) * 1099511628211)).fdiv 536870912) = mixI h n:=by
 have e1 : iXor .u64 h (IntKind.u64.wrap n) = ((BitVec.ofInt 64 h ^^^ BitVec.ofInt 64 n).toNat : Int):=by rw [wrapB n,xorB,zgd]
 rw [e1,mulB,shrB,xorB,zgd,zgd,zeW]
 rfl
theorem zq3 : Lift.Spec Tryz.prog 185 mixSp:=by
 refine zaj (C:=C0) zac C0_ok follows Tryz.func185 (by kernel_rfl) rfl (by kernel_rfl) rfl ?_
 rintro ⟨h,n⟩ _
 refine ⟨by simp,?_⟩
 intro r hr
 simp
 rw [hr]; refine zaa rfl ?_ rfl
 simp [zq2]
noncomputable def CD1:=mkC [(185,mixSp)]
theorem zzH : zai Tryz.prog CD1:=zat (all_cons zq3 all_nil)
@[simp] theorem CD1_1 : CD1 185 = mixSp:=rfl
noncomputable def zel:=fam (fun i : Int × Nat × List UInt8=>[V.int .u64 i.1,.sl i.2.1 1 (zae i.2.2)]) (fun _=>[]) (fun i=>InU64 i.1 ∧ (i.2.2.length : Int) ≤ 9223372036854775807) (fun i=>⟨.int .u64 (allI i.1 i.2.2),[]⟩)
@[simp] theorem mixAllSp_eq {h : Int} {t : Nat} {l : List UInt8} (h1 : InU64 h) (h2 : (l.length : Int) ≤ 9223372036854775807) : zel [V.int .u64 h,.sl t 1 (zae l)] [] = some ⟨.int .u64 (allI h l),[]⟩ :=
 zag (A:=fun i : Int × Nat × List UInt8=>[V.int .u64 i.1,.sl i.2.1 1 (zae i.2.2)]) (fun i j h _=>by simp at h; rw [h.1,h.2.2]) (h,t,l) ⟨h1,h2⟩
noncomputable def mxSt (h : Int) (t : Nat) (l : List UInt8) (i : Nat) : St :=
 mkSt [(0,.int .u64 (foldI h (l.take i))),(1,.sl t 1 (zae l)),(7,.sl t 1 (zae l)),(8,.int .i64 l.length),(9,.int .i64 i)] [] 0
theorem zpy : Lift.Spec Tryz.prog 184 zel:=by
 refine zaj (C:=CD1) zac zzH follows Tryz.func184 (by kernel_rfl) rfl (by kernel_rfl) rfl ?_
 rintro ⟨h,t,l⟩ ⟨hh,hl⟩
 simp only at hh hl
 refine ⟨by simp,?_⟩
 intro r hr
 simp
 refine zal (mxSt h t l) (fun i=>i ≤ l.length) (fun i=>l.length - i) 0 ?_ (Nat.zero_le _) ?_
 ·refine zaW id ?_ ?_ ?_ ?_ <;> simp [zgI]
 ·intro i hi
  have hin:=zis hh (l.take i)
  by_cases hik : i < l.length
  ·obtain ⟨x,hx,hx'⟩ : ∃ x,l[i]? = some x ∧ l[i] = x:=⟨_,List.getElem?_eq_getElem hik,rfl⟩
   have w0 : IntKind.i64.wrap (x.toNat : Int) = (x.toNat : Int):=by have:=x.toNat_lt; exact w64
   have w4 : IntKind.i64.wrap ((i : Int) + 1) = (i : Int) + 1:=w64
   simp [mxSt,hik,hx',w0,w4,hin]
   refine Again.mk (i + 1) ?_ ?_ ?_
   ·exact hik
   ·omega
   ·refine zaW id ?_ ?_ ?_ ?_ <;> simp [zk4 hx]
  ·have e : i = l.length:=by omega
   subst e
   rw [List.take_length] at hin
   simp [mxSt,hin,zqT hl]
   rw [hr]; refine zaa rfl ?_ rfl
   simp [allI]
noncomputable def CD2:=mkC [(185,mixSp),(184,zel)]
theorem zzI : zai Tryz.prog CD2:=zat (all_cons zq3 (all_cons zpy all_nil))
@[simp] theorem CD2_1 : CD2 185 = mixSp:=rfl
@[simp] theorem CD2_2 : CD2 184 = zel:=rfl
noncomputable def sumSp:=fam (fun i : Int × Nat × List UInt8=>[V.int .i64 i.1,.sl i.2.1 1 (zae i.2.2)]) (fun _=>[]) (fun i=>In64 i.1 ∧ (i.2.2.length : Int) ≤ 9223372036854775807) (fun i=>⟨.int .u64 (sumI i.1 i.2.2),[]⟩)
@[simp] theorem sumSp_eq {h : Int} {t : Nat} {l : List UInt8} (h1 : In64 h) (h2 : (l.length : Int) ≤ 9223372036854775807) : sumSp [V.int .i64 h,.sl t 1 (zae l)] [] = some ⟨.int .u64 (sumI h l),[]⟩ :=
 zag (A:=fun i : Int × Nat × List UInt8=>[V.int .i64 i.1,.sl i.2.1 1 (zae i.2.2)]) (fun i j h _=>by simp at h; rw [h.1,h.2.2]) (h,t,l) ⟨h1,h2⟩
theorem zqy : InU64 14695981039346656037:=by unfold InU64; omega
theorem zrf : Lift.Spec Tryz.prog 155 sumSp:=by
 refine zaj (C:=CD2) zac zzI follows Tryz.func155 (by kernel_rfl) rfl (by kernel_rfl) rfl ?_
 rintro ⟨h,t,l⟩ ⟨hh,hl⟩
 simp only at hh hl
 refine ⟨by simp,?_⟩
 intro r hr
 simp [hh,hl,zqy]
 rw [hr]; refine zaa rfl ?_ rfl
 simp [zkm]
theorem in0 : In64 0:=by unfold In64; omega
theorem in1 : In64 1:=by unfold In64; omega
theorem zj5 : Lift.Spec Tryz.prog 160 mixSp:=by
 refine zaj (C:=C0) zac C0_ok follows Tryz.func160 (by kernel_rfl) rfl (by kernel_rfl) rfl ?_
 rintro ⟨h,n⟩ _
 refine ⟨by simp,?_⟩
 intro r hr
 simp
 rw [hr]; refine zaa rfl ?_ rfl
 simp [zq2]
noncomputable def CD4:=mkC [(160,mixSp)]
theorem zzJ : zai Tryz.prog CD4:=zat (all_cons zj5 all_nil)
@[simp] theorem CD4_1 : CD4 160 = mixSp:=rfl
noncomputable def rxSt (h : Int) (t : Nat) (l : List UInt8) (i : Nat) : St :=
 mkSt [(0,.int .u64 (foldI h (l.take i))),(1,.sl t 1 (zae l)),(5,.int .i64 i)] [] 0
theorem zpL : Lift.Spec Tryz.prog 159 zel:=by
 refine zaj (C:=CD4) zac zzJ follows Tryz.func159 (by kernel_rfl) rfl (by kernel_rfl) rfl ?_
 rintro ⟨h,t,l⟩ ⟨hh,hl⟩
 simp only at hh hl
 refine ⟨by simp,?_⟩
 intro r hr
 simp
 refine zal (rxSt h t l) (fun i=>i ≤ l.length) (fun i=>l.length - i) 0 ?_ (Nat.zero_le _) ?_
 ·refine zaW id ?_ ?_ ?_ ?_ <;> simp [zgI]
 ·intro i hi
  have hin:=zis hh (l.take i)
  by_cases hik : i < l.length
  ·obtain ⟨x,hx,hx'⟩ : ∃ x,l[i]? = some x ∧ l[i] = x:=⟨_,List.getElem?_eq_getElem hik,rfl⟩
   have w0 : IntKind.i64.wrap (x.toNat : Int) = (x.toNat : Int):=by have:=x.toNat_lt; exact w64
   have w4 : IntKind.i64.wrap ((i : Int) + 1) = (i : Int) + 1:=w64
   simp [rxSt,hik,hx',w0,w4,hin]
   refine Again.mk (i + 1) ?_ ?_ ?_
   ·exact hik
   ·omega
   ·refine zaW id ?_ ?_ ?_ ?_ <;> simp [zk4 hx]
  ·have e : i = l.length:=by omega
   subst e
   rw [List.take_length] at hin
   simp [rxSt,hin,zqT hl]
   rw [hr]; refine zaa rfl ?_ rfl
   simp [allI]
noncomputable def CD5:=mkC [(160,mixSp),(159,zel)]
theorem zzK : zai Tryz.prog CD5:=zat (all_cons zj5 (all_cons zpL all_nil))
@[simp] theorem CD5_1 : CD5 160 = mixSp:=rfl
@[simp] theorem CD5_2 : CD5 159 = zel:=rfl
theorem zj7 : Lift.Spec Tryz.prog 140 sumSp:=by
 refine zaj (C:=CD5) zac zzK follows Tryz.func140 (by kernel_rfl) rfl (by kernel_rfl) rfl ?_
 rintro ⟨h,t,l⟩ ⟨hh,hl⟩
 simp only at hh hl
 refine ⟨by simp,?_⟩
 intro r hr
 simp [hh,hl,zqy]
 rw [hr]; refine zaa rfl ?_ rfl
 simp [zkm]
end Go.Proofs.YtcpdgbncekdicaaGreat

