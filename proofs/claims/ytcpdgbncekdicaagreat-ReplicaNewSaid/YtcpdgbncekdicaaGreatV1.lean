/-
  Texts: PLA.
-/
import Derived.Deep.Quiet
import Derived.RowKit3
import Derived.Laws.OwnMore
import Derived.Laws.Append
import Derived.Laws.CopyRow
import Derived.Laws.Entries
import Derived.Laws.StructEq
import Derived.Laws.MakeOwn
import Derived.Laws.BytesArg
set_option linter.unusedSimpArgs false
set_option linter.unusedVariables false
namespace Go.Lift
inductive V where
 | junk
 | int (k : IntKind) (n : Int)
 | bool (b : Bool)
 | str (s : ByteArray)
 | sl (tag es : Nat) (elems : List (List V))
 | own (nm off n : Nat)
 | ptr (nm i j : Nat)
 | pp (cells : List V)
 | pnil
 | agg (cells : List V)
 | tup (vs : List V)
 | fn (f : FuncId)
 | clo (f : FuncId) (caps : List V)
 | mth (f : FuncId) (nm : Nat)
 | anyB
 | tree (sl : Bool) (et : TypeId) (es : Nat) (rows : List (List V)) (tight : Bool) (fl : Nat)
 deriving Inhabited
structure GI where
 blk : Nat
 cap : Nat
 es : Nat
 nil : Bool
def zah (elems : List (List V)) (i j : Nat) : Option V:=(elems[i]?).bind (·[j]?)
def noG : Nat → Option GI:=fun _=>none
def V.cellular : V → Bool
 | .junk | .agg _ | .tup _ | .mth ..=>false
 | _=>true
inductive Rd (w : World) (I : Nat → Prop) : (Nat → Option GI) → V → Value → Prop
 | junk (γ v) : Rd w I γ .junk v
 | int (γ k n) : Rd w I γ (.int k n) (.int k n)
 | bool (γ b) : Rd w I γ (.bool b) (.bool b)
 | str (γ s) : Rd w I γ (.str s) (.string s)
 | nil (γ) (tag es : Nat) (h : tag ≠ 1 ∧ tag ≠ 4) : Rd w I γ (.sl tag es []) (.slice none 0 0)
 | sl (γ) (tag es : Nat) (elems : List (List V)) (a : Addr) (n c : Nat) (xs : Nat → Nat → Value)
  (h0 : tag ≠ 0) (h1 : tag = 1 ∨ tag = 3 → c = n) (hlen : elems.length = n) (hnc : n ≤ c) (hcm : c ≤ maxLen)
  (hes : ∀ e ∈ elems,e.length = es) (hcel : ∀ i j u,zah elems i j = some u → u.cellular = true)
  (hc : ∀ i j u,zah elems i j = some u → I a.block ∧ w.cell? (a.add (i * es + j)) = some (xs i j))
  (hr : ∀ i j u,zah elems i j = some u → Rd w I noG u (xs i j)) : Rd w I γ (.sl tag es elems) (.slice (some a) n c)
 | own (γ) (nm off n c o : Nat) (gi : GI) (hγ : γ nm = some gi) (hnn : gi.nil = false) (hcap : off + c = gi.cap) (hn : n ≤ c) (hcm : c ≤ maxLen) (ho : c ≠ 0 → o = off * gi.es) :
  Rd w I γ (.own nm off n) (.slice (some ⟨gi.blk,o,none⟩) n c)
 | ownnil (γ) (nm : Nat) (A : Option Addr) (gi : GI) (hγ : γ nm = some gi) (hnn : gi.nil = true) : Rd w I γ (.own nm 0 0) (.slice A 0 0)
 | ptr (γ) (nm i j : Nat) (gi : GI) (hγ : γ nm = some gi) (hnn : gi.nil = false) : Rd w I γ (.ptr nm i j) (.pointer (some ⟨gi.blk,i * gi.es + j,none⟩))
 | pp (γ) (cells : List V) (a : Addr) (xs : Nat → Value)
  (hc : ∀ (j : Nat) (u : V),cells[j]? = some u → I a.block ∧ w.cell? (a.add j) = some (xs j))
  (hr : ∀ (j : Nat) (u : V),cells[j]? = some u → Rd w I noG u (xs j)) : Rd w I γ (.pp cells) (.pointer (some a))
 | pnil (γ) : Rd w I γ .pnil (.pointer none)
 | agg (γ) (cells : List V) (xs : Array Value) (hl : cells.length = xs.size)
  (hr : ∀ (j : Nat) (u : V) (x : Value),cells[j]? = some u → xs[j]? = some x → Rd w I γ u x) : Rd w I γ (.agg cells) (.agg xs)
 | tup (γ) (cells : List V) (xs : Array Value) (hl : cells.length = xs.size)
  (hr : ∀ (j : Nat) (u : V) (x : Value),cells[j]? = some u → xs[j]? = some x → Rd w I γ u x) : Rd w I γ (.tup cells) (.tuple xs)
 | fn (γ f) : Rd w I γ (.fn f) (.func (.func f) #[] #[])
 | clo (γ f) (caps : List V) (xs : Array Value) (hl : caps.length = xs.size)
  (hr : ∀ (j : Nat) (u : V) (x : Value),caps[j]? = some u → xs[j]? = some x → Rd w I noG u x) : Rd w I γ (.clo f caps) (.func (.func f) #[] xs)
 | mth (γ) (f) (nm : Nat) (gi : GI) (hγ : γ nm = some gi) (hnn : gi.nil = false) : Rd w I γ (.mth f nm) (.func (.func f) #[.pointer (some ⟨gi.blk,0 * gi.es + 0,none⟩)] #[])
 | anyB (γ b) : Rd w I γ .anyB (.bool b)
 | treep (γ) (et es : Nat) (rows : List (List V)) (tight : Bool) (fl : Nat) (p : Option Addr) (h : ∃ n gi,γ n = some gi) : Rd w I γ (.tree false et es rows tight fl) (.pointer p)
 | trees (γ) (et es : Nat) (rows : List (List V)) (tight : Bool) (fl : Nat) (A : Option Addr) (n c : Nat) (h : ∃ n gi,γ n = some gi) : Rd w I γ (.tree true et es rows tight fl) (.slice A n c)
theorem Rd.mono {w w' : World} {I I' : Nat → Prop} {γ : Nat → Option GI} {v : V} {x : Value} (h : Rd w I γ v x)
 (hI : ∀ b,I b → I' b ∧ w'.heap[b]? = w.heap[b]?) : ∀ {γ'},(∀ nm gi,γ nm = some gi → γ' nm = some gi) → Rd w' I' γ' v x:=by
 induction h with
 | junk=>intro _ _; exact .junk _ _
 | int=>intro _ _; exact .int _ _ _
 | bool=>intro _ _; exact .bool _ _
 | str=>intro _ _; exact .str _ _
 | nil _ t es h=>intro _ _; exact .nil _ t es h
 | sl _ tag es elems a n c xs h0 h1 hlen hnc hcm hes hcel hc hr ih =>
  intro _ _
  exact .sl _ tag es elems a n c xs h0 h1 hlen hnc hcm hes hcel (fun i j u hu=>by
   obtain ⟨hb,hcell⟩:=hc i j u hu
   refine ⟨(hI _ hb).1,?_⟩
   rw [World.cell?_of_block (w:=w)]
   ·exact hcell
   ·have : (a.add (i * es + j)).block = a.block:=by unfold Addr.add; split <;> rfl
    rw [this]; exact (hI _ hb).2) (fun i j u hu=>ih i j u hu (fun _ _ h=>h))
 | own _ nm off n c o gi hγ hnn hcap hn hcm ho=>intro _ hg; exact .own _ nm off n c o gi (hg _ _ hγ) hnn hcap hn hcm ho
 | ownnil _ nm A gi hγ hnn=>intro _ hg; exact .ownnil _ nm A gi (hg _ _ hγ) hnn
 | ptr _ nm i j gi hγ hnn=>intro _ hg; exact .ptr _ nm i j gi (hg _ _ hγ) hnn
 | pp _ cells a xs hc hr ih =>
  intro _ _
  exact .pp _ cells a xs (fun j u hu=>by
   obtain ⟨hb,hcell⟩:=hc j u hu
   refine ⟨(hI _ hb).1,?_⟩
   rw [World.cell?_of_block (w:=w)]
   ·exact hcell
   ·have : (a.add j).block = a.block:=by unfold Addr.add; split <;> rfl
    rw [this]; exact (hI _ hb).2) (fun j u hu=>ih j u hu (fun _ _ h=>h))
 | pnil=>intro _ _; exact .pnil _
 | agg _ cells xs hl hr ih=>intro _ hg; exact .agg _ cells xs hl (fun j u x hu hx=>ih j u x hu hx hg)
 | tup _ cells xs hl hr ih=>intro _ hg; exact .tup _ cells xs hl (fun j u x hu hx=>ih j u x hu hx hg)
 | fn=>intro _ _; exact .fn _ _
 | clo _ f caps xs hl hr ih=>intro _ _; exact .clo _ f caps xs hl (fun j u x hu hx=>ih j u x hu hx (fun _ _ h=>h))
 | mth _ f nm gi hγ hnn=>intro _ hg; exact .mth _ f nm gi (hg _ _ hγ) hnn
 | anyB=>intro _ _; exact .anyB _ _
 | treep _ et es rows tight fl p h=>intro _ hg; exact .treep _ _ _ _ _ _ p (by obtain ⟨n,gi,h⟩:=h; exact ⟨n,gi,hg _ _ h⟩)
 | trees _ et es rows tight fl A n c h=>intro _ hg; exact .trees _ _ _ _ _ _ A n c (by obtain ⟨n,gi,h⟩:=h; exact ⟨n,gi,hg _ _ h⟩)
def V.closed : V → Bool
 | .own .. | .ptr .. | .tree .. | .mth ..=>false
 | .agg cs | .tup cs=>closedAll cs
 | _=>true
where closedAll : List V → Bool
 | []=>true
 | c :: cs=>c.closed && closedAll cs
def V.scalar : V → Bool
 | .sl _ _ (_ :: _) | .pp _ | .clo _ _=>false
 | .agg cs | .tup cs=>scalarAll cs
 | _=>true
where scalarAll : List V → Bool
 | []=>true
 | c :: cs=>c.scalar && scalarAll cs
theorem V.closedAll_get : ∀ {cs : List V},V.closed.closedAll cs = true → ∀ (j : Nat) (u : V),cs[j]? = some u → u.closed = true
 | [],_,j,u,h=>by simp at h
 | c :: cs,hc,j,u,h=>by
  simp only [V.closed.closedAll,Bool.and_eq_true] at hc
  cases j with
  | zero=>simp at h; subst h; exact hc.1
  | succ j=>exact V.closedAll_get hc.2 j u (by simpa using h)
theorem V.scalarAll_get : ∀ {cs : List V},V.scalar.scalarAll cs = true → ∀ (j : Nat) (u : V),cs[j]? = some u → u.scalar = true
 | [],_,j,u,h=>by simp at h
 | c :: cs,hc,j,u,h=>by
  simp only [V.scalar.scalarAll,Bool.and_eq_true] at hc
  cases j with
  | zero=>simp at h; subst h; exact hc.1
  | succ j=>exact V.scalarAll_get hc.2 j u (by simpa using h)
theorem Rd.closed {w : World} {I : Nat → Prop} {γ : Nat → Option GI} {v : V} {x : Value} (h : Rd w I γ v x) : v.closed = true → ∀ γ',Rd w I γ' v x:=by
 induction h with
 | junk=>intros; exact .junk _ _
 | int=>intros; exact .int _ _ _
 | bool=>intros; exact .bool _ _
 | str=>intros; exact .str _ _
 | nil _ t es h=>intros; exact .nil _ t es h
 | sl _ tag es elems a n c xs h0 h1 hlen hnc hcm hes hcel hc hr ih=>intros; exact .sl _ tag es elems a n c xs h0 h1 hlen hnc hcm hes hcel hc hr
 | own=>intro h; simp [V.closed] at h
 | ownnil=>intro h; simp [V.closed] at h
 | ptr=>intro h; simp [V.closed] at h
 | pp _ cells a xs hc hr ih=>intros; exact .pp _ cells a xs hc hr
 | pnil=>intros; exact .pnil _
 | agg _ cells xs hl hr ih=>intro h γ'; exact .agg _ cells xs hl (fun j u x hu hx=>ih j u x hu hx (V.closedAll_get h j u hu) γ')
 | tup _ cells xs hl hr ih=>intro h γ'; exact .tup _ cells xs hl (fun j u x hu hx=>ih j u x hu hx (V.closedAll_get h j u hu) γ')
 | fn=>intros; exact .fn _ _
 | clo _ f caps xs hl hr ih=>intros; exact .clo _ f caps xs hl hr
 | mth=>intro h; simp [V.closed] at h
 | anyB=>intros; exact .anyB _ _
 | treep=>intro h; simp [V.closed] at h
 | trees=>intro h; simp [V.closed] at h
theorem Rd.scalar {w : World} {I : Nat → Prop} {γ : Nat → Option GI} {v : V} {x : Value} (h : Rd w I γ v x) : v.scalar = true → ∀ w' I',Rd w' I' γ v x:=by
 induction h with
 | junk=>intros; exact .junk _ _
 | int=>intros; exact .int _ _ _
 | bool=>intros; exact .bool _ _
 | str=>intros; exact .str _ _
 | nil _ t es h=>intros; exact .nil _ t es h
 | sl _ tag es elems a n c xs h0 h1 hlen hnc hcm hes hcel hc hr ih =>
  intro h _ _
  cases elems with
  | nil=>exact .sl _ tag es [] a n c xs h0 h1 hlen hnc hcm hes hcel (fun i j u hu=>by simp [zah] at hu) (fun i j u hu=>by simp [zah] at hu)
  | cons e es=>simp [V.scalar] at h
 | own _ nm off n c o gi hγ hnn hcap hn hcm ho=>intros; exact .own _ nm off n c o gi hγ hnn hcap hn hcm ho
 | ownnil _ nm A gi hγ hnn=>intros; exact .ownnil _ nm A gi hγ hnn
 | ptr _ nm i j gi hγ hnn=>intros; exact .ptr _ nm i j gi hγ hnn
 | pp _ cells a xs hc hr ih=>intro h; simp [V.scalar] at h
 | pnil=>intros; exact .pnil _
 | agg _ cells xs hl hr ih=>intro h w' I'; exact .agg _ cells xs hl (fun j u x hu hx=>ih j u x hu hx (V.scalarAll_get h j u hu) w' I')
 | tup _ cells xs hl hr ih=>intro h w' I'; exact .tup _ cells xs hl (fun j u x hu hx=>ih j u x hu hx (V.scalarAll_get h j u hu) w' I')
 | fn=>intros; exact .fn _ _
 | clo _ f caps xs hl hr ih=>intro h; simp [V.scalar] at h
 | mth _ f nm gi hγ hnn=>intros; exact .mth _ f nm gi hγ hnn
 | anyB=>intros; exact .anyB _ _
 | treep _ et es rows tight fl p h=>intros; exact .treep _ _ _ _ _ _ p h
 | trees _ et es rows tight fl A n c h=>intros; exact .trees _ _ _ _ _ _ A n c h
theorem Rd.closed_of_noG {w : World} {I : Nat → Prop} {γ : Nat → Option GI} {v : V} {x : Value} (h : Rd w I γ v x) : γ = noG → v.closed = true:=by
 induction h with
 | own _ nm off n c o gi hγ=>intro e; subst e; cases hγ
 | ownnil _ nm A gi hγ=>intro e; subst e; cases hγ
 | ptr _ nm i j gi hγ=>intro e; subst e; cases hγ
 | mth _ f nm gi hγ=>intro e; subst e; cases hγ
 | treep _ et es rows tight fl p h=>intro e; subst e; obtain ⟨n,gi,h⟩:=h; cases h
 | trees _ et es rows tight fl A n c h=>intro e; subst e; obtain ⟨n,gi,h⟩:=h; cases h
 | agg _ cells xs hl hr ih =>
  intro e
  have key : ∀ (cs : List V),(∀ (j : Nat) (u : V),cs[j]? = some u → u.closed = true) → V.closed.closedAll cs = true:=by
   intro cs
   induction cs with
   | nil=>intro _; rfl
   | cons c cs ihc=>intro h; simp only [V.closed.closedAll,Bool.and_eq_true]; exact ⟨h 0 c rfl,ihc fun j u hu=>h (j + 1) u (by simpa using hu)⟩
  refine key cells fun j u hu=>?_
  have hlt : j < xs.size:=by rw [← hl]; exact (List.getElem?_eq_some_iff.1 hu).1
  exact ih j u xs[j] hu (Array.getElem?_eq_getElem hlt) e
 | tup _ cells xs hl hr ih =>
  intro e
  have key : ∀ (cs : List V),(∀ (j : Nat) (u : V),cs[j]? = some u → u.closed = true) → V.closed.closedAll cs = true:=by
   intro cs
   induction cs with
   | nil=>intro _; rfl
   | cons c cs ihc=>intro h; simp only [V.closed.closedAll,Bool.and_eq_true]; exact ⟨h 0 c rfl,ihc fun j u hu=>h (j + 1) u (by simpa using hu)⟩
  refine key cells fun j u hu=>?_
  have hlt : j < xs.size:=by rw [← hl]; exact (List.getElem?_eq_some_iff.1 hu).1
  exact ih j u xs[j] hu (Array.getElem?_eq_getElem hlt) e
 | _=>intros; rfl
def V.isTree : V → Bool
 | .tree ..=>true
 | _=>false
theorem V.closed_nt {v : V} (h : v.closed = true) : v.isTree = false:=by cases v <;> first | rfl | simp [V.closed] at h
theorem V.ofTree {v : V} (h : v.isTree = true) : ∃ sl et es rows tight fl,v = .tree sl et es rows tight fl:=by cases v <;> simp [V.isTree] at h; exact ⟨_,_,_,_,_,_,rfl⟩
inductive Md where
 | rw | ro | dead
 deriving DecidableEq
structure AObj where
 et : TypeId
 es : Nat
 elems : List (List V)
 tight : Bool
 fl : Nat
 md : Md
structure St where
 s : Nat → V
 g : Nat → Option AObj
 c : Nat
structure TI where
 desc : TypeDesc
 size : Nat
 bytes : Nat
 zero : List V
 agg : Bool
 eqc : Bool
def ofCell : Value → V
 | .int k n=>.int k n
 | .bool b=>.bool b
 | .string s=>.str s
 | .slice none 0 0=>.sl 0 1 []
 | .pointer none=>.pnil
 | _=>.junk
def ofConst : Value → V
 | .agg cs=>.agg (cs.toList.map ofCell)
 | v=>ofCell v
def GLB (g : Nat) : Option (List V):=match g with | _=>none
def zao (T : TypeId → Option TI) (t : TypeId) : Option TypeDesc:=match T t with | some ti=>some ti.desc | none=>none
structure TypeOk (P : Program) (t : TypeId) (ti : TI) : Prop where
 under : P.underlying t = some ti.desc
 info : ∃ i z,P.info? t = some i ∧ i.size = ti.size ∧ i.bytes = ti.bytes ∧ i.zero = some z ∧ z.cells.size = ti.size ∧ z.cells.toList.map ofCell = ti.zero
 isAgg : ti.agg = (match ti.desc with | .struct _ | .array _ _=>true | _=>false)
 eqOk : ti.eqc = true → P.stoodInHeld t = false ∧ P.eqGuardType P.depth t = false
def zaJ (P : Program) (T : TypeId → Option TI) : Prop:=∀ t ti,T t = some ti → TypeOk P t ti
structure Eff where
 v : V
 wr : List (Nat × AObj)
 rd : List Nat
structure CRes where
 v : V
 objs : List AObj
def upd {α : Type} (f : Nat → α) (k : Nat) (v : α) : Nat → α:=fun n=>if n = k then v else f n
@[simp] theorem zaD {α : Type} (f : Nat → α) (k : Nat) (v : α) : upd f k v k = v:=by simp [upd]
theorem zaz {α : Type} (f : Nat → α) {k n : Nat} (v : α) (h : n ≠ k) : upd f k v n = f n:=by simp [upd,h]
def zas (g : Nat → Option AObj) : List (Nat × AObj) → Nat → Option AObj
 | []=>g
 | (k,o) :: r=>zas (upd g k (some o)) r
def V.cells : V → List V
 | .agg cs=>cs
 | v=>[v]
def V.plainC : V → Bool
 | .junk | .agg _ | .tup _ | .tree .. | .mth ..=>false
 | _=>true
def zaV : List V → Bool
 | []=>true
 | c :: cs=>c.plainC && zaV cs
def zcI : List (List V) → Bool
 | []=>true
 | r :: rs=>r.all (fun c=>!c.isTree) && zcI rs
def ntOk (fl : Nat) (rows : List (List V)) : Bool:=if fl ≠ 0 then true else zcI rows
def flOf (cs : List V) : Nat:=if V.closed.closedAll cs then (if V.scalar.scalarAll cs then 2 else 1) else 0
def aInt (op : BinOp) (k : IntKind) (a b : Int) : Option V :=
 match op with
 | .add=>some (.int k (k.wrap (a + b)))
 | .sub=>some (.int k (k.wrap (a - b)))
 | .mul=>some (.int k (k.wrap (a * b)))
 | .quo=>if b = 0 then none else some (.int k (k.wrap (a.tdiv b)))
 | .rem=>if b = 0 then none else some (.int k (a.tmod b))
 | .and=>some (.int k (k.wrap (BitVec.ofInt k.bits a &&& BitVec.ofInt k.bits b).toNat))
 | .or=>some (.int k (k.wrap (BitVec.ofInt k.bits a ||| BitVec.ofInt k.bits b).toNat))
 | .xor=>some (.int k (k.wrap (BitVec.ofInt k.bits a ^^^ BitVec.ofInt k.bits b).toNat))
 | .andNot=>some (.int k (k.wrap (BitVec.ofInt k.bits a &&& ~~~BitVec.ofInt k.bits b).toNat))
 | .eql=>some (.bool (a == b))
 | .neq=>some (.bool (a != b))
 | .lss=>some (.bool (decide (a < b)))
 | .leq=>some (.bool (decide (a ≤ b)))
 | .gtr=>some (.bool (decide (a > b)))
 | .geq=>some (.bool (decide (a ≥ b)))
 | _=>none
def zmZ (op : BinOp) (k : IntKind) (a b : Int) : Option V :=
 if b < 0 then none else
 match op with
 | .shl=>some (.int k (k.wrap (a * 2 ^ min b.toNat k.bits)))
 | .shr=>some (.int k (a.fdiv (2 ^ min b.toNat k.bits)))
 | _=>none
def aStr (op : BinOp) (x y : ByteArray) : Option V :=
 match op with
 | .add=>if ((x.size + y.size : Nat) : Int) > IntKind.i64.max then none else some (.str (x ++ y))
 | .eql=>some (.bool (x.toList == y.toList))
 | .neq=>some (.bool (!(x.toList == y.toList)))
 | .lss=>some (.bool (Op.bytesLess x.toList y.toList))
 | .leq=>some (.bool (Op.bytesLess x.toList y.toList || x.toList == y.toList))
 | .gtr=>some (.bool (!(Op.bytesLess x.toList y.toList || x.toList == y.toList)))
 | .geq=>some (.bool (!(Op.bytesLess x.toList y.toList)))
 | _=>none
def zbW : BinOp → Bool
 | .shl | .shr=>true
 | _=>false
def zbo (ti : TI) (cs : List V) : Option V :=
 if ti.agg then (if (cs.take ti.size).length = ti.size then some (.agg (cs.take ti.size)) else none)
 else match cs with
  | c :: _=>some c
  | []=>none
def eqF (T : TypeId → Option TI) (E : TypeId → V → V → Option Bool) (us vs : List V) : List Field → Option Bool
 | []=>some true
 | f :: fs => if f.name = "_" then none else match T f.type with
  | some fi=>match zbo fi (us.drop f.offset),zbo fi (vs.drop f.offset) with
   | some a,some b=>match E f.type a b,eqF T E us vs fs with
    | some r,some r'=>some (r && r')
    | _,_=>none
   | _,_=>none
  | none=>none
def eqV (T : TypeId → Option TI) : Nat → TypeId → V → V → Option Bool
 | 0,_,_,_=>none
 | m + 1,t,x,y=>match zao T t,x,y with
  | some (.int _),.int k a,.int k' b=>if k = k' then some (decide (a = b)) else none
  | some .bool,.bool a,.bool b=>some (a == b)
  | some .string,.str a,.str b=>some (a.toList == b.toList)
  | some (.struct fs),.agg us,.agg vs=>(match T t with | some ti=>if ti.eqc = true then eqF T (eqV T m) us vs fs.toList else none | none=>none)
  | _,_,_=>none
def ptrEq (d : Option TypeDesc) (op : BinOp) (b : Bool) : Option V:=match d,op with
 | some (.pointer _),.eql=>some (.bool b)
 | some (.pointer _),.neq=>some (.bool !b)
 | _,_=>none
def aBin (T : TypeId → Option TI) (op : BinOp) (xt : TypeId) (x y : V) : Option V :=
 match x,y with
 | .int k a,.int k' b=>if zbW op then zmZ op k a b else if k = k' then aInt op k a b else none
 | .str a,.str b=>aStr op a b
 | .bool a,.bool b=>match zao T xt,op with
  | some .bool,.eql=>some (.bool (a == b))
  | some .bool,.neq=>some (.bool (!(a == b)))
  | _,_=>none
 | .sl t _ rows,.sl 0 _ []=>match zao T xt,op with
  | some (.slice _),.eql=>if t = 0 then some (.bool true) else if t = 1 ∨ t = 4 ∨ rows.isEmpty = false then some (.bool false) else some .anyB
  | some (.slice _),.neq=>if t = 0 then some (.bool false) else if t = 1 ∨ t = 4 ∨ rows.isEmpty = false then some (.bool true) else some .anyB
  | _,_=>none
 | .own _ _ n,.sl 0 _ []=>match zao T xt,op with
  | some (.slice _),.eql=>if n ≠ 0 then some (.bool false) else some .anyB
  | some (.slice _),.neq=>if n ≠ 0 then some (.bool true) else some .anyB
  | _,_=>none
 | .ptr _ _ _,.pnil=>ptrEq (zao T xt) op false
 | .pp _,.pnil=>ptrEq (zao T xt) op false
 | .pnil,.pnil=>ptrEq (zao T xt) op true
 | .agg us,.agg vs=>match op with
  | .eql=>(eqV T 5 xt (.agg us) (.agg vs)).map .bool
  | .neq=>(eqV T 5 xt (.agg us) (.agg vs)).map fun b=>.bool (!b)
  | _=>none
 | _,_=>none
def aUn (op : UnOp) (x : V) : Option V :=
 match op,x with
 | .neg,.int k n=>aInt .sub k 0 n
 | .xor,.int k n=>some (.int k (k.wrap (-n - 1)))
 | .not,.bool b=>some (.bool !b)
 | .not,.anyB=>some .anyB
 | _,_=>none
def zco (g : Nat → Option AObj) : V → Option (List (List V) × List Nat)
 | .sl _ _ es=>some (es,[])
 | .own nm off n=>match g nm with
  | some o=>if o.md ≠ .dead ∧ off + n ≤ o.elems.length then some ((o.elems.drop off).take n,[nm]) else none
  | none=>none
 | _=>none
def zae (l : List UInt8) : List (List V):=l.map fun b=>[.int .u8 b.toNat]
def zeL : List (List V) → Option (List UInt8)
 | []=>some []
 | e :: es=>match e,zeL es with
  | [.int .u8 n],some l=>some (UInt8.ofNat n.toNat :: l)
  | _,_=>none
def zk9 (T : TypeId → Option TI) (e : TypeId) : Bool :=
 match T e with
 | some ti=>(match ti.desc with | .int .u8=>ti.size == 1 | _=>false)
 | none=>false
def fresh (nm : Nat) (o : AObj) (v : V) (rd : List Nat) (g : Nat → Option AObj) : Option Eff :=
 match g nm with
 | none=>some ⟨v,[(nm,o)],rd⟩
 | some _=>none
def zbD (v : Option V) : Option Eff:=v.map fun v=>⟨v,[],[]⟩
def aConv (T : TypeId → Option TI) (g : Nat → Option AObj) (nm : Nat) (src dst : TypeId) (x : V) : Option Eff :=
 match zao T src,zao T dst,x with
 | some _,some (.int k),.int _ n=>some ⟨.int k (k.wrap n),[],[]⟩
 | some _,some (.string),.str s=>some ⟨.str s,[],[]⟩
 | some (.slice e),some (.string),x =>
  if zk9 T e then match zco g x with
   | some (es,rd)=>(zeL es).map fun l=>⟨.str ⟨l.toArray⟩,[],rd⟩
   | none=>none
  else none
 | some .string,some (.slice e),.str s =>
  if zk9 T e && decide (s.size ≤ maxLen) then fresh nm ⟨e,1,zae s.data.toList,false,2,.rw⟩ (.own nm 0 s.size) [] g else none
 | _,_,_=>none
def aMake (T : TypeId → Option TI) (g : Nat → Option AObj) (nm : Nat) (t : TypeId) (l c : V) : Option Eff :=
 match zao T t,l,c with
 | some (.slice e),.int _ l,.int _ c=>match T e with
  | some ei =>
   if 0 ≤ l ∧ l ≤ c ∧ c ≤ 140737488351232 ∧ (ei.bytes : Int) * c ≤ 140737488355328 ∧ zaV ei.zero = true then
    fresh nm ⟨e,ei.size,List.replicate l.toNat ei.zero,decide (l = c),flOf ei.zero,.rw⟩ (.own nm 0 l.toNat) [] g
   else none
  | none=>none
 | _,_,_=>none
def lowOf : Option V → Option Int
 | none=>some 0
 | some (.int _ n)=>some n
 | _=>none
def zgL (d : Nat) : Option V → Option Int
 | none=>some d
 | some (.int _ n)=>some n
 | _=>none
def sizeT (T : TypeId → Option TI) (e : TypeId) : Option Nat:=match T e with | some ei=>some ei.size | none=>none
def zdx (t : Nat) (b : Bool) : Nat:=if t = 0 then 0 else if t ≠ 2 ∧ b = true then t else 2
def zhH (T : TypeId → Option TI) (g : Nat → Option AObj) (t : TypeId) (x : V) (lo hi mx : Option V) : Option V :=
 match zao T t,x with
 | some .string,.str s=>match lowOf lo,zgL s.size hi,mx with
  | some l,some h,none=>if 0 ≤ l ∧ l ≤ h ∧ h ≤ s.size then some (.str (s.extract l.toNat h.toNat)) else none
  | _,_,_=>none
 | some (.slice e),.sl t sz es=>if sizeT T e = some sz ∨ t = 0 ∧ (sizeT T e).isSome = true then match lowOf lo,zgL es.length hi,mx with
  | some l,some h,none =>
   if 0 ≤ l ∧ l ≤ h ∧ h ≤ es.length then
    some (.sl (zdx t (decide (h = es.length))) sz ((es.drop l.toNat).take (h.toNat - l.toNat)))
   else none
  | some l,some h,some (.int _ m) =>
   if 0 ≤ l ∧ l ≤ h ∧ h ≤ es.length ∧ m = h ∧ hi.isSome = true then some (.sl (if t = 0 then 0 else if t = 1 then 1 else 3) sz ((es.drop l.toNat).take (h.toNat - l.toNat))) else none
  | _,_,_=>none
  else none
 | some (.slice e),.own nm off n=>match g nm with
  | some o=>if sizeT T e = some o.es ∧ o.md ≠ .dead then match lowOf lo,zgL n hi,mx with
   | some l,some h,none=>if 0 ≤ l ∧ l ≤ h ∧ h ≤ n then some (.own nm (off + l.toNat) (h.toNat - l.toNat)) else none
   | some l,some h,some (.int _ m)=>if 0 ≤ l ∧ l = h ∧ h ≤ n ∧ m = h ∧ hi.isSome = true then some (.sl 3 o.es []) else none
   | _,_,_=>none
   else none
  | none=>none
 | _,_=>none
def zjA (T : TypeId → Option TI) (s : TypeId) (f : Nat) : Option (Nat × TI) :=
 match zao T s with
 | some (.struct fs)=>match fs[f]? with
  | some fd=>(T fd.type).map fun ti=>(fd.offset,ti)
  | none=>none
 | _=>none
def zdV (T : TypeId → Option TI) (s : TypeId) (x : V) (f : Nat) : Option V :=
 match zjA T s f with
 | some (off,ti)=>if ti.size = 0 then none else match x with
  | .ptr nm i j=>some (.ptr nm i (j + off))
  | .pp cs=>some (.pp (cs.drop off))
  | _=>none
 | none=>none
def zmU (T : TypeId → Option TI) (s : TypeId) (x : V) (f : Nat) : Option V :=
 match zjA T s f with
 | some (off,ti)=>match x with
  | .agg cs=>zbo ti (cs.drop off)
  | _=>none
 | none=>none
def zcA (T : TypeId → Option TI) (g : Nat → Option AObj) (t : TypeId) (x ix : V) : Option V :=
 match zao T t,x,ix with
 | some (.slice e),.sl _ sz es,.int _ i=>if 0 ≤ i ∧ sizeT T e = some sz then (es[i.toNat]?).map .pp else none
 | some (.slice e),.own nm off n,.int _ i=>match g nm with
  | some o=>if 0 ≤ i ∧ i < n ∧ sizeT T e = some o.es ∧ o.md ≠ .dead then some (.ptr nm (off + i.toNat) 0) else none
  | none=>none
 | some (.array n e),.ptr nm i0 j,.int _ i=>if 0 ≤ i ∧ i < n then (sizeT T e).map fun sz=>.ptr nm i0 (j + i.toNat * sz) else none
 | some (.array n e),.pp cs,.int _ i=>if 0 ≤ i ∧ i < n then (sizeT T e).map fun sz=>.pp (cs.drop (i.toNat * sz)) else none
 | _,_,_=>none
def zmW (T : TypeId → Option TI) (t : TypeId) (x ix : V) : Option V :=
 match zao T t,x,ix with
 | some .string,.str s,.int _ i=>if 0 ≤ i then (s.data.toList[i.toNat]?).map fun b=>.int .u8 b.toNat else none
 | some (.array n e),.agg cs,.int _ i=>if 0 ≤ i ∧ i < n then (match T e with | some ei=>zbo ei (cs.drop (i.toNat * ei.size)) | none=>none) else none
 | _,_,_=>none
def aLoad (T : TypeId → Option TI) (g : Nat → Option AObj) (t : TypeId) (x : V) : Option Eff :=
 match T t with
 | none=>none
 | some ti=>match x with
  | .pp cs=>(zbo ti cs).map fun v=>⟨v,[],[]⟩
  | .ptr nm i j=>match g nm with
   | some o=>if o.md = .dead then none else match o.elems[i]? with
    | some r=>(zbo ti (r.drop j)).map fun v=>⟨v,[],[nm]⟩
    | none=>none
   | none=>none
  | _=>none
def handle (sl : Bool) (m : Nat) (o : AObj) : V:=if sl then .own m 0 o.elems.length else .ptr m 0 0
def AObj.toTree (sl : Bool) (o : AObj) : V:=.tree sl o.et o.es o.elems o.tight o.fl
def isOne (T : TypeId → Option TI) (t : TypeId) : Bool:=match T t with | some ti=>!ti.agg || ti.size == 1 | none=>false
def wrap1 (T : TypeId → Option TI) (t : TypeId) (v : V) : V:=match T t with | some ti=>if ti.agg = true then .agg [v] else v | none=>v
def zkN (T : TypeId → Option TI) (g : Nat → Option AObj) (nm : Nat) (t : TypeId) (n i j : Nat) (o : AObj) : Option (List V) → Option Eff
 | some r=>match r[j]? with
  | some (.tree sl et es rows tight fl)=>if o.md = .rw ∧ isOne T t = true then match g nm with
   | none=>some ⟨wrap1 T t (handle sl nm ⟨et,es,rows,tight,fl,.rw⟩),[(n,{ o with elems:=o.elems.set i (r.set j (handle sl nm ⟨et,es,rows,tight,fl,.rw⟩)),fl:=0 }),(nm,⟨et,es,rows,tight,fl,.rw⟩)],[n]⟩
   | some _=>none
   else none
  | _=>aLoad T g t (.ptr n i j)
 | none=>none
def zhG (T : TypeId → Option TI) (g : Nat → Option AObj) (nm : Nat) (t : TypeId) (x : V) : Option Eff:=match x with
 | .ptr n i j=>match g n with
  | some o=>if o.fl ≠ 0 then aLoad T g t (.ptr n i j) else zkN T g nm t n i j o (o.elems[i]?)
  | none=>none
 | x=>aLoad T g t x
def splice (r : List V) (j : Nat) (cs : List V) : List V:=r.take j ++ cs ++ r.drop (j + cs.length)
def zkP (T : TypeId → Option TI) (g : Nat → Option AObj) (t : TypeId) (x v : V) : Option Eff :=
 match T t,x with
 | some ti,.ptr nm i j=>match g nm with
  | some o=>if o.md = .rw then match o.elems[i]? with
   | some r=>if v.cells.length = ti.size ∧ zaV v.cells = true ∧ j + v.cells.length ≤ r.length then
    some ⟨.junk,[(nm,{ o with elems:=o.elems.set i (splice r j v.cells),fl:=min o.fl (flOf v.cells) })],[nm]⟩ else none
   | none=>none
   else none
  | none=>none
 | _,_=>none
def V.isJunk : V → Bool
 | .junk=>true
 | .tup []=>true
 | _=>false
def fillV (place : Nat → Option (Nat × Nat)) (cells : List V) : List (Nat × V) → Option (List V)
 | []=>some cells
 | (i,v) :: rest=>match place i with
  | none=>none
  | some (off,size)=>if v.cells.length = size ∧ off + v.cells.length ≤ cells.length ∧ v.isJunk = false then fillV place (splice cells off v.cells) rest else none
def zmw (T : TypeId → Option TI) (fs : Array Field) (i : Nat) : Option (Nat × Nat) :=
 match fs[i]? with
 | some f=>(T f.type).map fun fi=>(f.offset,fi.size)
 | none=>none
def zmQ (T : TypeId → Option TI) (t : TypeId) (parts : List (Nat × V)) : Option V :=
 match T t with
 | some ⟨.struct fs,_,_,zero,_,_⟩=>if fs.all (fun f=>(T f.type).isSome) then (fillV (zmw T fs) zero parts).map .agg else none
 | some ⟨.array _ e,_,_,zero,_,_⟩=>match T e with
  | some ei=>(fillV (fun i=>some (i * ei.size,ei.size)) zero parts).map .agg
  | none=>none
 | _=>none
def zd8 (es : Nat) : Nat → List V → List (List V)
 | 0,_=>[]
 | n + 1,cs=>cs.take es :: zd8 es n (cs.drop es)
def zcW (T : TypeId → Option TI) (g : Nat → Option AObj) (nm : Nat) (t : TypeId) (len : Nat) (parts : List (Nat × V)) : Option Eff :=
 match zao T t with
 | some (.slice e)=>match T e with
  | some ei =>
   if len * ei.size ≤ 16777216 ∧ len ≤ 16777216 ∧ 0 < ei.size then match fillV (fun i=>some (i * ei.size,ei.size)) (List.replicate len ei.zero).flatten parts with
    | some cs=>if zaV cs then fresh nm ⟨e,ei.size,zd8 ei.size len cs,true,flOf cs,.rw⟩ (.own nm 0 len) [] g else none
    | none=>none
   else none
  | none=>none
 | _=>none
def kill (o : AObj) : AObj:={ o with md:=.dead }
def cutO (n : Nat) (o : AObj) : AObj:=if n < o.elems.length then { o with elems:=o.elems.take n,tight:=false } else o
def zds (T : TypeId → Option TI) (g : Nat → Option AObj) (nm : Nat) (e : TypeId) (x : V) (src : List (List V)) (sfl : Nat) (rd : List Nat) : Option Eff :=
 match T e with
 | none=>none
 | some ei =>
  if ei.size = 0 then none else
  match x with
  | .sl tg _ []=>if (tg = 0 ∨ tg = 1 ∨ tg = 3) ∧ (src.length : Int) * ei.bytes ≤ 140737488355328 ∧ (src.length : Int) ≤ 140737488355328 ∧ ntOk sfl src = true then fresh nm ⟨e,ei.size,src,false,sfl,.rw⟩ (.own nm 0 src.length) rd g else none
  | .own m off n=>match (g m).map (cutO n) with
   | some o =>
    if o.et ≠ e ∨ o.es ≠ ei.size ∨ o.md ≠ .rw ∨ off ≠ 0 ∨ n ≠ o.elems.length then none else
    if ((n + src.length : Nat) : Int) * ei.bytes ≤ 140737488355328 ∧ ((n + src.length : Nat) : Int) ≤ 140737488355328 ∧ ntOk o.fl o.elems = true ∧ ntOk sfl src = true then
     match g nm with
     | none=>some ⟨.own nm 0 (n + src.length),[(m,kill o),(nm,⟨e,ei.size,o.elems ++ src,false,min o.fl sfl,.rw⟩)],m :: rd⟩
     | some _=>none
    else none
   | none=>none
  | _=>none
def zm3 (T : TypeId → Option TI) (g : Nat → Option AObj) (nm : Nat) (e : TypeId) (n : Int) : Option Eff :=
 match T e with
 | some ei=>if 0 < n ∧ n ≤ 140737488355328 ∧ n * ei.bytes ≤ 140737488355328 ∧ zaV ei.zero = true then fresh nm ⟨e,ei.size,List.replicate n.toNat ei.zero,false,flOf ei.zero,.rw⟩ (.own nm 0 n.toNat) [] g else none
 | none=>none
def zbd : List (List V) → Bool
 | []=>true
 | r :: rs=>V.scalar.scalarAll r && zbd rs
def zcp (g : Nat → Option AObj) : V → Nat
 | .sl _ _ rows=>if zbd rows then 2 else 1
 | .own nm _ _=>match g nm with | some o=>o.fl | none=>0
 | _=>0
def szOf (g : Nat → Option AObj) : V → Option Nat
 | .sl _ sz _=>some sz
 | .own nm _ _=>match g nm with | some o=>some o.es | none=>none
 | _=>none
def aMin (isMax : Bool) : List V → Option V
 | [.int k a,.int k' b]=>if k = k' then some (.int k (if isMax then (if a < b then b else a) else (if b < a then b else a))) else none
 | _=>none
def aCopy (T : TypeId → Option TI) (g : Nat → Option AObj) (tys : List TypeId) (x y : V) : Option Eff :=
 match tys with
 | [t,tx]=>match zao T t,zao T tx,x,zco g y with
  | some (.slice e),some (.slice _),.own m off n,some (es,rd)=>match T e,g m with
   | some ei,some o=>if o.md = .rw ∧ o.es = ei.size ∧ off + n ≤ o.elems.length ∧ 0 < o.elems.length ∧ szOf g y = some ei.size ∧ ntOk o.fl o.elems = true ∧ ntOk (zcp g y) es = true then
    some ⟨.int .i64 (min n es.length : Nat),[(m,{ o with elems:=o.elems.take off ++ (es.take (min n es.length) ++ o.elems.drop (off + min n es.length)),fl:=min o.fl (zcp g y) })],m :: rd⟩ else none
   | _,_=>none
  | _,_,_,_=>none
 | _=>none
def ze8 (T : TypeId → Option TI) (g : Nat → Option AObj) (nm : Nat) (b : Builtin) (tys : List TypeId) (args : List V) : Option Eff :=
 match b,args with
 | .len,[x]=>match (match tys with | t :: _=>zao T t | []=>none),x with
  | some (.string),.str s=>some ⟨.int .i64 s.size,[],[]⟩
  | some (.slice _),.sl _ _ es=>some ⟨.int .i64 es.length,[],[]⟩
  | some (.slice _),.own _ _ n=>some ⟨.int .i64 n,[],[]⟩
  | _,_=>none
 | .cap,[.sl tg _ es]=>match (match tys with | t :: _=>zao T t | []=>none) with
  | some (.slice _)=>if tg = 0 then (if es.isEmpty then some ⟨.int .i64 0,[],[]⟩ else none) else if tg = 1 ∨ tg = 3 then some ⟨.int .i64 es.length,[],[]⟩ else none
  | _=>none
 | .append,[x,y]=>match (match tys with | t :: _=>zao T t | []=>none),tys with
  | some (.slice e),[_,ty]=>match zao T ty,y with
   | some .string,.str s=>if zk9 T e then zds T g nm e x (zae s.data.toList) 2 [] else none
   | some (.slice _),y=>match zco g y with
    | some (es,rd)=>if szOf g y = sizeT T e ∨ es.isEmpty = true then zds T g nm e x es (zcp g y) rd else none
    | none=>none
   | some (.int .i64),.int .i64 n=>match x with
    | .sl 0 _ []=>zm3 T g nm e n
    | _=>none
   | _,_=>none
  | _,_=>none
 | .min,l=>zbD (aMin false l)
 | .max,l=>zbD (aMin true l)
 | .copy,[x,y]=>aCopy T g tys x y
 | _,_=>none
def V.ren (f : Nat → Nat) : V → V
 | .own nm off n=>.own (f nm) off n
 | .ptr nm i j=>.ptr (f nm) i j
 | .mth h nm=>.mth h (f nm)
 | .agg cs=>.agg (renAll f cs)
 | .tup cs=>.tup (renAll f cs)
 | v=>v
where renAll (f : Nat → Nat) : List V → List V
 | []=>[]
 | c :: cs=>c.ren f :: renAll f cs
def AObj.ren (f : Nat → Nat) (o : AObj) : AObj:=if o.fl = 0 then { o with elems:=o.elems.map (V.ren.renAll f) } else o
def posOf (n : Nat) : List Nat → Option Nat
 | []=>none
 | m :: ms=>if m = n then some 0 else match posOf n ms with | some k=>some (k + 1) | none=>none
def zbJ (F : V → Option (V × List Nat)) : List V → Option (List V × List Nat)
 | []=>some ([],[])
 | c :: cs=>match F c,zbJ F cs with
  | some (v,b),some (vs,bs)=>some (v :: vs,b ++ bs)
  | _,_=>none
def zbH (F : V → Option (V × List Nat)) : List (List V) → Option (List (List V) × List Nat)
 | []=>some ([],[])
 | c :: cs=>match zbJ F c,zbH F cs with
  | some (v,b),some (vs,bs)=>some (v :: vs,b ++ bs)
  | _,_=>none
def deepV (g : Nat → Option AObj) (refs : List Nat) : Nat → V → Option (V × List Nat)
 | k + 1,.own nm off n=>if refs.contains nm then none else match g nm with
  | some o=>if o.md ≠ .dead ∧ off + n ≤ o.elems.length then match (if o.fl ≠ 0 then some ((o.elems.drop off).take n,[]) else zbH (deepV g refs k) ((o.elems.drop off).take n)) with
   | some (rows,bs)=>some (.sl 2 o.es rows,nm :: bs)
   | none=>none
   else none
  | none=>none
 | _,v=>if v.closed then some (v,[]) else none
def zaP (g : Nat → Option AObj) : Nat → V → List Nat
 | k + 1,.own nm _ _=>nm :: (match g nm with
  | some o=>if o.fl ≠ 0 then [] else o.elems.flatMap fun r=>r.flatMap (zaP g k)
  | none=>[])
 | _,_=>[]
def zbI (g : Nat → Option AObj) (refs : List Nat) : V → Option (V × List Nat)
 | .own nm off n=>match posOf nm refs with
  | some k=>some (.own k off n,[])
  | none=>match g nm with
  | some o=>if o.md ≠ .dead ∧ o.fl ≠ 0 ∧ off + n ≤ o.elems.length then some (.sl 2 o.es ((o.elems.drop off).take n),[nm]) else if o.fl = 0 then deepV g refs 3 (.own nm off n) else none
  | none=>none
 | .ptr nm i j=>match posOf nm refs with
  | some k=>some (.ptr k i j,[])
  | none=>none
 | .mth f nm=>match posOf nm refs with
  | some k=>some (.mth f k,[])
  | none=>none
 | v=>if v.closed then some (v,[]) else none
def zbr (g : Nat → Option AObj) (refs : List Nat) : List V → Option (List V × List Nat)
 | []=>some ([],[])
 | c :: cs=>match zbI g refs c,zbr g refs cs with
  | some (v,b),some (vs,bs)=>some (v :: vs,b ++ bs)
  | _,_=>none
def argV (g : Nat → Option AObj) (refs : List Nat) : V → Option (V × List Nat)
 | .agg cs=>(zbr g refs cs).map fun (vs,bs)=>(.agg vs,bs)
 | v=>zbI g refs v
def argVs (g : Nat → Option AObj) (refs : List Nat) : List V → Option (List V × List Nat)
 | []=>some ([],[])
 | c :: cs=>match argV g refs c,argVs g refs cs with
  | some (v,b),some (vs,bs)=>some (v :: vs,b ++ bs)
  | _,_=>none
def za1 : List V → List Nat
 | []=>[]
 | .ptr nm _ _ :: r=>let l:=za1 r; if l.contains nm then l else nm :: l
 | _ :: r=>za1 r
def nameless (o : AObj) : Bool:=if o.fl ≠ 0 then true else o.elems.all fun r=>r.all fun c=>c.isTree || c.closed
def zdB (g : Nat → Option AObj) : List Nat → Option (List AObj)
 | []=>some []
 | n :: ns=>match g n,zdB g ns with
  | some o,some os=>if o.md = .rw ∧ nameless o = true then some (o :: os) else none
  | _,_=>none
def zbl : Nat → V → Bool
 | k + 1,.tree _ _ _ rows _ fl=>decide (fl = 2) || rows.all fun r=>r.all (zbl k)
 | 0,.tree ..=>false
 | _,.sl ..=>false
 | _,v=>v.scalar
def zbu (o : AObj) : Bool:=if o.fl = 2 then true else if o.fl = 0 then o.elems.all (fun r=>r.all (zbl 3)) else false
def zby : List AObj → Bool
 | []=>true
 | o :: os=>zbu o && zby os
def zgU : List AObj → Bool
 | []=>true
 | o :: os=>nameless o && zgU os
def numbered (nm : Nat) (f : Nat → Nat) : Nat → List AObj → List (Nat × AObj)
 | _,[]=>[]
 | j,o :: os=>(nm + j,o.ren f) :: numbered nm f (j + 1) os
def zdj (g : Nat → Option AObj) (nm : Nat) : Nat → Bool
 | 0=>true
 | k + 1=>(g (nm + k)).isNone && zdj g nm k
def freeze (g : Nat → Option AObj) : List Nat → List (Nat × AObj)
 | []=>[]
 | n :: ns=>match g n with
  | some o=>(n,{ o with md:=.ro }) :: freeze g ns
  | none=>freeze g ns
def disjoint (a b : List Nat) : Bool:=a.all fun x=>!b.contains x
def zau (refs : List Nat) (nm : Nat) (k : Nat) : Nat:=match refs[k]? with | some n=>n | none=>nm + (k - refs.length)
def RO (f : FuncId) : Bool:=(29248209056533471862383410328041718784 / 2 ^ f) % 2 == 1
def kept (f : FuncId) (olds os : List AObj) : Prop:=RO f = true ∧ olds = os
open Classical in
/-- A call,by what the callee is known to do; 'refs': the objects that it may write. -/
noncomputable def zdU (C : FuncId → List V → List AObj → Option CRes) (g : Nat → Option AObj) (nm : Nat) (f : FuncId) (args : List V) (refs : List Nat) : Option Eff :=
 match argVs g refs args,zdB g refs with
 | some (vs,bs),some os=>if disjoint refs bs then match C f vs os with
  | some r =>
   let news:=r.objs.drop refs.length
   let olds:=r.objs.take refs.length
   if refs.length ≤ r.objs.length ∧ news.length ≤ 8 ∧ zdj g nm 8 = true ∧ zgU olds = true then
    let keep:=(r.v.scalar && zby r.objs) || bs.isEmpty
    some ⟨r.v.ren (zau refs nm),(if kept f olds os then [] else refs.zip olds) ++ numbered nm (zau refs nm) 0 news ++ (if keep then [] else freeze g bs),refs ++ bs ++ (List.range 8).map (nm + ·)⟩
   else none
  | none=>none
  else none
 | _,_=>none
def zbR : V → List Nat
 | .own nm _ _ | .ptr nm _ _ | .mth _ nm=>[nm]
 | _=>[]
def zaU : V → List Nat
 | .agg cs=>cs.flatMap zbR
 | v=>zbR v
def argNm (g : Nat → Option AObj) (v : V) : List Nat:=match v with
 | .agg cs=>cs.flatMap (zaP g 3)
 | v=>zaP g 3 v
def zdf (g : Nat → Option AObj) (args : List V) : List Nat:=args.flatMap (argNm g)
def zeD (l : List Nat) : List Nat → List Nat
 | []=>l
 | n :: r=>if l.contains n then zeD l r else zeD (l ++ [n]) r
def zca (args : List V) : List Nat:=zeD [] (args.flatMap zaU)
def cutF (n : Nat) (o : AObj) : AObj:={ o with elems:=o.elems.take n,tight:=false }
def fold1 (g : Nat → Option AObj) (n j : Nat) : List (Nat × AObj):=match g n with
 | some o=>match o.elems with
  | [row]=>match row[j]? with
   | some (.ptr m 0 0)=>match g m with
    | some o'=>if m ≠ n ∧ o.md = .rw ∧ o'.md = .rw ∧ nameless o' = true then [(m,kill o'),(n,{ o with elems:=[row.set j (o'.toTree false)],fl:=0 })] else []
    | none=>[]
   | some (.own m 0 k)=>match g m with
    | some o'=>if m ≠ n ∧ o.md = .rw ∧ o'.md = .rw ∧ nameless (cutF k o') = true ∧ k ≤ o'.elems.length then [(m,kill o'),(n,{ o with elems:=[row.set j ((cutF k o').toTree true)],fl:=0 })] else []
    | none=>[]
   | _=>[]
  | _=>[]
 | none=>[]
structure Clo where
 g : Nat → Option AObj
 l : List (Nat × AObj)
def Clo.step (n j : Nat) (p : Clo) : Clo:=⟨zas p.g (fold1 p.g n j),p.l ++ fold1 p.g n j⟩
def zci (K : Nat → Clo → Clo) (n : Nat) : List V → Nat → Clo → Clo
 | [],_,p=>p
 | c :: cs,j,p=>zci K n cs (j + 1) (match c with
  | .ptr m _ _ | .own m _ _=>(K m p).step n j
  | _=>p)
def zdY : Nat → Nat → Clo → Clo
 | 0,_,p=>p
 | k + 1,n,p=>match p.g n with
  | some o=>if nameless o = true then p else match o.elems with
   | [row]=>zci (zdY k) n row 0 p
   | _=>p
  | none=>p
def zii : List Nat → Clo → Clo
 | [],p=>p
 | n :: ns,p=>zii ns (zdY 4 n p)
def zdt (g : Nat → Option AObj) : List Nat → Bool
 | []=>true
 | n :: ns=>(match g n with | some o=>nameless o | none=>true) && zdt g ns
def visit (g : Nat → Option AObj) : Nat → Nat → List Nat
 | 0,n=>[n]
 | k + 1,n=>n :: match g n with
  | some o=>if nameless o = true then [] else match o.elems with
   | [row]=>(row.flatMap zbR).flatMap (visit g k)
   | _=>[]
  | none=>[]
def zd7 (S : List Nat) (g : Nat → Option AObj) : Nat → Option AObj:=fun n=>if S.contains n = true then g n else none
def zcL (g : Nat → Option AObj) (refs : List Nat) : List (Nat × AObj):=if zdt g refs = true then [] else (zii refs ⟨zd7 (refs.flatMap (visit g 4)) g,[]⟩).l
def zf1 (g : Nat → Option AObj) (refs : List Nat) : List Nat:=if zdt g refs = true then [] else refs.flatMap (visit g 4)
def Eff.behind (L : List (Nat × AObj)) (rd : List Nat) (e : Eff) : Eff:=⟨e.v,L ++ e.wr,e.rd ++ rd⟩
def zdw (g : Nat → Option AObj) (args : List V) (refs : List Nat) : List Nat:=zdf (zas g (zcL g refs)) args ++ zf1 g refs
def LK (f : FuncId) : Bool:=(98079714615416886942914770662321808128356331944440349696 / 2 ^ f) % 2 == 1
def zeG (refs : List Nat) (n : Nat) : Nat:=match posOf n refs with | some k=>k | none=>0
def zbX (refs : List Nat) : V → Bool
 | .own nm _ _ | .ptr nm _ _=>(posOf nm refs).isSome
 | c=>c.isTree || c.closed
def zbp (refs : List Nat) (o : AObj) : Bool:=if o.fl ≠ 0 then true else o.elems.all fun r=>r.all (zbX refs)
def zck (g : Nat → Option AObj) (refs : List Nat) : List Nat → Option (List AObj)
 | []=>some []
 | n :: ns=>match g n,zck g refs ns with
  | some o,some os=>if o.md = .rw ∧ zbp refs o = true then some (o.ren (zeG refs) :: os) else none
  | _,_=>none
def zgr (g : Nat → Option AObj) (n : Nat) : List Nat:=match g n with
 | some o=>if o.fl ≠ 0 then [] else o.elems.flatMap fun r=>r.flatMap zbR
 | none=>[]
def zcg (g : Nat → Option AObj) : V → List Nat
 | .ptr nm _ _ | .mth _ nm=>[nm]
 | .own nm _ _=>match g nm with
  | some o=>if o.fl ≠ 0 then [] else [nm]
  | none=>[]
 | _=>[]
def zbC (g : Nat → Option AObj) : V → List Nat
 | .agg cs=>cs.flatMap (zcg g)
 | v=>zcg g v
def zdz (g : Nat → Option AObj) (args : List V) : List Nat:=zeD (zeD [] (args.flatMap (zbC g))) ((args.flatMap (zbC g)).flatMap (zgr g))
def zbg (f : Nat → Nat) : List AObj → List AObj
 | []=>[]
 | o :: os=>o.ren f :: zbg f os
open Classical in
/-- A call that is handed objects together with those that they name. -/
noncomputable def zgo (C : FuncId → List V → List AObj → Option CRes) (g : Nat → Option AObj) (nm : Nat) (f : FuncId) (args : List V) (refs : List Nat) : Option Eff :=
 match argVs g refs args,zck g refs refs with
 | some (vs,bs),some os=>if disjoint refs bs then match C f vs os with
  | some r=>if refs.length ≤ r.objs.length ∧ (r.objs.drop refs.length).length ≤ 8 ∧ zdj g nm 8 = true then
   some ⟨r.v.ren (zau refs nm),(if kept f os (r.objs.take refs.length) then [] else refs.zip (zbg (zau refs nm) (r.objs.take refs.length))) ++ numbered nm (zau refs nm) 0 (r.objs.drop refs.length) ++ (if ((r.v.scalar && zby r.objs) || bs.isEmpty) = true then [] else freeze g bs),zca args ++ zdf g args ++ refs ++ bs ++ (List.range 8).map (nm + ·)⟩
   else none
  | none=>none
  else none
 | _,_=>none
noncomputable def aCall (C : FuncId → List V → List AObj → Option CRes) (g : Nat → Option AObj) (nm : Nat) (f : FuncId) (args : List V) : Option Eff :=
 if LK f = true then zgo C g nm f args (zdz g args) else match zdU C (zas g (zcL g (za1 args))) nm f args (za1 args) with
 | some e=>some (e.behind (zcL g (za1 args)) (zca args ++ zdw g args (za1 args)))
 | none=>match zdU C (zas g (zcL g (zca args))) nm f args (zca args) with
  | some e=>some (e.behind (zcL g (zca args)) (zca args ++ zdw g args (za1 args) ++ zdw g args (zca args)))
  | none=>none
def ownRd : V → List Nat
 | .own nm _ _=>[nm]
 | _=>[]
def aMeth (f : FuncId) (first : List V) (b : Bool) : Option Eff:=match first,b with
 | [.ptr n 0 0],true=>some ⟨.mth f n,[],[]⟩
 | _,_=>none
noncomputable def aop (T : TypeId → Option TI) (C : FuncId → List V → List AObj → Option CRes) (ρ : Operand → V) (g : Nat → Option AObj) (nm : Nat) (op : Op) : Option Eff :=
 match op with
 | .move x | .assign x=>some ⟨ρ x,[],[]⟩
 | .pick c a b=>match ρ c with
  | .bool true=>some ⟨ρ a,[],[]⟩
  | .bool false=>some ⟨ρ b,[],[]⟩
  | _=>none
 | .alloc e=>match T e with
  | some ei=>if zaV ei.zero then fresh nm ⟨e,ei.size,[ei.zero],true,flOf ei.zero,.rw⟩ (.ptr nm 0 0) [] g else none
  | none=>none
 | .box e x=>if zaV (ρ x).cells then fresh nm ⟨e,(ρ x).cells.length,[(ρ x).cells],true,flOf (ρ x).cells,.rw⟩ (.ptr nm 0 0) [] g else none
 | .build t parts=>zbD (zmQ T t (parts.toList.map fun (i,x)=>(i,ρ x)))
 | .buildSlice t len parts=>zcW T g nm t len (parts.toList.map fun (i,x)=>(i,ρ x))
 | .load t a=>zhG T g nm t (ρ a)
 | .store t a x=>zkP T g t (ρ a) (ρ x)
 | .nilCheck x=>match ρ x with
  | .ptr n i j=>some ⟨.ptr n i j,[],[]⟩
  | .pp cs=>some ⟨.pp cs,[],[]⟩
  | _=>none
 | .binOp op xt x y _=>zbD (aBin T op xt (ρ x) (ρ y))
 | .unOp op _ x=>zbD (aUn op (ρ x))
 | .convert src dst x=>aConv T g nm src dst (ρ x)
 | .makeSlice t l c=>aMake T g nm t (ρ l) (ρ c)
 | .slice t x lo hi mx=>(zhH T g t (ρ x) (lo.map ρ) (hi.map ρ) (mx.map ρ)).map fun v=>⟨v,[],ownRd (ρ x)⟩
 | .fieldAddr s x f=>zbD (zdV T s (ρ x) f)
 | .field s x f=>zbD (zmU T s (ρ x) f)
 | .indexAddr t x i=>(zcA T g t (ρ x) (ρ i)).map fun v=>⟨v,[],ownRd (ρ x)⟩
 | .index t x i=>zbD (zmW T t (ρ x) (ρ i))
 | .extract x i=>match ρ x with
  | .tup vs=>zbD (vs[i]?)
  | _=>none
 | .call ⟨.builtin b,args,tys⟩=>ze8 T g nm b tys.toList (args.toList.map ρ)
 | .call ⟨.value f,args,_⟩=>match ρ f with
  | .fn f=>aCall C g nm f (args.toList.map ρ)
  | .clo f caps=>aCall C g nm f (args.toList.map ρ ++ caps)
  | .mth f n=>aCall C g nm f (.ptr n 0 0 :: args.toList.map ρ)
  | _=>none
 | .makeFunc (.func f) first caps=>if first.toList.isEmpty ∧ V.closed.closedAll (caps.toList.map ρ) = true then some ⟨.clo f (caps.toList.map ρ),[],[]⟩ else aMeth f (first.toList.map ρ) caps.toList.isEmpty
 | _=>none
def St.ev (st : St) : Operand → V
 | .tmp t=>st.s t
 | .const v=>ofConst v
 | .func f=>.fn f
 | .global g=>match GLB g with
  | some cs=>.pp cs
  | none=>.junk
def zcq (ops : Array Oper) (o : Oper) (s : Nat → V) : Option Bool :=
 match o.guard with
 | none=>some true
 | some (j,want)=>match (ops[j]?).bind (·.dst) with
  | some d=>match s d with
   | .bool b=>some (b == want)
   | .tup []=>some false
   | _=>none
  | none=>none
def putS (s : Nat → V) (d : Option Tmp) (v : V) : Nat → V:=match d with | some d=>upd s d v | none=>s
noncomputable def astep (T : TypeId → Option TI) (C : FuncId → List V → List AObj → Option CRes) (ops : Array Oper) (i : Nat) (st : St) : Option (St × List Nat × List Nat) :=
 match ops[i]? with
 | none=>none
 | some o=>match zcq ops o st.s with
  | none=>none
  | some false=>some ({ st with s:=putS st.s o.dst (.tup []) },[],[])
  | some true=>match aop T C st.ev st.g (st.c + 8 * i) o.op with
   | none=>none
   | some e=>some ({ st with s:=putS st.s o.dst e.v,g:=zas st.g e.wr },e.rd,e.wr.map (·.1))
def gUp (γ : Nat → Option GI) (nm : Nat) (gi : GI) : Nat → Option GI:=fun n=>if n = nm then some gi else γ n
structure ObjAt (w : World) (I : Nat → Prop) (γ : Nat → Option GI) (o : AObj) (gi : GI) (cur : Array Value) (fr : Nat × Nat) : Prop where
 nn : gi.nil = false
 es : gi.es = o.es
 heap : w.heap[gi.blk]? = some (.cells cur o.et fr)
 frz : fr.2 ≤ fr.1 ∨ cur.size ≤ fr.1
 size : cur.size = gi.cap * gi.es
 le : o.elems.length ≤ gi.cap
 tight : o.tight = true → o.elems.length = gi.cap
 max : gi.cap ≤ maxLen
 cells : ∀ i j u,zah o.elems i j = some u → ∃ x,cur[i * o.es + j]? = some x ∧ Rd w I γ u x
 ro : o.md = .ro → I gi.blk
 rw : o.md = .rw → ¬ I gi.blk
structure ObjOk (w : World) (I : Nat → Prop) (γ : Nat → Option GI) (nm : Nat) (o : AObj) : Prop where
 rows : ∀ e ∈ o.elems,e.length = o.es
 cel : ∀ i j u,zah o.elems i j = some u → u.cellular = true
 closed : o.fl ≠ 0 → ∀ i j u,zah o.elems i j = some u → u.closed = true
 scalar : 2 ≤ o.fl → ∀ i j u,zah o.elems i j = some u → u.scalar = true
 at_ : (o.elems = [] ∧ ∃ gi,γ nm = some gi ∧ gi.nil = true) ∨ ∃ gi cur fr,γ nm = some gi ∧ ObjAt w I γ o gi cur fr
structure Ex where
 wr : Nat → Prop
 rd : Nat → Prop
 fix : Nat → Option GI
theorem zan {elems : List (List V)} {i j : Nat} {u : V} (h : zah elems i j = some u) : ∃ e,elems[i]? = some e ∧ e[j]? = some u:=by
 unfold zah at h
 cases he : elems[i]? with
 | none=>rw [he] at h; cases h
 | some e=>rw [he] at h; exact ⟨e,rfl,h⟩
theorem zay {elems : List (List V)} {i j : Nat} {u : V} {e : List V} (he : elems[i]? = some e) (hu : e[j]? = some u) : zah elems i j = some u:=by
 unfold zah; rw [he]; exact hu
theorem zgS {o : AObj} (h : nameless o = true) (hc : o.fl ≠ 0 → ∀ i j u,zah o.elems i j = some u → u.closed = true) : ∀ i j u,zah o.elems i j = some u → u.isTree = true ∨ u.closed = true:=by
 intro i j u hu
 unfold nameless at h
 split at h
 ·rename_i hf; exact .inr (hc hf i j u hu)
 ·obtain ⟨r,h1,h2⟩:=zan hu
  have:=List.all_eq_true.1 (List.all_eq_true.1 h r (List.mem_of_getElem? h1)) u (List.mem_of_getElem? h2)
  simpa using this
theorem zeb : ∀ {rows : List (List V)},zcI rows = true → ∀ i j u,zah rows i j = some u → u.isTree = false
 | [],_,i,j,u,h=>by simp [zah] at h
 | r :: rs,h,i,j,u,hu=>by
  simp only [zcI,Bool.and_eq_true] at h
  obtain ⟨e,h1,h2⟩:=zan hu
  cases i with
  | zero=>simp at h1; subst h1; simpa using List.all_eq_true.1 h.1 u (List.mem_of_getElem? h2)
  | succ i=>exact zeb h.2 i j u (zay (by simpa using h1) h2)
theorem zeY {fl : Nat} {rows : List (List V)} (h : ntOk fl rows = true) (hc : fl ≠ 0 → ∀ i j u,zah rows i j = some u → u.closed = true) : ∀ i j u,zah rows i j = some u → u.isTree = false:=by
 intro i j u hu
 unfold ntOk at h
 split at h
 ·rename_i hf; exact V.closed_nt (hc hf i j u hu)
 ·exact zeb h i j u hu
inductive TreeAt (w : World) (I : Nat → Prop) : V → Value → (Nat → Prop) → Prop
 | box (sl : Bool) (et : TypeId) (es : Nat) (rows : List (List V)) (tight : Bool) (fl : Nat) (gi : GI) (x : Value) (F : Nat → Prop) (G : Nat → Nat → Nat → Prop) (ys : Nat → Nat → Value)
  (hok : ObjOk w I (fun _=>some gi) 0 ⟨et,es,rows,tight,fl,.rw⟩) (hnn : gi.nil = false) (hnl : ∀ i j u,zah rows i j = some u → u.isTree = true ∨ u.closed = true)
  (hx : (sl = false ∧ x = .pointer (some ⟨gi.blk,0,none⟩)) ∨ (sl = true ∧ ∃ o,x = .slice (some ⟨gi.blk,o,none⟩) rows.length gi.cap ∧ (gi.cap ≠ 0 → o = 0)))
  (hF : F gi.blk) (hlt : gi.blk < w.heap.size)
  (hys : ∀ i j u cur et fr,zah rows i j = some u → u.isTree = true → w.heap[gi.blk]? = some (.cells cur et fr) → cur[i * gi.es + j]? = some (ys i j))
  (hsub : ∀ i j u,zah rows i j = some u → u.isTree = true → TreeAt w I u (ys i j) (G i j))
  (hG : ∀ i j u b,zah rows i j = some u → u.isTree = true → G i j b → F b ∧ b ≠ gi.blk)
  (hd : ∀ i j u i' j' u' b,zah rows i j = some u → u.isTree = true → zah rows i' j' = some u' → u'.isTree = true → G i j b → G i' j' b → i = i' ∧ j = j') :
  TreeAt w I (.tree sl et es rows tight fl) x F
 | nil (et : TypeId) (es : Nat) (tight : Bool) (fl : Nat) (A : Option Addr) (F : Nat → Prop) : TreeAt w I (.tree true et es [] tight fl) (.slice A 0 0) F
def TCell (g : Nat → Option AObj) (n i j : Nat) (u : V) : Prop:=∃ o,g n = some o ∧ o.md ≠ .dead ∧ zah o.elems i j = some u ∧ u.isTree = true
structure Trees (w0 : World) (ex : Ex) (I : Nat → Prop) (γ : Nat → Option GI) (g : Nat → Option AObj) (w : World) (F : Nat → Nat → Nat → Nat → Prop) : Prop where
 at_ : ∀ n i j u,TCell g n i j u → ∀ gi cur et fr,γ n = some gi → gi.nil = false → w.heap[gi.blk]? = some (.cells cur et fr) → ∃ x,cur[i * gi.es + j]? = some x ∧ TreeAt w I u x (F n i j)
 fr : ∀ n i j u b,TCell g n i j u → F n i j b → b < w.heap.size ∧ ¬ I b ∧ (w0.heap.size ≤ b ∨ ex.wr b)
 nm : ∀ n i j u b,TCell g n i j u → F n i j b → ∀ m o gi,g m = some o → o.md ≠ .dead → γ m = some gi → gi.nil = false → gi.blk ≠ b
 dj : ∀ n i j u n' i' j' u' b,TCell g n i j u → TCell g n' i' j' u' → F n i j b → F n' i' j' b → n = n' ∧ i = i' ∧ j = j'
structure Inv (w0 : World) (ex : Ex) (I : Nat → Prop) (γ : Nat → Option GI) (g : Nat → Option AObj) (w : World) : Prop where
 obj : ∀ n o,g n = some o → o.md ≠ .dead → ObjOk w I γ n o
 inj : ∀ n m o o' gi gi',g n = some o → g m = some o' → o.md ≠ .dead → o'.md ≠ .dead → γ n = some gi → γ m = some gi' → gi.nil = false → gi'.nil = false → gi.blk = gi'.blk → n = m
 own : ∀ n o gi,g n = some o → o.md ≠ .dead → γ n = some gi → gi.nil = false → w0.heap.size ≤ gi.blk ∨ ex.wr gi.blk
 dom : ∀ n gi,γ n = some gi → g n ≠ none
 lt : ∀ b,I b → b < w.heap.size
 keep : ∀ b,ex.rd b → I b
 fix : ∀ n gi,ex.fix n = some gi → γ n = some gi
 back : ∀ b,I b → ex.rd b ∨ w0.heap.size ≤ b ∨ ex.wr b
 frame : ∀ b,b < w0.heap.size → ¬ ex.wr b → w.heap[b]? = w0.heap[b]?
 os : w.os = w0.os
 tape : w.tape = w0.tape
 output : w.output = w0.output
 size : w0.heap.size ≤ w.heap.size
 trees : ∃ F,Trees w0 ex I γ g w F
structure Ext (I : Nat → Prop) (γ : Nat → Option GI) (w : World) (I' : Nat → Prop) (γ' : Nat → Option GI) (w' : World) : Prop where
 imm : ∀ b,I b → I' b ∧ w'.heap[b]? = w.heap[b]?
 nam : ∀ nm gi,γ nm = some gi → γ' nm = some gi
theorem Ext.refl (I γ w) : Ext I γ w I γ w:=⟨fun _ h=>⟨h,rfl⟩,fun _ _ h=>h⟩
theorem Ext.trans {I γ w I' γ' w' I'' γ'' w''} (h : Ext I γ w I' γ' w') (k : Ext I' γ' w' I'' γ'' w'') : Ext I γ w I'' γ'' w'' :=
 ⟨fun b hb=>⟨(k.imm b (h.imm b hb).1).1,((k.imm b (h.imm b hb).1).2).trans (h.imm b hb).2⟩,fun n gi hn=>k.nam n gi (h.nam n gi hn)⟩
theorem Ext.rd {I γ w I' γ' w'} (h : Ext I γ w I' γ' w') {v : V} {x : Value} (hr : Rd w I γ v x) : Rd w' I' γ' v x:=hr.mono h.imm h.nam
def GlobAt (w : World) (I : Nat → Prop) : Prop:=∀ g cs,GLB g = some cs → ∀ (j : Nat) (u : V),cs[j]? = some u → I g ∧ ∃ x,w.cell? ⟨g,j,none⟩ = some x ∧ Rd w I noG u x
theorem GlobAt.mono {w w' : World} {I I' : Nat → Prop} (h : GlobAt w I) (hI : ∀ b,I b → I' b ∧ w'.heap[b]? = w.heap[b]?) : GlobAt w' I':=fun g cs hg j u hu=>by
 obtain ⟨h1,x,h2,h3⟩:=h g cs hg j u hu
 refine ⟨(hI g h1).1,x,?_,h3.mono hI (fun _ _ h=>h)⟩
 rw [World.cell?_of_block (w:=w)]
 ·exact h2
 ·exact (hI g h1).2
theorem GlobAt.wider {w : World} {I I' : Nat → Prop} (h : GlobAt w I) (hI : ∀ b,I b → I' b) : GlobAt w I':=h.mono fun b hb=>⟨hI b hb,rfl⟩
theorem Ext.glob {I γ w I' γ' w'} (h : Ext I γ w I' γ' w') (hg : GlobAt w I) : GlobAt w' I':=hg.mono h.imm
def Same (w w' : World) : Prop:=w'.heap = w.heap ∧ w'.os = w.os ∧ w'.tape = w.tape ∧ w'.output = w.output
theorem Same.ext {w w' : World} (h : Same w w') (I γ) : Ext I γ w I γ w':=⟨fun b hb=>⟨hb,by rw [h.1]⟩,fun _ _ h=>h⟩
theorem ObjAt.ext {w w' I γ I' γ' o gi cur fr} (h : ObjAt w I γ o gi cur fr) (e : Ext I γ w I' γ' w') (hh : w'.heap[gi.blk]? = w.heap[gi.blk]?) (hro : o.md = .rw → ¬ I' gi.blk) : ObjAt w' I' γ' o gi cur fr :=
 ⟨h.nn,h.es,hh.trans h.heap,h.frz,h.size,h.le,h.tight,h.max,fun i j u hu=>by obtain ⟨x,hx,hr⟩:=h.cells i j u hu; exact ⟨x,hx,e.rd hr⟩,fun hm=>(e.imm _ (h.ro hm)).1,hro⟩
theorem ObjOk.ext {w w' I γ I' γ' n o} (h : ObjOk w I γ n o) (e : Ext I γ w I' γ' w') (hb : ∀ gi,γ n = some gi → gi.nil = false → w'.heap[gi.blk]? = w.heap[gi.blk]? ∧ (o.md = .rw → I' gi.blk → I gi.blk)) : ObjOk w' I' γ' n o:=by
 refine ⟨h.rows,h.cel,h.closed,h.scalar,?_⟩
 rcases h.at_ with ⟨he,gi,h1,h2⟩ | ⟨gi,cur,fr,h1,ha⟩
 ·exact .inl ⟨he,gi,e.nam _ _ h1,h2⟩
 ·obtain ⟨k1,k2⟩:=hb gi h1 ha.nn
  exact .inr ⟨gi,cur,fr,e.nam _ _ h1,ha.ext e k1 fun hm hi=>ha.rw hm (k2 hm hi)⟩
theorem TreeAt.mono {w w' : World} {I I' : Nat → Prop} {u : V} {x : Value} {F : Nat → Prop} (h : TreeAt w I u x F) (hs : w.heap.size ≤ w'.heap.size) (hI : ∀ b,I b → I' b ∧ w'.heap[b]? = w.heap[b]?) :
 ∀ {F' : Nat → Prop},(∀ b,F b → F' b) → (∀ b,F b → w'.heap[b]? = w.heap[b]? ∧ (I' b → I b)) → TreeAt w' I' u x F':=by
 induction h with
 | box sl et es rows tight fl gi x F G ys hok hnn hnl hx hF hlt hys hsub hG hd ih =>
  intro F' hF' hb
  refine .box sl et es rows tight fl gi x F' G ys (hok.ext ⟨hI,fun _ _ h=>h⟩ fun gi' h1 h2=>?_) hnn hnl hx (hF' _ hF) (by omega) (fun i j u cur et fr h1 h2 h3=>?_) (fun i j u h1 h2=>?_) (fun i j u b h1 h2 h3=>?_) hd
  ·cases h1; exact ⟨(hb _ hF).1,fun _=>(hb _ hF).2⟩
  ·rw [(hb _ hF).1] at h3; exact hys i j u cur et fr h1 h2 h3
  ·exact ih i j u h1 h2 (fun b h=>h) fun b h=>hb b (hG i j u b h1 h2 h).1
  ·exact ⟨hF' _ (hG i j u b h1 h2 h3).1,(hG i j u b h1 h2 h3).2⟩
 | nil et es tight fl A F=>intro F' _ _; exact .nil _ _ _ _ _ _
theorem Trees.keep {w0 w w' : World} {ex : Ex} {I I' : Nat → Prop} {γ γ' : Nat → Option GI} {g g' : Nat → Option AObj} {F} (h : Trees w0 ex I γ g w F) (σ : Nat → Nat)
 (hI : ∀ b,I b → I' b ∧ w'.heap[b]? = w.heap[b]?) (hs : w.heap.size ≤ w'.heap.size)
 (hc : ∀ n i j u,TCell g' n i j u → TCell g (σ n) i j u ∧ ∀ gi' cur' et' fr',γ' n = some gi' → gi'.nil = false → w'.heap[gi'.blk]? = some (.cells cur' et' fr') → ∃ gi cur et fr,γ (σ n) = some gi ∧ gi.nil = false ∧ w.heap[gi.blk]? = some (.cells cur et fr) ∧ cur'[i * gi'.es + j]? = cur[i * gi.es + j]?)
 (hinj : ∀ n m i j u i' j' u',TCell g' n i j u → TCell g' m i' j' u' → σ n = σ m → n = m)
 (hb : ∀ n i j u b,TCell g n i j u → F n i j b → w'.heap[b]? = w.heap[b]? ∧ (I' b → I b))
 (hn : ∀ m o gi,g' m = some o → o.md ≠ .dead → γ' m = some gi → gi.nil = false → w.heap.size ≤ gi.blk ∨ ∃ m' o' gi',g m' = some o' ∧ o'.md ≠ .dead ∧ γ m' = some gi' ∧ gi'.nil = false ∧ gi'.blk = gi.blk) :
 Trees w0 ex I' γ' g' w' (fun n=>F (σ n)):=by
 refine ⟨fun n i j u hu gi' cur' et' fr' h1 h2 h3=>?_,fun n i j u b hu hf=>?_,fun n i j u b hu hf m o gi h1 h2 h3 h4=>?_,fun n i j u n' i' j' u' b hu hu' h1 h2=>?_⟩
 ·obtain ⟨k1,k2⟩:=hc n i j u hu
  obtain ⟨gi,cur,et,fr,q1,q2,q3,q4⟩:=k2 gi' cur' et' fr' h1 h2 h3
  obtain ⟨x,x1,x2⟩:=h.at_ _ i j u k1 gi cur et fr q1 q2 q3
  exact ⟨x,q4.trans x1,x2.mono hs hI (fun _ h=>h) fun b hf=>hb _ i j u b k1 hf⟩
 ·obtain ⟨k1,_⟩:=hc n i j u hu
  obtain ⟨q1,q2,q3⟩:=h.fr _ i j u b k1 hf
  exact ⟨by omega,fun hi=>q2 ((hb _ i j u b k1 hf).2 hi),q3⟩
 ·obtain ⟨k1,_⟩:=hc n i j u hu
  obtain ⟨q1,q2,q3⟩:=h.fr _ i j u b k1 hf
  rcases hn m o gi h1 h2 h3 h4 with k | ⟨m',o',gi',r1,r2,r3,r4,r5⟩
  ·omega
  ·rw [← r5]; exact h.nm _ i j u b k1 hf m' o' gi' r1 r2 r3 r4
 ·obtain ⟨k1,_⟩:=hc n i j u hu
  obtain ⟨k2,_⟩:=hc n' i' j' u' hu'
  obtain ⟨a,b,c⟩:=h.dj _ i j u _ i' j' u' b k1 k2 h1 h2
  exact ⟨hinj n n' i j u i' j' u' hu hu' a,b,c⟩
theorem Trees.still {w0 w : World} {ex : Ex} {I I' : Nat → Prop} {γ γ' : Nat → Option GI} {g g' : Nat → Option AObj} {F} (h : Trees w0 ex I γ g w F) (σ : Nat → Nat) (hI : ∀ b,I b → I' b)
 (hc : ∀ n i j u,TCell g' n i j u → TCell g (σ n) i j u ∧ ∀ gi',γ' n = some gi' → gi'.nil = false → γ (σ n) = some gi')
 (hinj : ∀ n m i j u i' j' u',TCell g' n i j u → TCell g' m i' j' u' → σ n = σ m → n = m)
 (hb : ∀ n i j u b,TCell g n i j u → F n i j b → I' b → I b)
 (hn : ∀ m o gi,g' m = some o → o.md ≠ .dead → γ' m = some gi → gi.nil = false → ∃ m' o' gi',g m' = some o' ∧ o'.md ≠ .dead ∧ γ m' = some gi' ∧ gi'.nil = false ∧ gi'.blk = gi.blk) :
 Trees w0 ex I' γ' g' w (fun n=>F (σ n)) :=
 h.keep σ (fun b hb=>⟨hI b hb,rfl⟩) (Nat.le_refl _) (fun n i j u hu=>⟨(hc n i j u hu).1,fun gi' cur' et' fr' h1 h2 h3=>⟨gi',cur',et',fr',(hc n i j u hu).2 gi' h1 h2,h2,h3,rfl⟩⟩) hinj
  (fun n i j u b hu hf=>⟨rfl,hb n i j u b hu hf⟩) fun m o gi h1 h2 h3 h4=>.inr (hn m o gi h1 h2 h3 h4)
theorem Trees.less {w0 w : World} {ex : Ex} {I I' : Nat → Prop} {γ γ' : Nat → Option GI} {g g' : Nat → Option AObj} {F} (h : Trees w0 ex I γ g w F) (hI : ∀ b,I b → I' b) (hb : ∀ n i j u b,TCell g n i j u → F n i j b → I' b → I b)
 (hg : ∀ n o',g' n = some o' → o'.md ≠ .dead → (∃ o,g n = some o ∧ o.md ≠ .dead ∧ ∀ i j u,zah o'.elems i j = some u → u.isTree = true → zah o.elems i j = some u) ∨ o'.elems = [])
 (hγ : ∀ n o' gi,g' n = some o' → o'.md ≠ .dead → γ' n = some gi → gi.nil = false → γ n = some gi ∧ ∃ o,g n = some o ∧ o.md ≠ .dead) : Trees w0 ex I' γ' g' w F :=
 h.still id hI (fun n i j u hu=>by
  obtain ⟨o',h1,h2,h3,h4⟩:=hu
  rcases hg n o' h1 h2 with ⟨o,k1,k2,k3⟩ | he
  ·exact ⟨⟨o,k1,k2,k3 i j u h3 h4,h4⟩,fun gi' q1 q2=>(hγ n o' gi' h1 h2 q1 q2).1⟩
  ·rw [he] at h3; simp [zah] at h3) (fun _ _ _ _ _ _ _ _ _ _ h=>h) hb fun m o gi h1 h2 h3 h4=>by
  obtain ⟨k1,o',k2,k3⟩:=hγ m o gi h1 h2 h3 h4
  exact ⟨m,o',gi,k2,k3,k1,h4,rfl⟩
theorem Inv.same {w0 ex I γ g w w'} (h : Inv w0 ex I γ g w) (hs : Same w w') : Inv w0 ex I γ g w':=by
 refine ⟨fun n o hg hm=>?_,h.inj,h.own,h.dom,fun b hb=>by rw [hs.1]; exact h.lt b hb,h.keep,h.fix,h.back,fun b hb hx=>by rw [hs.1]; exact h.frame b hb hx,hs.2.1.trans h.os,hs.2.2.1.trans h.tape,hs.2.2.2.trans h.output,by rw [hs.1]; exact h.size,?_⟩
 rotate_left
 ·obtain ⟨F,hF⟩:=h.trees
  exact ⟨_,hF.keep id (fun b hb=>⟨hb,by rw [hs.1]⟩) (by rw [hs.1]; exact Nat.le_refl _) (fun n i j u hu=>⟨hu,fun gi' cur' et' fr' h1 h2 h3=>⟨gi',cur',et',fr',h1,h2,by rw [← hs.1]; exact h3,rfl⟩⟩) (fun _ _ _ _ _ _ _ _ _ _ h=>h)
   (fun n i j u b _ _=>⟨by rw [hs.1],id⟩) fun m o gi h1 h2 h3 h4=>.inr ⟨m,o,gi,h1,h2,h3,h4,rfl⟩⟩
 obtain ⟨h1,hcel,h2,h3,h4⟩:=h.obj n o hg hm
 refine ⟨h1,hcel,h2,h3,?_⟩
 rcases h4 with h4 | ⟨gi,cur,fr,hγ,ha⟩
 ·exact .inl h4
 ·exact .inr ⟨gi,cur,fr,hγ,ha.ext (hs.ext I γ) (by rw [hs.1]) ha.rw⟩
theorem zcO {w w' : World} {o : Obj} (hh : w'.heap = w.heap.push o) {b : Nat} (hb : b < w.heap.size) : w'.heap[b]? = w.heap[b]?:=by
 rw [hh,Array.getElem?_push,if_neg (by omega)]
theorem zmc {w w' : World} {o : Obj} (hh : w'.heap = w.heap.push o) : w'.heap[w.heap.size]? = some o:=by
 rw [hh,Array.getElem?_push,if_pos rfl]
theorem zma {γ : Nat → Option GI} {nm : Nat} {gi : GI} (h : γ nm = none) : ∀ n x,γ n = some x → gUp γ nm gi n = some x:=by
 intro n x hx
 unfold gUp
 by_cases e : n = nm
 ·subst e; rw [h] at hx; cases hx
 ·rw [if_neg e]; exact hx
theorem Inv.alloc {w0 ex I γ g w w'} (h : Inv w0 ex I γ g w) {nm : Nat} (hn : g nm = none) {cur : Array Value} {fr : Nat × Nat} {o : AObj} {cap : Nat}
 (hh : w'.heap = w.heap.push (.cells cur o.et fr)) (hw : w'.os = w.os ∧ w'.tape = w.tape ∧ w'.output = w.output)
 (hfr : fr.2 ≤ fr.1 ∨ cur.size ≤ fr.1) (hs : cur.size = cap * o.es) (hle : o.elems.length ≤ cap) (ht : o.tight = true → o.elems.length = cap) (hmax : cap ≤ maxLen)
 (hrows : ∀ e ∈ o.elems,e.length = o.es) (hcel : ∀ i j u,zah o.elems i j = some u → u.cellular = true) (hcl : o.fl ≠ 0 → ∀ i j u,zah o.elems i j = some u → u.closed = true)
 (hsc : 2 ≤ o.fl → ∀ i j u,zah o.elems i j = some u → u.scalar = true)
 (hc : ∀ i j u,zah o.elems i j = some u → ∃ x,cur[i * o.es + j]? = some x ∧ Rd w I γ u x) (hmd : o.md = .rw) (hnt : ∀ i j u,zah o.elems i j = some u → u.isTree = false) :
 Inv w0 ex I (gUp γ nm ⟨w.heap.size,cap,o.es,false⟩) (upd g nm (some o)) w' ∧ Ext I γ w I (gUp γ nm ⟨w.heap.size,cap,o.es,false⟩) w':=by
 have hγ : γ nm = none:=by
  cases hx : γ nm with
  | none=>rfl
  | some x=>exact absurd hn (h.dom nm x hx)
 have hnI : ¬ I w.heap.size:=fun hI=>by have:=h.lt _ hI; omega
 have hext : Ext I γ w I (gUp γ nm ⟨w.heap.size,cap,o.es,false⟩) w':=⟨fun b hb=>⟨hb,zcO hh (h.lt b hb)⟩,zma hγ⟩
 have hblk : ∀ n o' gi,g n = some o' → o'.md ≠ .dead → γ n = some gi → gi.nil = false → gi.blk < w.heap.size:=by
  intro n o' gi hg hm hgi hnn
  obtain ⟨_,_,_,_,h4⟩:=h.obj n o' hg hm
  rcases h4 with ⟨_,gi',h4,h5⟩ | ⟨gi',cur',fr',hγ',ha⟩
  ·rw [h4] at hgi; cases hgi; rw [hnn] at h5; cases h5
  ·rw [hγ'] at hgi; cases hgi
   rcases Nat.lt_or_ge gi.blk w.heap.size with hlt | hge
   ·exact hlt
   ·have:=ha.heap; rw [Array.getElem?_eq_none hge] at this; cases this
 refine ⟨⟨fun n o' hg hm=>?_,?_,?_,?_,?_,h.keep,fun n gi h'=>hext.nam n gi (h.fix n gi h'),h.back,?_,hw.1.trans h.os,hw.2.1.trans h.tape,hw.2.2.trans h.output,?_,?_⟩,hext⟩
 rotate_right
 ·obtain ⟨F,hF⟩:=h.trees
  have old : ∀ n o',upd g nm (some o) n = some o' → (∃ i j u,zah o'.elems i j = some u ∧ u.isTree = true) → n ≠ nm ∧ g n = some o':=by
   rintro n o' h1 ⟨i,j,u,h2,h3⟩
   by_cases e : n = nm
   ·subst e; rw [zaD] at h1; cases h1; rw [hnt i j u h2] at h3; cases h3
   ·rw [zaz _ _ e] at h1; exact ⟨e,h1⟩
  refine ⟨_,hF.keep id (fun b hb=>hext.imm b hb) (by rw [hh,Array.size_push]; omega) (fun n i j u hu=>?_) (fun _ _ _ _ _ _ _ _ _ _ h=>h) (fun n i j u b hu hf=>⟨zcO hh (hF.fr n i j u b hu hf).1,id⟩) fun m o1 gi h1 h2 h3 h4=>?_⟩
  ·obtain ⟨o',h1,h2,h3,h4⟩:=hu
   obtain ⟨e,k1⟩:=old n o' h1 ⟨i,j,u,h3,h4⟩
   refine ⟨⟨o',k1,h2,h3,h4⟩,fun gi' cur' et' fr' q1 q2 q3=>?_⟩
   rw [gUp,if_neg e] at q1
   exact ⟨gi',cur',et',fr',q1,q2,by rw [← zcO hh (hblk n o' gi' k1 h2 q1 q2)]; exact q3,rfl⟩
  ·by_cases e : m = nm
   ·subst e; simp only [gUp,if_true,Option.some.injEq] at h3; subst h3; exact .inl (Nat.le_refl _)
   ·rw [zaz _ _ e] at h1; rw [gUp,if_neg e] at h3; exact .inr ⟨m,o1,gi,h1,h2,h3,h4,rfl⟩
 ·by_cases e : n = nm
  ·subst e
   simp only [zaD,Option.some.injEq] at hg
   subst hg
   refine ⟨hrows,hcel,hcl,hsc,.inr ⟨⟨w.heap.size,cap,o.es,false⟩,cur,fr,by simp [gUp],⟨rfl,rfl,zmc hh,hfr,hs,hle,ht,hmax,?_,(fun e=>by rw [hmd] at e; cases e),fun _=>hnI⟩⟩⟩
   intro i j u hu
   obtain ⟨x,hx,hr⟩:=hc i j u hu
   exact ⟨x,hx,hext.rd hr⟩
  ·rw [zaz _ _ e] at hg
   obtain ⟨h1,hcel,h2,h3,h4⟩:=h.obj n o' hg hm
   refine ⟨h1,hcel,h2,h3,?_⟩
   rcases h4 with ⟨he,gi,h4,h5⟩ | ⟨gi,cur',fr',hγ',ha⟩
   ·exact .inl ⟨he,gi,hext.nam _ _ h4,h5⟩
   ·exact .inr ⟨gi,cur',fr',hext.nam _ _ hγ',ha.ext hext (zcO hh (hblk n o' gi hg hm hγ' ha.nn)) ha.rw⟩
 ·intro n m o1 o2 gi gi' h1 h2 d1 d2 g1 g2 n1 n2 hb
  by_cases e1 : n = nm <;> by_cases e2 : m = nm
  ·rw [e1,e2]
  ·subst e1
   rw [zaz _ _ e2] at h2
   simp only [gUp,if_true,Option.some.injEq] at g1
   rw [gUp,if_neg e2] at g2
   have:=hblk m o2 gi' h2 d2 g2 n2
   subst g1; simp only at hb; omega
  ·subst e2
   rw [zaz _ _ e1] at h1
   simp only [gUp,if_true,Option.some.injEq] at g2
   rw [gUp,if_neg e1] at g1
   have:=hblk n o1 gi h1 d1 g1 n1
   subst g2; simp only at hb; omega
  ·rw [zaz _ _ e1] at h1; rw [zaz _ _ e2] at h2
   rw [gUp,if_neg e1] at g1; rw [gUp,if_neg e2] at g2
   exact h.inj n m o1 o2 gi gi' h1 h2 d1 d2 g1 g2 n1 n2 hb
 ·intro n o' gi hg hm hgi hnn
  by_cases e : n = nm
  ·subst e; simp only [gUp,if_true,Option.some.injEq] at hgi; subst hgi; exact .inl h.size
  ·rw [zaz _ _ e] at hg; rw [gUp,if_neg e] at hgi; exact h.own n o' gi hg hm hgi hnn
 ·intro n gi hgi
  by_cases e : n = nm
  ·subst e; simp
  ·rw [zaz _ _ e]; rw [gUp,if_neg e] at hgi; exact h.dom n gi hgi
 ·intro b hb; rw [hh,Array.size_push]; have:=h.lt b hb; omega
 ·intro b hb hx; rw [zcO hh (Nat.lt_of_lt_of_le hb h.size)]; exact h.frame b hb hx
 ·rw [hh,Array.size_push]; have:=h.size; omega
theorem Inv.phantom {w0 ex I γ g w} (h : Inv w0 ex I γ g w) {nm : Nat} (hn : g nm = none) {o : AObj} (he : o.elems = []) :
 Inv w0 ex I (gUp γ nm ⟨0,0,0,true⟩) (upd g nm (some o)) w ∧ Ext I γ w I (gUp γ nm ⟨0,0,0,true⟩) w:=by
 have hγ : γ nm = none:=by
  cases hx : γ nm with
  | none=>rfl
  | some x=>exact absurd hn (h.dom nm x hx)
 have hext : Ext I γ w I (gUp γ nm ⟨0,0,0,true⟩) w:=⟨fun b hb=>⟨hb,rfl⟩,zma hγ⟩
 refine ⟨⟨fun n o' hg hm=>?_,?_,?_,?_,h.lt,h.keep,fun n gi h'=>hext.nam n gi (h.fix n gi h'),h.back,h.frame,h.os,h.tape,h.output,h.size,?_⟩,hext⟩
 rotate_right
 ·obtain ⟨F,hF⟩:=h.trees
  refine ⟨F,hF.less (fun _ h=>h) (fun _ _ _ _ _ _ _ h=>h) (fun n o' h1 h2=>?_) (fun n o' gi h1 h2 h3 h4=>?_)⟩
  ·by_cases e : n = nm
   ·subst e; rw [zaD] at h1; cases h1; exact .inr he
   ·rw [zaz _ _ e] at h1; exact .inl ⟨o',h1,h2,fun _ _ _ h _=>h⟩
  ·by_cases e : n = nm
   ·subst e; simp only [gUp,if_true,Option.some.injEq] at h3; subst h3; cases h4
   ·rw [zaz _ _ e] at h1; rw [gUp,if_neg e] at h3; exact ⟨h3,o',h1,h2⟩
 ·by_cases e : n = nm
  ·subst e
   simp only [zaD,Option.some.injEq] at hg
   subst hg
   exact ⟨by simp [he],by simp [he,zah],by simp [he,zah],by simp [he,zah],.inl ⟨he,⟨0,0,0,true⟩,by simp [gUp],rfl⟩⟩
  ·rw [zaz _ _ e] at hg
   obtain ⟨h1,hcel,h2,h3,h4⟩:=h.obj n o' hg hm
   refine ⟨h1,hcel,h2,h3,?_⟩
   rcases h4 with ⟨he,gi,h4,h5⟩ | ⟨gi,cur',fr',hγ',ha⟩
   ·exact .inl ⟨he,gi,hext.nam _ _ h4,h5⟩
   ·exact .inr ⟨gi,cur',fr',hext.nam _ _ hγ',ha.ext hext rfl ha.rw⟩
 ·intro n m o1 o2 gi gi' h1 h2 d1 d2 g1 g2 n1 n2 hb
  have e1 : n ≠ nm:=fun e=>by subst e; simp only [gUp,if_true,Option.some.injEq] at g1; subst g1; cases n1
  have e2 : m ≠ nm:=fun e=>by subst e; simp only [gUp,if_true,Option.some.injEq] at g2; subst g2; cases n2
  rw [zaz _ _ e1] at h1; rw [zaz _ _ e2] at h2
  rw [gUp,if_neg e1] at g1; rw [gUp,if_neg e2] at g2
  exact h.inj n m o1 o2 gi gi' h1 h2 d1 d2 g1 g2 n1 n2 hb
 ·intro n o' gi hg hm hgi hnn
  have e1 : n ≠ nm:=fun e=>by subst e; simp only [gUp,if_true,Option.some.injEq] at hgi; subst hgi; cases hnn
  rw [zaz _ _ e1] at hg; rw [gUp,if_neg e1] at hgi
  exact h.own n o' gi hg hm hgi hnn
 ·intro n gi hgi
  by_cases e : n = nm
  ·subst e; simp
  ·rw [zaz _ _ e]; rw [gUp,if_neg e] at hgi; exact h.dom n gi hgi
theorem Inv.write {w0 ex I γ g w w'} (h : Inv w0 ex I γ g w) {nm : Nat} {o o' : AObj} {gi : GI} {cur cur' : Array Value} {fr : Nat × Nat} (hg : g nm = some o) (hmd : o.md = .rw) (hγ : γ nm = some gi)
 (ha : ObjAt w I γ o gi cur fr) (het : o'.et = o.et) (hes : o'.es = o.es) (hmd' : o'.md = .rw) (hsz : cur'.size = cur.size)
 (hh : ∀ b,w'.heap[b]? = if b = gi.blk then some (.cells cur' o.et fr) else w.heap[b]?) (hsize : w'.heap.size = w.heap.size) (hw : w'.os = w.os ∧ w'.tape = w.tape ∧ w'.output = w.output)
 (hle : o'.elems.length ≤ gi.cap) (ht : o'.tight = true → o'.elems.length = gi.cap)
 (hrows : ∀ e ∈ o'.elems,e.length = o'.es) (hcel : ∀ i j u,zah o'.elems i j = some u → u.cellular = true) (hcl : o'.fl ≠ 0 → ∀ i j u,zah o'.elems i j = some u → u.closed = true)
 (hsc : 2 ≤ o'.fl → ∀ i j u,zah o'.elems i j = some u → u.scalar = true)
 (hc : ∀ i j u,zah o'.elems i j = some u → ∃ x,cur'[i * o.es + j]? = some x ∧ Rd w I γ u x)
 (htr : ∀ i j u,zah o'.elems i j = some u → u.isTree = true → zah o.elems i j = some u ∧ cur'[i * o.es + j]? = cur[i * o.es + j]?) :
 Inv w0 ex I γ (upd g nm (some o')) w' ∧ Ext I γ w I γ w':=by
 have hext : Ext I γ w I γ w':=⟨fun b hb=>⟨hb,by rw [hh,if_neg (fun e=>by subst e; exact ha.rw hmd hb)]⟩,fun _ _ h=>h⟩
 have hother : ∀ n o1 gi1,n ≠ nm → g n = some o1 → o1.md ≠ .dead → γ n = some gi1 → gi1.nil = false → gi1.blk ≠ gi.blk:=fun n o1 gi1 e h1 d1 g1 n1 hb =>
  e (h.inj n nm o1 o gi1 gi h1 hg d1 (by rw [hmd]; intro h; cases h) g1 hγ n1 ha.nn hb)
 refine ⟨⟨fun n o1 h1 d1=>?_,?_,?_,?_,fun b hb=>by rw [hsize]; exact h.lt b hb,h.keep,h.fix,h.back,?_,hw.1.trans h.os,hw.2.1.trans h.tape,hw.2.2.trans h.output,by rw [hsize]; exact h.size,?_⟩,hext⟩
 rotate_right
 ·obtain ⟨F,hF⟩:=h.trees
  have hne : ∀ n i j u b,TCell g n i j u → F n i j b → b ≠ gi.blk:=fun n i j u b hu hf e=>hF.nm n i j u b hu hf nm o gi hg (by rw [hmd]; decide) hγ ha.nn e.symm
  refine ⟨_,hF.keep id (fun b hb=>hext.imm b hb) (by rw [hsize]; exact Nat.le_refl _) (fun n i j u hu=>?_) (fun _ _ _ _ _ _ _ _ _ _ h=>h) (fun n i j u b hu hf=>⟨by rw [hh,if_neg (hne n i j u b hu hf)],id⟩) fun m o1 gi1 h1 h2 h3 h4=>?_⟩
  ·obtain ⟨o1,h1,h2,h3,h4⟩:=hu
   by_cases e : n = nm
   ·subst e
    rw [zaD] at h1; cases h1
    obtain ⟨k1,k2⟩:=htr i j u h3 h4
    refine ⟨⟨o,hg,by rw [hmd]; decide,k1,h4⟩,fun gi' cur1 et1 fr1 q1 q2 q3=>?_⟩
    replace q1 : γ n = some gi':=q1
    rw [hγ] at q1; cases q1
    rw [hh,if_pos rfl] at q3; cases q3
    exact ⟨gi,cur,_,_,hγ,q2,ha.heap,by rw [ha.es]; exact k2⟩
   ·rw [zaz _ _ e] at h1
    refine ⟨⟨o1,h1,h2,h3,h4⟩,fun gi' cur1 et1 fr1 q1 q2 q3=>⟨gi',cur1,et1,fr1,q1,q2,?_,rfl⟩⟩
    rw [hh,if_neg (hother n o1 gi' e h1 h2 q1 q2)] at q3; exact q3
  ·by_cases e : m = nm
   ·subst e; exact .inr ⟨m,o,gi1,hg,by rw [hmd]; decide,h3,h4,rfl⟩
   ·rw [zaz _ _ e] at h1; exact .inr ⟨m,o1,gi1,h1,h2,h3,h4,rfl⟩
 ·by_cases e : n = nm
  ·subst e
   simp only [zaD,Option.some.injEq] at h1
   subst h1
   refine ⟨hrows,hcel,hcl,hsc,.inr ⟨gi,cur',fr,hγ,⟨ha.nn,ha.es.trans hes.symm,by rw [hh,if_pos rfl,het],by rw [hsz]; exact ha.frz,by rw [hsz]; exact ha.size,hle,ht,ha.max,?_,(fun e=>by rw [hmd'] at e; cases e),fun _=>ha.rw hmd⟩⟩⟩
   intro i j u hu
   obtain ⟨x,hx,hr⟩:=hc i j u hu
   exact ⟨x,by rw [hes]; exact hx,hext.rd hr⟩
  ·rw [zaz _ _ e] at h1
   obtain ⟨k1,kcel,k2,k3,k4⟩:=h.obj n o1 h1 d1
   refine ⟨k1,kcel,k2,k3,?_⟩
   rcases k4 with k4 | ⟨gi1,cur1,fr1,hγ1,ha1⟩
   ·exact .inl k4
   ·exact .inr ⟨gi1,cur1,fr1,hγ1,ha1.ext hext (by rw [hh,if_neg (hother n o1 gi1 e h1 d1 hγ1 ha1.nn)]) ha1.rw⟩
 ·intro n m o1 o2 gi1 gi2 h1 h2 d1 d2 g1 g2 n1 n2 hb
  by_cases e1 : n = nm <;> by_cases e2 : m = nm
  ·rw [e1,e2]
  ·subst e1; rw [zaz _ _ e2] at h2; rw [hγ] at g1; cases g1
   exact absurd hb.symm (hother m o2 gi2 e2 h2 d2 g2 n2)
  ·subst e2; rw [zaz _ _ e1] at h1; rw [hγ] at g2; cases g2
   exact absurd hb (hother n o1 gi1 e1 h1 d1 g1 n1)
  ·rw [zaz _ _ e1] at h1; rw [zaz _ _ e2] at h2
   exact h.inj n m o1 o2 gi1 gi2 h1 h2 d1 d2 g1 g2 n1 n2 hb
 ·intro n o1 gi1 h1 d1 g1 n1
  by_cases e : n = nm
  ·subst e; exact h.own n o gi1 hg (by rw [hmd]; decide) g1 n1
  ·rw [zaz _ _ e] at h1; exact h.own n o1 gi1 h1 d1 g1 n1
 ·intro n gi1 g1
  by_cases e : n = nm
  ·subst e; simp
  ·rw [zaz _ _ e]; exact h.dom n gi1 g1
 ·intro b hb hx
  rw [hh,if_neg]
  ·exact h.frame b hb hx
  ·intro e; subst e
   rcases h.own nm o gi hg (by rw [hmd]; decide) hγ ha.nn with k | k
   ·omega
   ·exact hx k
theorem Inv.kill {w0 ex I γ g w} (h : Inv w0 ex I γ g w) {nm : Nat} {o : AObj} (hg : g nm = some o) : Inv w0 ex I γ (upd g nm (some (kill o))) w:=by
 refine ⟨fun n o' hg' hm=>?_,?_,?_,?_,h.lt,h.keep,h.fix,h.back,h.frame,h.os,h.tape,h.output,h.size,?_⟩
 rotate_right
 ·obtain ⟨F,hF⟩:=h.trees
  have old : ∀ n o',upd g nm (some (Lift.kill o)) n = some o' → o'.md ≠ .dead → g n = some o':=by
   intro n o' h1 h2
   by_cases e : n = nm
   ·subst e; rw [zaD] at h1; cases h1; exact absurd rfl h2
   ·rw [zaz _ _ e] at h1; exact h1
  exact ⟨F,hF.less (fun _ h=>h) (fun _ _ _ _ _ _ _ h=>h) (fun n o' h1 h2=>.inl ⟨o',old n o' h1 h2,h2,fun _ _ _ h _=>h⟩) (fun n o' gi h1 h2 h3 h4=>⟨h3,o',old n o' h1 h2,h2⟩)⟩
 ·by_cases e : n = nm
  ·subst e; simp only [zaD,Option.some.injEq] at hg'; subst hg'; exact absurd rfl hm
  ·rw [zaz _ _ e] at hg'; exact h.obj n o' hg' hm
 ·intro n m o1 o2 gi gi' h1 h2 d1 d2 g1 g2 n1 n2 hb
  have e1 : n ≠ nm:=fun e=>by subst e; simp only [zaD,Option.some.injEq] at h1; subst h1; exact d1 rfl
  have e2 : m ≠ nm:=fun e=>by subst e; simp only [zaD,Option.some.injEq] at h2; subst h2; exact d2 rfl
  rw [zaz _ _ e1] at h1; rw [zaz _ _ e2] at h2
  exact h.inj n m o1 o2 gi gi' h1 h2 d1 d2 g1 g2 n1 n2 hb
 ·intro n o' gi hg' hm hgi hnn
  by_cases e : n = nm
  ·subst e; simp only [zaD,Option.some.injEq] at hg'; subst hg'; exact absurd rfl hm
  ·rw [zaz _ _ e] at hg'; exact h.own n o' gi hg' hm hgi hnn
 ·intro n gi hgi
  by_cases e : n = nm
  ·subst e; simp
  ·rw [zaz _ _ e]; exact h.dom n gi hgi
theorem Inv.rename {w0 ex I γ g w} (h : Inv w0 ex I γ g w) {nm m : Nat} {o : AObj} {gi : GI} (hg : g m = some o) (hmd : o.md ≠ .dead) (hγ : γ m = some gi) (hn : g nm = none) :
 Inv w0 ex I (gUp γ nm gi) (upd (upd g m (some (Lift.kill o))) nm (some o)) w ∧ Ext I γ w I (gUp γ nm gi) w:=by
 have hγn : γ nm = none:=by
  cases hx : γ nm with
  | none=>rfl
  | some x=>exact absurd hn (h.dom nm x hx)
 have hne : m ≠ nm:=fun e=>by subst e; rw [hg] at hn; cases hn
 have hext : Ext I γ w I (gUp γ nm gi) w:=⟨fun b hb=>⟨hb,rfl⟩,zma hγn⟩
 have look : ∀ n o1,upd (upd g m (some (Lift.kill o))) nm (some o) n = some o1 → o1.md ≠ .dead → (n = nm ∧ o1 = o) ∨ (n ≠ nm ∧ n ≠ m ∧ g n = some o1):=by
  intro n o1 h1 d1
  by_cases e : n = nm
  ·subst e; simp only [zaD,Option.some.injEq] at h1; exact .inl ⟨rfl,h1.symm⟩
  ·rw [zaz _ _ e] at h1
   by_cases e' : n = m
   ·subst e'; simp only [zaD,Option.some.injEq] at h1; subst h1; exact absurd rfl d1
   ·rw [zaz _ _ e'] at h1; exact .inr ⟨e,e',h1⟩
 have gat : ∀ n x,gUp γ nm gi n = some x → (n = nm ∧ x = gi) ∨ (n ≠ nm ∧ γ n = some x):=by
  intro n x hx
  unfold gUp at hx
  by_cases e : n = nm
  ·rw [if_pos e] at hx; cases hx; exact .inl ⟨e,rfl⟩
  ·rw [if_neg e] at hx; exact .inr ⟨e,hx⟩
 refine ⟨⟨fun n o1 h1 d1=>?_,?_,?_,?_,h.lt,h.keep,fun n gi h'=>hext.nam n gi (h.fix n gi h'),h.back,h.frame,h.os,h.tape,h.output,h.size,?_⟩,hext⟩
 rotate_right
 ·obtain ⟨F,hF⟩:=h.trees
  refine ⟨_,hF.still (fun n=>if n = nm then m else n) (fun _ h=>h) (fun n i j u hu=>?_) (fun a b i j u i' j' u' ha hb hab=>?_) (fun _ _ _ _ _ _ _ h=>h) fun k o1 gi1 h1 h2 h3 h4=>?_⟩
  ·obtain ⟨o1,h1,h2,h3,h4⟩:=hu
   rcases look n o1 h1 h2 with ⟨rfl,rfl⟩ | ⟨e,e',h1⟩
   ·simp only [if_true]
    refine ⟨⟨o1,hg,h2,h3,h4⟩,fun gi' q1 q2=>?_⟩
    rcases gat _ _ q1 with ⟨_,rfl⟩ | ⟨q,_⟩
    ·exact hγ
    ·exact absurd rfl q
   ·simp only [if_neg e]
    refine ⟨⟨o1,h1,h2,h3,h4⟩,fun gi' q1 q2=>?_⟩
    rcases gat _ _ q1 with ⟨q,_⟩ | ⟨_,q1⟩
    ·exact absurd q e
    ·exact q1
  ·obtain ⟨o1,h1,h2,_⟩:=ha
   obtain ⟨o2,k1,k2,_⟩:=hb
   rcases look a o1 h1 h2 with ⟨rfl,_⟩ | ⟨e,e',_⟩ <;> rcases look b o2 k1 k2 with ⟨rfl,_⟩ | ⟨f,f',_⟩
   ·rfl
   ·simp only [if_true,if_neg f] at hab; exact absurd hab.symm f'
   ·simp only [if_true,if_neg e] at hab; exact absurd hab e'
   ·simp only [if_neg e,if_neg f] at hab; exact hab
  ·rcases look k o1 h1 h2 with ⟨rfl,rfl⟩ | ⟨e,e',h1⟩
   ·rcases gat _ _ h3 with ⟨_,rfl⟩ | ⟨q,_⟩
    ·exact ⟨m,o1,gi1,hg,h2,hγ,h4,rfl⟩
    ·exact absurd rfl q
   ·rcases gat _ _ h3 with ⟨q,_⟩ | ⟨_,h3⟩
    ·exact absurd q e
    ·exact ⟨k,o1,gi1,h1,h2,h3,h4,rfl⟩
 ·rcases look n o1 h1 d1 with ⟨rfl,rfl⟩ | ⟨e,e',h1⟩
  ·obtain ⟨k1,kcel,k2,k3,k4⟩:=h.obj m o1 hg hmd
   refine ⟨k1,kcel,k2,k3,?_⟩
   rcases k4 with ⟨ke,gi1,k4,k5⟩ | ⟨gi1,cur1,fr1,hγ1,ha1⟩
   ·rw [k4] at hγ; cases hγ; exact .inl ⟨ke,gi,by simp [gUp],k5⟩
   ·rw [hγ1] at hγ; cases hγ
    exact .inr ⟨gi,cur1,fr1,by simp [gUp],ha1.ext hext rfl ha1.rw⟩
  ·obtain ⟨k1,kcel,k2,k3,k4⟩:=h.obj n o1 h1 d1
   refine ⟨k1,kcel,k2,k3,?_⟩
   rcases k4 with ⟨ke,gi1,k4,k5⟩ | ⟨gi1,cur1,fr1,hγ1,ha1⟩
   ·exact .inl ⟨ke,gi1,hext.nam _ _ k4,k5⟩
   ·exact .inr ⟨gi1,cur1,fr1,hext.nam _ _ hγ1,ha1.ext hext rfl ha1.rw⟩
 ·intro n k o1 o2 gi1 gi2 h1 h2 d1 d2 g1 g2 n1 n2 hb
  rcases look n o1 h1 d1 with ⟨rfl,rfl⟩ | ⟨e,e',h1'⟩ <;> rcases look k o2 h2 d2 with ⟨rfl,rfl⟩ | ⟨f,f',h2'⟩
  ·rfl
  ·rcases gat _ _ g1 with ⟨_,rfl⟩ | ⟨q,_⟩
   ·rcases gat _ _ g2 with ⟨q,_⟩ | ⟨_,g2⟩
    ·exact absurd q f
    ·exact absurd (h.inj m k o1 o2 gi1 gi2 hg h2' d1 d2 hγ g2 n1 n2 hb).symm f'
   ·exact absurd rfl q
  ·rcases gat _ _ g2 with ⟨_,rfl⟩ | ⟨q,_⟩
   ·rcases gat _ _ g1 with ⟨q,_⟩ | ⟨_,g1⟩
    ·exact absurd q e
    ·exact absurd (h.inj n m o1 o2 gi1 gi2 h1' hg d1 d2 g1 hγ n1 n2 hb) e'
   ·exact absurd rfl q
  ·rcases gat _ _ g1 with ⟨q,_⟩ | ⟨_,g1⟩
   ·exact absurd q e
   ·rcases gat _ _ g2 with ⟨q,_⟩ | ⟨_,g2⟩
    ·exact absurd q f
    ·exact h.inj n k o1 o2 gi1 gi2 h1' h2' d1 d2 g1 g2 n1 n2 hb
 ·intro n o1 gi1 h1 d1 g1 nn
  rcases look n o1 h1 d1 with ⟨rfl,rfl⟩ | ⟨e,e',h1⟩
  ·rcases gat _ _ g1 with ⟨_,rfl⟩ | ⟨q,_⟩
   ·exact h.own m o1 gi1 hg d1 hγ nn
   ·exact absurd rfl q
  ·rcases gat _ _ g1 with ⟨q,_⟩ | ⟨_,g1⟩
   ·exact absurd q e
   ·exact h.own n o1 gi1 h1 d1 g1 nn
 ·intro n x hx
  by_cases e : n = nm
  ·subst e; simp
  ·rw [zaz _ _ e]
   by_cases e' : n = m
   ·subst e'; simp
   ·rw [zaz _ _ e']
    rcases gat _ _ hx with ⟨q,_⟩ | ⟨_,hx⟩
    ·exact absurd q e
    ·exact h.dom n x hx
section
variable {P : Program} {T : TypeId → Option TI}
theorem TypeOk.run_size {t : TypeId} {ti : TI} (h : TypeOk P t ti) (w : World) : (sizeOf t).run P w = .ok ti.size w:=by
 obtain ⟨i,z,h1,h2,_⟩:=h.info
 simp [sizeOf,typeInfo,h1,h2]
theorem TypeOk.run_under {t : TypeId} {ti : TI} (h : TypeOk P t ti) (w : World) : (underlying t).run P w = .ok ti.desc w:=run_underlying h.under w
theorem TypeOk.run_agg {t : TypeId} {ti : TI} (h : TypeOk P t ti) (w : World) : (Go.isAgg t).run P w = .ok ti.agg w:=by
 simp only [Go.isAgg,Sem.run_bind,h.run_under,Result.andThen_ok,h.isAgg]
 cases ti.desc <;> rfl
theorem TypeOk.run_zero {t : TypeId} {ti : TI} (h : TypeOk P t ti) (w : World) : ∃ z,(zeroValue t).run P w = .ok z w ∧ z.cells.size = ti.size ∧ z.cells.toList.map ofCell = ti.zero:=by
 obtain ⟨i,z,h1,h2,h3,h4,h5,h6⟩:=h.info
 exact ⟨z,by simp [zeroValue,typeInfo,h1,h4],h5,h6⟩
theorem zbb {t : TypeId} {d : TypeDesc} (h : zao T t = some d) : ∃ ti,T t = some ti ∧ ti.desc = d:=by
 unfold zao at h
 cases ht : T t with
 | none=>rw [ht] at h; cases h
 | some ti=>rw [ht] at h; exact ⟨ti,rfl,by simpa using h⟩
theorem zaH (hT : zaJ P T) {t : TypeId} {d : TypeDesc} (h : zao T t = some d) (w : World) : (underlying t).run P w = .ok d w:=by
 obtain ⟨ti,h1,h2⟩:=zbb h
 rw [← h2]; exact (hT t ti h1).run_under w
theorem Rd.ofCell (w I γ) (v : Value) : Rd w I γ (ofCell v) v:=by
 unfold Lift.ofCell
 split <;> first | exact .int _ _ _ | exact .bool _ _ | exact .str _ _ | exact .nil _ 0 _ (by decide) | exact .pnil _ | exact .junk _ _
theorem Rd.ofConst (w I γ) (v : Value) : Rd w I γ (ofConst v) v:=by
 unfold Lift.ofConst
 split
 ·rename_i cs
  refine .agg _ _ cs (by simp) fun j u x hu hx=>?_
  rw [List.getElem?_map] at hu
  rw [← Array.getElem?_toList] at hx
  rw [hx] at hu
  simp at hu
  subst hu
  exact Rd.ofCell w I γ x
 ·exact Rd.ofCell w I γ v
theorem zd1 {w : World} {op : BinOp} {k : IntKind} {a b : Int} (xt : TypeId) (ox oy : Operand) {x : Sem Value} (h : binOp op xt (.int k a) (.int k b) = x) :
 (do eqGuard op xt ox oy (.int k a) (.int k b); binOp op xt (.int k a) (.int k b)).run P w = x.run P w:=by
 have e : eqGuard op xt ox oy (.int k a) (.int k b) = pure ():=by cases op <;> rfl
 rw [e,Sem.run_bind,Sem.run_pure,Result.andThen_ok,h]
theorem zrr {w : World} {I γ} {op : BinOp} {k : IntKind} {a b : Int} {v : V} (xt : TypeId) (ox oy : Operand) (hs : zbW op = false) (h : aInt op k a b = some v) :
 ∃ r,(do eqGuard op xt ox oy (.int k a) (.int k b); binOp op xt (.int k a) (.int k b)).run P w = .ok r w ∧ Rd w I γ v r:=by
 cases op <;> simp [zbW] at hs <;> simp only [aInt] at h
 case quo =>
  by_cases hb : b = 0
  ·rw [if_pos hb] at h; cases h
  ·rw [if_neg hb] at h; cases h
   exact ⟨_,by simp [eqGuard,binOp,Op.intDiv,hb],.int _ _ _⟩
 case rem =>
  by_cases hb : b = 0
  ·rw [if_pos hb] at h; cases h
  ·rw [if_neg hb] at h; cases h
   exact ⟨_,by simp [eqGuard,binOp,Op.intDiv,hb],.int _ _ _⟩
 all_goals cases h
 case add=>exact ⟨_,(zd1 xt ox oy (x:=Op.intArith .add k a b) (by simp [binOp])).trans rfl,.int _ _ _⟩
 case sub=>exact ⟨_,(zd1 xt ox oy (x:=Op.intArith .sub k a b) (by simp [binOp])).trans rfl,.int _ _ _⟩
 case mul=>exact ⟨_,(zd1 xt ox oy (x:=Op.intArith .mul k a b) (by simp [binOp])).trans rfl,.int _ _ _⟩
 case and=>exact ⟨_,(zd1 xt ox oy (x:=Op.intBits .and k a b) (by simp [binOp])).trans rfl,.int _ _ _⟩
 case or=>exact ⟨_,(zd1 xt ox oy (x:=Op.intBits .or k a b) (by simp [binOp])).trans rfl,.int _ _ _⟩
 case xor=>exact ⟨_,(zd1 xt ox oy (x:=Op.intBits .xor k a b) (by simp [binOp])).trans rfl,.int _ _ _⟩
 case andNot=>exact ⟨_,(zd1 xt ox oy (x:=Op.intBits .andNot k a b) (by simp [binOp])).trans rfl,.int _ _ _⟩
 case eql=>exact ⟨_,(zd1 xt ox oy (x:=Op.intCmp .eql a b) (by simp [binOp])).trans rfl,.bool _ _⟩
 case neq=>exact ⟨_,(zd1 xt ox oy (x:=Op.intCmp .neq a b) (by simp [binOp])).trans rfl,.bool _ _⟩
 case lss=>exact ⟨_,(zd1 xt ox oy (x:=Op.intCmp .lss a b) (by simp [binOp])).trans rfl,.bool _ _⟩
 case leq=>exact ⟨_,(zd1 xt ox oy (x:=Op.intCmp .leq a b) (by simp [binOp])).trans rfl,.bool _ _⟩
 case gtr=>exact ⟨_,(zd1 xt ox oy (x:=Op.intCmp .gtr a b) (by simp [binOp])).trans rfl,.bool _ _⟩
 case geq=>exact ⟨_,(zd1 xt ox oy (x:=Op.intCmp .geq a b) (by simp [binOp])).trans rfl,.bool _ _⟩
theorem zm0 {w : World} {I γ} {op : BinOp} {k k' : IntKind} {a b : Int} {v : V} (xt : TypeId) (ox oy : Operand) (h : zmZ op k a b = some v) :
 ∃ r,(do eqGuard op xt ox oy (.int k a) (.int k' b); binOp op xt (.int k a) (.int k' b)).run P w = .ok r w ∧ Rd w I γ v r:=by
 unfold zmZ at h
 by_cases hb : b < 0
 ·rw [if_pos hb] at h; cases h
 ·rw [if_neg hb] at h
  cases op <;> simp only at h
  all_goals first
   | (cases h; refine ⟨_,?_,.int _ _ _⟩; simp [eqGuard,binOp,Op.shift,hb])
   | cases h
theorem zrt {w : World} {I γ} {op : BinOp} {a b : ByteArray} {v : V} (xt : TypeId) (ox oy : Operand) (h : aStr op a b = some v) :
 ∃ r,(do eqGuard op xt ox oy (.string a) (.string b); binOp op xt (.string a) (.string b)).run P w = .ok r w ∧ Rd w I γ v r:=by
 cases op <;> simp only [aStr] at h
 all_goals first
  | (cases h; exact ⟨_,rfl,.bool _ _⟩)
  | (split at h
     ·cases h
     ·rename_i hle
      cases h
      refine ⟨_,?_,.str _ _⟩
      simp only [eqGuard,binOp,Op.stringOp,Sem.run_bind]
      rw [if_neg hle]; rfl)
  | cases h
theorem znw {w : World} {t : TypeId} (h : (underlying t).run P w = .ok .bool w) (d : Nat) (a b : Bool) : (Op.equalIn (d + 1) t (.bool a) (.bool b)).run P w = .ok (a == b) w:=by
 simp only [Op.equalIn,Sem.run_bind,h,Result.andThen_ok,Sem.run_pure]
theorem zl3 {w : World} {t e : TypeId} (h : (underlying t).run P w = .ok (.slice e) w) (d : Nat) (x : Option Addr) (n c : Nat) : (Op.equalIn (d + 1) t (.slice x n c) (.slice none 0 0)).run P w = .ok x.isNone w:=by
 simp only [Op.equalIn,Sem.run_bind,h,Result.andThen_ok]
 cases x <;> rfl
theorem eq_of {w : World} {t : TypeId} {x y : Value} {b : Bool} (ox oy : Operand) (hb : ∀ w,(eqGuard .eql t ox oy x y).run P w = .ok () w) (hb' : ∀ w,(eqGuard .neq t ox oy x y).run P w = .ok () w)
 (he : (Op.equal t x y).run P w = .ok b w) (h1 : binOp .eql t x y = (Op.equal t x y >>= fun r=>pure (.bool r))) (h2 : binOp .neq t x y = (Op.equal t x y >>= fun r=>pure (.bool !r))) :
 (do eqGuard .eql t ox oy x y; binOp .eql t x y).run P w = .ok (.bool b) w ∧ (do eqGuard .neq t ox oy x y; binOp .neq t x y).run P w = .ok (.bool !b) w:=by
 constructor
 ·rw [Sem.run_bind,hb,Result.andThen_ok,h1,Sem.run_bind,he]; rfl
 ·rw [Sem.run_bind,hb',Result.andThen_ok,h2,Sem.run_bind,he]; rfl
theorem ztX {w : World} {t : TypeId} (h : (underlying t).run P w = .ok .bool w) (ox oy : Operand) (a b : Bool) :
 (do eqGuard .eql t ox oy (.bool a) (.bool b); binOp .eql t (.bool a) (.bool b)).run P w = .ok (.bool (a == b)) w ∧ (do eqGuard .neq t ox oy (.bool a) (.bool b); binOp .neq t (.bool a) (.bool b)).run P w = .ok (.bool !(a == b)) w :=
 eq_of ox oy (fun _=>rfl) (fun _=>rfl) (znw h 9999 a b) rfl rfl
theorem ziP {w : World} {t e : TypeId} (h : (underlying t).run P w = .ok (.slice e) w) (ox oy : Operand) (x : Option Addr) (n c : Nat) :
 (do eqGuard .eql t ox oy (.slice x n c) (.slice none 0 0); binOp .eql t (.slice x n c) (.slice none 0 0)).run P w = .ok (.bool x.isNone) w ∧ (do eqGuard .neq t ox oy (.slice x n c) (.slice none 0 0); binOp .neq t (.slice x n c) (.slice none 0 0)).run P w = .ok (.bool !x.isNone) w :=
 eq_of ox oy (fun _=>rfl) (fun _=>rfl) (zl3 h 9999 x n c) rfl rfl
theorem zpd {w : World} {t e : TypeId} (h : (underlying t).run P w = .ok (.pointer e) w) (d : Nat) (x : Option Addr) : (Op.equalIn (d + 1) t (.pointer x) (.pointer none)).run P w = .ok x.isNone w:=by
 simp only [Op.equalIn,Sem.run_bind,h,Result.andThen_ok]
 cases x <;> rfl
theorem zys {w : World} {t e : TypeId} (h : (underlying t).run P w = .ok (.pointer e) w) (ox oy : Operand) (x : Option Addr) :
 (do eqGuard .eql t ox oy (.pointer x) (.pointer none); binOp .eql t (.pointer x) (.pointer none)).run P w = .ok (.bool x.isNone) w ∧ (do eqGuard .neq t ox oy (.pointer x) (.pointer none); binOp .neq t (.pointer x) (.pointer none)).run P w = .ok (.bool !x.isNone) w :=
 eq_of ox oy (fun _=>rfl) (fun _=>rfl) (zpd h 9999 x) rfl rfl
theorem zgf (hT : zaJ P T) {w : World} {I γ} {op : BinOp} {xt : TypeId} {b : Bool} {v : V} (ox oy : Operand) {x : Option Addr} (hb : x.isNone = b) (h : ptrEq (zao T xt) op b = some v) :
 ∃ r,(do eqGuard op xt ox oy (.pointer x) (.pointer none); binOp op xt (.pointer x) (.pointer none)).run P w = .ok r w ∧ Rd w I γ v r:=by
 unfold ptrEq at h
 split at h
 ·rename_i hd
  cases h
  rw [← hb]
  exact ⟨_,(zys (zaH hT hd w) ox oy x).1,.bool _ _⟩
 ·rename_i hd
  cases h
  rw [← hb]
  exact ⟨_,(zys (zaH hT hd w) ox oy x).2,.bool _ _⟩
 ·cases h
theorem zfv (hT : zaJ P T) {w : World} {I γ} {t : TypeId} {ti : TI} (ht : T t = some ti) {cs : List V} {xs : Array Value} {off : Nat} {v : V} (hl : cs.length = xs.size)
 (hr : ∀ (j : Nat) (u : V) (x : Value),cs[j]? = some u → xs[j]? = some x → Rd w I γ u x) (h : zbo ti (cs.drop off) = some v) :
 ∃ r,(part t xs off).run P w = .ok r w ∧ Rd w I γ v r:=by
 have hag:=(hT t ti ht).run_agg w
 have hsz:=(hT t ti ht).run_size w
 unfold part
 rw [Sem.run_bind,hag,Result.andThen_ok]
 unfold zbo at h
 cases hb : ti.agg with
 | true =>
  rw [hb] at h
  simp only [if_true] at h ⊢
  split at h
  ·rename_i hlen
   cases h
   refine ⟨_,by rw [Sem.run_bind,hsz]; rfl,?_⟩
   rw [List.length_take,List.length_drop] at hlen
   refine .agg _ _ _ (by rw [List.length_take,List.length_drop,Array.size_extract]; omega) fun j u x hu hx=>?_
   rw [List.getElem?_take] at hu
   split at hu
   ·rename_i hj
    rw [List.getElem?_drop] at hu
    rw [Array.getElem?_extract] at hx
    split at hx
    ·exact hr _ u x hu hx
    ·cases hx
   ·cases hu
  ·cases h
 | false =>
  rw [hb] at h
  simp only [Bool.false_eq_true,if_false] at h ⊢
  cases hd : cs.drop off with
  | nil=>rw [hd] at h; cases h
  | cons c r =>
   rw [hd] at h
   cases h
   have hc : cs[off]? = some v:=by
    have : (cs.drop off)[0]? = some v:=by rw [hd]; rfl
    rw [List.getElem?_drop] at this; simpa using this
   have hlt : off < xs.size:=by rw [← hl]; exact (List.getElem?_eq_some_iff.1 hc).1
   refine ⟨xs[off],?_,hr off v _ hc (Array.getElem?_eq_getElem hlt)⟩
   simp [Array.getElem?_eq_getElem hlt]
theorem znu (hT : zaJ P T) {w : World} {I γ} {E : TypeId → V → V → Option Bool} {d : Nat} (hE : ∀ t x y b vx vy,E t x y = some b → Rd w I γ x vx → Rd w I γ y vy → (Op.equalIn d t vx vy).run P w = .ok b w)
 {us vs : List V} {xs ys : Array Value} (hl : us.length = xs.size) (hl' : vs.length = ys.size)
 (hr : ∀ (j : Nat) (u : V) (x : Value),us[j]? = some u → xs[j]? = some x → Rd w I γ u x) (hr' : ∀ (j : Nat) (u : V) (x : Value),vs[j]? = some u → ys[j]? = some x → Rd w I γ u x) :
 ∀ (fs : List Field) (b : Bool),eqF T E us vs fs = some b → (Op.eqFields d xs ys fs).run P w = .ok b w
 | [],b,h=>by cases h; simp [Op.eqFields]
 | f :: fs,b,h=>by
  simp only [eqF] at h
  split at h
  ·cases h
  ·rename_i hn
   split at h
   ·rename_i fi hf
    split at h
    ·rename_i a c ha hc
     split at h
     ·rename_i r r' h1 h2
      cases h
      obtain ⟨va,p1,p2⟩:=zfv hT hf hl hr ha
      obtain ⟨vc,q1,q2⟩:=zfv hT hf hl' hr' hc
      have e:=hE _ _ _ _ _ _ h1 p2 q2
      have ih:=znu hT hE hl hl' hr hr' fs r' h2
      simp only [Op.eqFields,hn,ne_eq,not_false_eq_true,if_true,Sem.run_bind,p1,q1,e,Result.andThen_ok]
      cases r
      ·simp
      ·simpa using ih
     ·cases h
    ·cases h
   ·cases h
theorem zjy (hT : zaJ P T) {w : World} {I γ} : ∀ (m : Nat) (t : TypeId) (x y : V) (b : Bool) (vx vy : Value),eqV T m t x y = some b → Rd w I γ x vx → Rd w I γ y vy → ∀ d,(Op.equalIn (d + m) t vx vy).run P w = .ok b w
 | 0,t,x,y,b,vx,vy,h,_,_,_=>by cases h
 | m + 1,t,x,y,b,vx,vy,h,hx,hy,d=>by
  simp only [eqV] at h
  split at h
  ·rename_i k0 k a k' c hd
   split at h
   ·rename_i hk
    subst hk
    cases h; cases hx; cases hy
    obtain ⟨ti,t1,t2⟩:=zbb hd
    have:=run_equalIn_int (P:=P) w (d + m) t k k0 a c (by rw [(hT t ti t1).under,t2])
    rw [← Nat.add_assoc]; exact this
   ·cases h
  ·rename_i a c hd
   cases h; cases hx; cases hy
   obtain ⟨ti,t1,t2⟩:=zbb hd
   exact run_equalIn_bool' (P:=P) w (d + m) t a c (by rw [(hT t ti t1).under,t2])
  ·rename_i a c hd
   cases h; cases hx; cases hy
   obtain ⟨ti,t1,t2⟩:=zbb hd
   exact run_equalIn_string (P:=P) w (d + m) t a c (by rw [(hT t ti t1).under,t2])
  ·rename_i fs us vs hd
   split at h
   ·rename_i ti ht
    split at h
    ·rename_i hq
     obtain ⟨ti',t1,t2⟩:=zbb hd
     rw [ht] at t1; cases t1
     have hu : P.underlying t = some (.struct fs):=by rw [(hT t ti ht).under,t2]
     have hf : P.fieldsOf t = fs:=by simp [Program.fieldsOf,hu]
     cases hx with
     | agg _ _ xs hl hr =>
      cases hy with
      | agg _ _ ys hl' hr' =>
       have:=run_equalIn_struct (P:=P) w (d + m) t xs ys (by rw [hf]; exact hu) ((hT t ti ht).eqOk hq).1
       rw [hf] at this
       rw [← Nat.add_assoc,this]
       exact znu hT (fun t x y b vx vy h1 h2 h3=>zjy hT m t x y b vx vy h1 h2 h3 d) hl hl' hr hr' fs.toList b h
    ·cases h
   ·cases h
  ·cases h
theorem znv (hT : zaJ P T) {m : Nat} {t : TypeId} {us vs : List V} {b : Bool} (h : eqV T m t (.agg us) (.agg vs) = some b) : P.eqGuardType P.depth t = false:=by
 cases m with
 | zero=>cases h
 | succ m =>
  simp only [eqV] at h
  split at h <;> first | (cases h; done) | skip
  all_goals (rename_i h1 h2; try cases h1) <;> try cases h2
  all_goals split at h
  all_goals first | (cases h; done) | skip
  rename_i ti ht
  split at h
  ·rename_i hq; exact ((hT t ti ht).eqOk hq).2
  ·cases h
theorem zro (hT : zaJ P T) {w : World} {I γ} {op : BinOp} {xt : TypeId} {x y v : V} {vx vy : Value} (ox oy : Operand) (hx : Rd w I γ x vx) (hy : Rd w I γ y vy) (h : aBin T op xt x y = some v) :
 ∃ r,(do eqGuard op xt ox oy vx vy; binOp op xt vx vy).run P w = .ok r w ∧ Rd w I γ v r:=by
 unfold aBin at h
 split at h
 ·cases hx; cases hy
  split at h
  ·exact zm0 xt ox oy h
  ·split at h
   ·rename_i hs hk
    subst hk
    exact zrr xt ox oy (by simpa using hs) h
   ·cases h
 ·cases hx; cases hy; exact zrt xt ox oy h
 ·cases hx; cases hy
  split at h
  ·rename_i hd
   cases h
   exact ⟨_,(ztX (zaH hT hd w) ox oy _ _).1,.bool _ _⟩
  ·rename_i hd
   cases h
   exact ⟨_,(ztX (zaH hT hd w) ox oy _ _).2,.bool _ _⟩
  ·cases h
 ·have hvy : vy = .slice none 0 0:=by
   cases hy with
   | nil=>rfl
   | sl _ _ _ _ a n c xs h0=>exact absurd rfl h0
  subst hvy
  have hvx : ∃ x n c,vx = .slice x n c ∧ True:=by cases hx <;> exact ⟨_,_,_,rfl,trivial⟩
  obtain ⟨q,n,c,rfl,_⟩:=hvx
  split at h
  ·rename_i t _ _ _ _ hd
   have hk:=(ziP (zaH hT hd w) ox oy q n c).1
   split at h
   ·rename_i h0; cases h; subst h0
    have : q = none:=by
     cases hx with
     | nil=>rfl
     | sl _ _ _ _ a n c xs h0=>exact absurd rfl h0
    subst this; exact ⟨_,hk,.bool _ _⟩
   ·split at h
    ·rename_i h1; cases h
     have : q.isNone = false:=by
      cases hx with
      | nil _ _ _ hh=>rcases h1 with h1 | h1 | h1 <;> simp_all
      | sl _ _ _ _ a n c xs h0=>rfl
     rw [this] at hk; exact ⟨_,hk,.bool _ _⟩
    ·cases h; exact ⟨_,hk,.anyB _ _⟩
  ·rename_i t _ _ _ _ hd
   have hk:=(ziP (zaH hT hd w) ox oy q n c).2
   split at h
   ·rename_i h0; cases h; subst h0
    have : q = none:=by
     cases hx with
     | nil=>rfl
     | sl _ _ _ _ a n c xs h0=>exact absurd rfl h0
    subst this; exact ⟨_,hk,.bool _ _⟩
   ·split at h
    ·rename_i h1; cases h
     have : q.isNone = false:=by
      cases hx with
      | nil _ _ _ hh=>rcases h1 with h1 | h1 | h1 <;> simp_all
      | sl _ _ _ _ a n c xs h0=>rfl
     rw [this] at hk; exact ⟨_,hk,.bool _ _⟩
    ·cases h; exact ⟨_,hk,.anyB _ _⟩
  ·cases h
 ·have hvy : vy = .slice none 0 0:=by
   cases hy with
   | nil=>rfl
   | sl _ _ _ _ a n c xs h0=>exact absurd rfl h0
  subst hvy
  have hvx : ∃ x n c,vx = .slice x n c ∧ True:=by cases hx <;> exact ⟨_,_,_,rfl,trivial⟩
  obtain ⟨q,n,c,rfl,_⟩:=hvx
  split at h
  ·rename_i hd
   have hk:=(ziP (zaH hT hd w) ox oy q n c).1
   split at h
   ·rename_i h1; cases h
    have : q.isNone = false:=by
     cases hx with
     | ownnil=>exact absurd rfl h1
     | own=>rfl
    rw [this] at hk; exact ⟨_,hk,.bool _ _⟩
   ·cases h; exact ⟨_,hk,.anyB _ _⟩
  ·rename_i hd
   have hk:=(ziP (zaH hT hd w) ox oy q n c).2
   split at h
   ·rename_i h1; cases h
    have : q.isNone = false:=by
     cases hx with
     | ownnil=>exact absurd rfl h1
     | own=>rfl
    rw [this] at hk; exact ⟨_,hk,.bool _ _⟩
   ·cases h; exact ⟨_,hk,.anyB _ _⟩
  ·cases h
 ·cases hx; cases hy; exact zgf hT ox oy rfl h
 ·cases hx; cases hy; exact zgf hT ox oy rfl h
 ·cases hx; cases hy; exact zgf hT ox oy rfl h
 ·have hax : ∃ xs,vx = .agg xs:=by cases hx; exact ⟨_,rfl⟩
  have hay : ∃ ys,vy = .agg ys:=by cases hy; exact ⟨_,rfl⟩
  obtain ⟨xs,rfl⟩:=hax
  obtain ⟨ys,rfl⟩:=hay
  split at h
  ·cases he : eqV T 5 xt (.agg _) (.agg _) with
   | none=>rw [he] at h; cases h
   | some b =>
    rw [he] at h; cases h
    refine ⟨.bool b,?_,.bool _ _⟩
    rw [Sem.run_bind,run_eqGuard_agg (P:=P) w _ _ _ _ _ _ (znv hT he),Result.andThen_ok,run_eql_struct (P:=P) w,zjy hT 5 xt _ _ b _ _ he hx hy 9995]
    rfl
  ·cases he : eqV T 5 xt (.agg _) (.agg _) with
   | none=>rw [he] at h; cases h
   | some b =>
    rw [he] at h; cases h
    refine ⟨.bool (!b),?_,.bool _ _⟩
    rw [Sem.run_bind,run_eqGuard_agg (P:=P) w _ _ _ _ _ _ (znv hT he),Result.andThen_ok,run_neq_struct (P:=P) w,zjy hT 5 xt _ _ b _ _ he hx hy 9995]
    rfl
  ·cases h
 ·cases h
theorem zx8 (k : IntKind) (n : Int) : k.wrap ((BitVec.ofInt k.bits (if k.signed then -1 else k.max) ^^^ BitVec.ofInt k.bits n).toNat) = k.wrap (-n - 1):=by
 have h : BitVec.ofInt k.bits (if k.signed then -1 else k.max) = BitVec.allOnes k.bits:=by cases k <;> decide
 rw [h,BitVec.allOnes_xor,BitVec.toNat_not,BitVec.toNat_ofInt]
 cases k <;> simp [IntKind.wrap,IntKind.bits,IntKind.signed] <;> omega
theorem ztG {w : World} {I γ} {op : UnOp} {x v : V} {vx : Value} (hx : Rd w I γ x vx) (h : aUn op x = some v) :
 ∃ r,(Op.unary op vx).run P w = .ok r w ∧ Rd w I γ v r:=by
 unfold aUn at h
 split at h
 ·cases hx; simp only [aInt] at h; cases h; exact ⟨_,rfl,.int _ _ _⟩
 ·cases hx; cases h; rw [← zx8]; exact ⟨_,rfl,.int _ _ _⟩
 ·cases hx; cases h; exact ⟨_,rfl,.bool _ _⟩
 ·cases hx; cases h; exact ⟨_,rfl,.anyB _ _⟩
 ·cases h
end
section
variable {P : Program} {T : TypeId → Option TI}
theorem zeJ (a : Addr) (n : Nat) : (a.add n).block = a.block:=by unfold Addr.add; split <;> rfl
theorem add_add (a : Addr) (i j : Nat) : (a.add i).add j = a.add (i + j):=by
 unfold Addr.add
 by_cases hi : i = 0 <;> by_cases hj : j = 0 <;> simp [hi,hj,Nat.add_assoc]
theorem zcx (b o n : Nat) : (⟨b,o,none⟩ : Addr).add n = ⟨b,o + n,none⟩:=by
 unfold Addr.add; by_cases h : n = 0 <;> simp [h]
theorem zaO {es : List (List V)} {l n i j : Nat} {u : V} (h : zah ((es.drop l).take n) i j = some u) : zah es (l + i) j = some u:=by
 obtain ⟨e,he,hu⟩:=zan h
 rw [List.getElem?_take] at he
 split at he
 ·rw [List.getElem?_drop] at he; exact zay he hu
 ·cases he
theorem znP {w : World} {I γ} {lo : Option V} {vlo : Option Value} {l : Int} {y : Nat} {code : BoundsCode}
 (hl : ∀ v,lo = some v → ∃ x,vlo = some x ∧ Rd w I γ v x) (hn : lo = none → vlo = none) (h : lowOf lo = some l) (h0 : 0 ≤ l) (h1 : l ≤ y) :
 (match vlo with | some v=>Instr.sliceBound v y code | none=>pure 0).run P w = .ok l.toNat w:=by
 unfold lowOf at h
 split at h
 ·cases h; rw [hn rfl]; rfl
 ·cases h
  obtain ⟨x,rfl,hr⟩:=hl _ rfl
  cases hr
  simp [Instr.sliceBound,asIntOf,h0,h1]
 ·cases h
theorem zr3 {w : World} {I γ} {hi : Option V} {vhi : Option Value} {d : Nat} {h' : Int} {y : Nat} {code : BoundsCode}
 (hl : ∀ v,hi = some v → ∃ x,vhi = some x ∧ Rd w I γ v x) (hn : hi = none → vhi = none) (h : zgL d hi = some h') (h0 : 0 ≤ h') (h1 : h' ≤ y) :
 (match vhi with | some v=>Instr.sliceBound v y code | none=>pure d).run P w = .ok h'.toNat w:=by
 unfold zgL at h
 split at h
 ·cases h; rw [hn rfl]; simp
 ·cases h
  obtain ⟨x,rfl,hr⟩:=hl _ rfl
  cases hr
  simp [Instr.sliceBound,asIntOf,h0,h1]
 ·cases h
theorem ze9 {w : World} {I γ} {lo hi : Option V} {vlo vhi : Option Value} {l h : Int} {len cap : Nat} (b : Bool)
 (hlo : ∀ v,lo = some v → ∃ x,vlo = some x ∧ Rd w I γ v x) (hnlo : lo = none → vlo = none) (hhi : ∀ v,hi = some v → ∃ x,vhi = some x ∧ Rd w I γ v x) (hnhi : hi = none → vhi = none)
 (el : lowOf lo = some l) (eh : zgL len hi = some h) (h0 : 0 ≤ l) (h1 : l ≤ h) (h2 : h ≤ cap) :
 (Instr.sliceBounds b len cap vlo vhi none).run P w = .ok (l.toNat,h.toNat,cap) w:=by
 have kl:=znP (P:=P) (y:=h.toNat) (code:=.sliceB) hlo hnlo el h0 (by omega)
 have kh:=zr3 (P:=P) (y:=cap) (code:=(if b then BoundsCode.sliceAcap else .sliceAlen)) hhi hnhi eh (by omega) h2
 unfold Instr.sliceBounds
 cases vhi <;> cases vlo <;> simp at kl kh ⊢ <;> simp_all
theorem zfZ {w : World} {I γ} {lo hi : Option V} {vlo vhi : Option Value} {l h m : Int} {len cap : Nat} (b : Bool) (k : IntKind)
 (hlo : ∀ v,lo = some v → ∃ x,vlo = some x ∧ Rd w I γ v x) (hnlo : lo = none → vlo = none) (hhi : ∀ v,hi = some v → ∃ x,vhi = some x ∧ Rd w I γ v x) (hsome : hi.isSome = true)
 (el : lowOf lo = some l) (eh : zgL len hi = some h) (h0 : 0 ≤ l) (h1 : l ≤ h) (h2 : h ≤ m) (h3 : m ≤ cap) :
 (Instr.sliceBounds b len cap vlo vhi (some (.int k m))).run P w = .ok (l.toNat,h.toNat,m.toNat) w:=by
 have kl:=znP (P:=P) (y:=h.toNat) (code:=.slice3C) hlo hnlo el h0 (by omega)
 cases hi with
 | none=>cases hsome
 | some v =>
  obtain ⟨x,rfl,hr⟩:=hhi _ rfl
  cases v <;> simp only [zgL,Option.some.injEq,reduceCtorEq] at eh
  subst eh
  cases hr
  have k1 : (Instr.sliceBound (.int k m) cap (if b then BoundsCode.slice3Acap else .slice3Alen)).run P w = .ok m.toNat w:=by
   simp [Instr.sliceBound,asIntOf,show 0 ≤ m from by omega,h3]
  rename_i k' n
  have k2 : (Instr.sliceBound (.int k' n) m.toNat .slice3B).run P w = .ok n.toNat w:=by
   unfold Instr.sliceBound
   rw [Sem.run_bind]
   show (if 0 ≤ n ∧ n ≤ ((m.toNat : Nat) : Int) then (pure n.toNat : Sem Nat) else boundsPanic k' n m.toNat .slice3B).run P w = _
   rw [if_pos ⟨by omega,by omega⟩]; rfl
  unfold Instr.sliceBounds
  cases vlo with
  | none =>
   simp only [Sem.run_bind,k1,k2,Result.andThen_ok,Sem.run_pure] at kl ⊢
   injection kl with e1; rw [e1]
  | some y =>
   simp only [Option.isSome_some,if_true,Sem.run_bind,k1,k2,Result.andThen_ok,Sem.run_pure] at kl ⊢
   rw [kl]; rfl
theorem zsQ {e : TypeId} {n : Nat} (h : sizeT T e = some n) : ∃ ei,T e = some ei ∧ ei.size = n:=by
 unfold sizeT at h
 cases he : T e with
 | none=>rw [he] at h; cases h
 | some ei=>rw [he] at h; exact ⟨ei,rfl,by simpa using h⟩
theorem zdC (hT : zaJ P T) {e : TypeId} {n : Nat} (h : sizeT T e = some n) (w : World) : (sizeOf e).run P w = .ok n w:=by
 obtain ⟨ei,h1,h2⟩:=zsQ h
 rw [← h2]; exact (hT e ei h1).run_size w
theorem Inv.at_own {w0 ex I γ g w} (h : Inv w0 ex I γ g w) {nm : Nat} {o : AObj} (hg : g nm = some o) (hm : o.md ≠ .dead) {gi : GI} (hγ : γ nm = some gi) (hnn : gi.nil = false) : ∃ cur fr,ObjAt w I γ o gi cur fr:=by
 rcases (h.obj nm o hg hm).at_ with ⟨_,gi',h1,h2⟩ | ⟨gi',cur,fr,h1,h2⟩
 ·rw [h1] at hγ; cases hγ; rw [hnn] at h2; cases h2
 ·rw [h1] at hγ; cases hγ; exact ⟨cur,fr,h2⟩
theorem zce {w : World} {t e : TypeId} (hu : (underlying t).run P w = .ok (.slice e) w) {n : Nat} (hs : (sizeOf e).run P w = .ok n w) (a : Option Addr) (len cap : Nat) (lo hi mx : Option Value) {l h m : Nat}
 (hb : (Instr.sliceBounds true len cap lo hi mx).run P w = .ok (l,h,m) w) :
 (Instr.sliceAt t (.slice a len cap) lo hi mx).run P w = .ok (.slice (if m = l then a else a.map (·.add (l * n))) (h - l) (m - l)) w:=by
 unfold Instr.sliceAt
 rw [Sem.run_bind,hu,Result.andThen_ok]
 show (Instr.slice t (.slice a len cap) lo hi mx).run P w = _
 unfold Instr.slice
 rw [Sem.run_bind,hu,Result.andThen_ok]
 simp only [Sem.run_bind,hb,Result.andThen_ok,hs,Sem.run_pure]
theorem zmH {w : World} {t : TypeId} (hu : (underlying t).run P w = .ok .string w) (s : ByteArray) (lo hi : Option Value) {l h m : Nat}
 (hb : (Instr.sliceBounds false s.size s.size lo hi none).run P w = .ok (l,h,m) w) :
 (Instr.sliceAt t (.string s) lo hi none).run P w = .ok (.string (s.extract l h)) w:=by
 unfold Instr.sliceAt
 rw [Sem.run_bind,hu,Result.andThen_ok]
 show (Instr.slice t (.string s) lo hi none).run P w = _
 unfold Instr.slice
 rw [Sem.run_bind,hu,Result.andThen_ok]
 simp only [Option.isSome_none,Bool.false_eq_true,if_false,Sem.run_bind,Sem.run_pure,Result.andThen_ok,hb]
theorem Rd.cut {w : World} {I γ} {tg tg' es : Nat} {rows : List (List V)} {a : Option Addr} {n c l h m : Nat} (hx : Rd w I γ (.sl tg es rows) (.slice a n c)) (hlh : l ≤ h) (hhn : h ≤ n) (hhm : h ≤ m) (hmc : m ≤ c)
 (ht0 : tg' = 1 ∨ tg' = 4 → tg = 1 ∨ tg = 4) (ht1 : tg ≠ 0 → tg' ≠ 0) (ht : tg' = 1 ∨ tg' = 3 → m = h) :
 Rd w I γ (.sl tg' es ((rows.drop l).take (h - l))) (.slice (if m = l then a else a.map (·.add (l * es))) (h - l) (m - l)):=by
 cases hx with
 | nil _ _ _ htg =>
  have : l = 0 ∧ h = 0 ∧ m = 0:=by omega
  obtain ⟨rfl,rfl,rfl⟩:=this
  simpa using Rd.nil (w:=w) (I:=I) γ tg' es (by omega)
 | sl _ _ _ _ a n c xs h0 h1 hlen hnc hcm hes hcel hcell hr =>
  have e1 : (if m = l then some a else Option.map (fun x=>x.add (l * es)) (some a)) = some (if m = l then a else a.add (l * es)):=by split <;> rfl
  rw [e1]
  refine .sl _ _ _ _ _ _ _ (fun i j=>xs (l + i) j) (ht1 h0) (fun e=>by rw [ht e]) (by rw [List.length_take,List.length_drop]; omega) (by omega) (by omega)
   (fun r hr=>hes r (List.mem_of_mem_drop (List.mem_of_mem_take hr))) (fun i j u hu=>hcel _ _ _ (zaO hu)) ?_ (fun i j u hu=>hr _ _ _ (zaO hu))
  intro i j u hu
  have hu':=zaO hu
  obtain ⟨hI,hc'⟩:=hcell _ _ _ hu'
  obtain ⟨e2,he2,_⟩:=zan hu
  have hlt:=(List.getElem?_eq_some_iff.1 he2).1
  rw [List.length_take,List.length_drop] at hlt
  rw [if_neg (by omega)]
  refine ⟨by rw [zeJ]; exact hI,?_⟩
  rw [add_add,show l * es + (i * es + j) = (l + i) * es + j by rw [Nat.add_mul]; omega]
  exact hc'
theorem zm1 (hT : zaJ P T) {w0 w : World} {ex I γ g} (hi : Inv w0 ex I γ g w) {t : TypeId} {x v : V} {vx : Value} {lo hi' mx : Option V} {vlo vhi vmx : Option Value}
 (hx : Rd w I γ x vx) (hlo : ∀ v,lo = some v → ∃ x,vlo = some x ∧ Rd w I γ v x) (hnlo : lo = none → vlo = none) (hhi : ∀ v,hi' = some v → ∃ x,vhi = some x ∧ Rd w I γ v x) (hnhi : hi' = none → vhi = none)
 (hmx : ∀ v,mx = some v → ∃ x,vmx = some x ∧ Rd w I γ v x) (hnmx : mx = none → vmx = none)
 (h : zhH T g t x lo hi' mx = some v) : ∃ r,(Instr.sliceAt t vx vlo vhi vmx).run P w = .ok r w ∧ Rd w I γ v r:=by
 unfold zhH at h
 split at h
 ·rename_i hd
  cases hx
  split at h
  ·rename_i l h' el eh
   split at h
   ·rename_i hc
    cases h
    rw [hnmx rfl]
    exact ⟨_,zmH (zaH hT hd w) _ _ _ (ze9 (P:=P) false hlo hnlo hhi hnhi el eh hc.1 hc.2.1 hc.2.2),.str _ _⟩
   ·cases h
  ·cases h
 ·rename_i e tg sz es hd
  have hu:=zaH hT hd w
  have hform : ∃ a n c,vx = .slice a n c ∧ es.length = n ∧ n ≤ c ∧ (tg = 1 ∨ tg = 3 → c = n) ∧ (tg = 0 → a = none):=by
   cases hx with
   | nil _ _ _ htg=>exact ⟨none,0,0,rfl,rfl,Nat.le_refl _,fun _=>rfl,fun _=>rfl⟩
   | sl _ _ _ _ a n c xs h0 h1 hlen hnc hcm hes hcel hcell hr=>exact ⟨some a,n,c,rfl,hlen,hnc,h1,fun e=>absurd e h0⟩
  obtain ⟨a,n,c,rfl,hlen,hnc,htc,ht0⟩:=hform
  split at h
  ·rename_i hsz
   have hsz' : ∃ sz',sizeT T e = some sz' ∧ (sz' = sz ∨ tg = 0):=by
    rcases hsz with hsz | ⟨h1,h2⟩
    ·exact ⟨sz,hsz,.inl rfl⟩
    ·cases hs : sizeT T e with
     | none=>rw [hs] at h2; cases h2
     | some sz'=>exact ⟨sz',rfl,.inr h1⟩
   obtain ⟨sz',hs',hor⟩:=hsz'
   have fin : ∀ l h m tg',(Instr.sliceBounds true n c vlo vhi vmx).run P w = .ok (l,h,m) w → l ≤ h → h ≤ n → h ≤ m → m ≤ c → (tg' = 1 ∨ tg' = 4 → tg = 1 ∨ tg = 4) → (tg ≠ 0 → tg' ≠ 0) → (tg' = 1 ∨ tg' = 3 → m = h) →
    ∃ r,(Instr.sliceAt t (.slice a n c) vlo vhi vmx).run P w = .ok r w ∧ Rd w I γ (.sl tg' sz ((es.drop l).take (h - l))) r:=by
    intro l h m tg' hb h1 h2 h3 h4 k1 k2 k3
    refine ⟨_,zce hu (zdC hT hs' w) a n c vlo vhi vmx hb,?_⟩
    have:=Rd.cut hx h1 h2 h3 h4 k1 k2 k3
    rcases hor with rfl | h0
    ·exact this
    ·rw [ht0 h0] at this ⊢; exact this
   split at h
   ·rename_i l h' el eh
    split at h
    ·rename_i hc
     cases h
     rw [hnmx rfl] at fin ⊢
     have hb:=ze9 (P:=P) (len:=n) (cap:=c) true hlo hnlo hhi hnhi el (by rw [← hlen]; exact eh) hc.1 hc.2.1 (by have:=hc.2.2; omega)
     refine fin l.toNat h'.toNat c _ hb (by omega) (by omega) (by omega) (Nat.le_refl _) ?_ ?_ ?_
     ·intro e
      simp only [zdx] at e
      split at e
      ·rcases e with e | e <;> cases e
      ·split at e
       ·exact e
       ·rcases e with e | e <;> cases e
     ·intro h0
      simp only [zdx]
      rw [if_neg h0]; split
      ·exact h0
      ·decide
     ·intro e
      simp only [zdx] at e
      split at e
      ·rcases e with e | e <;> cases e
      ·split at e
       ·rename_i hand; have:=htc e; have:=of_decide_eq_true hand.2; omega
       ·rcases e with e | e <;> cases e
    ·cases h
   ·rename_i l h' k m el eh
    split at h
    ·rename_i hc
     cases h
     obtain ⟨xm,rfl,hrm⟩:=hmx _ rfl
     cases hrm
     obtain ⟨c0,c1,c2,rfl,c3⟩:=hc
     have hb:=zfZ (P:=P) (len:=n) (cap:=c) true k hlo hnlo hhi c3 el (by rw [← hlen]; exact eh) c0 c1 (Int.le_refl _) (by omega)
     refine fin l.toNat m.toNat m.toNat _ hb (by omega) (by omega) (Nat.le_refl _) (by omega) ?_ ?_ (fun _=>rfl)
     ·intro e; split at e
      ·rcases e with e | e <;> cases e
      ·split at e
       ·rename_i h1; exact .inl h1
       ·rcases e with e | e <;> cases e
     ·intro h0; rw [if_neg h0]; split <;> decide
    ·cases h
   ·cases h
  ·cases h
 ·rename_i e nm off n hd
  have hu:=zaH hT hd w
  split at h
  ·rename_i o hg
   split at h
   ·rename_i hc
    split at h
    ·rename_i l h' el eh
     split at h
     ·rename_i hb
      cases h
      rw [hnmx rfl]
      cases hx with
      | own _ _ _ _ c oo gi hγ hnn hcap hn hcm ho =>
       obtain ⟨cur,fr,ha⟩:=hi.at_own hg hc.2 hγ hnn
       have hbd:=ze9 (P:=P) (len:=n) (cap:=c) true hlo hnlo hhi hnhi el eh hb.1 hb.2.1 (by have:=hb.2.2; omega)
       refine ⟨_,zce hu (zdC hT hc.1 w) _ n c vlo vhi none hbd,?_⟩
       have e1 : (if c = l.toNat then some (⟨gi.blk,oo,none⟩ : Addr) else Option.map (fun x : Addr=>x.add (l.toNat * o.es)) (some ⟨gi.blk,oo,none⟩)) = some ⟨gi.blk,if c = l.toNat then oo else oo + l.toNat * o.es,none⟩:=by
        split
        ·rfl
        ·simp [zcx]
       rw [e1]
       refine .own _ _ _ _ _ _ gi hγ hnn (by omega) (by omega) (by omega) (fun hne=>?_)
       rw [if_neg (by omega),ho (by omega),ha.es,Nat.add_mul]
      | ownnil _ _ A gi hγ hnn =>
       have hbd:=ze9 (P:=P) (len:=0) (cap:=0) true hlo hnlo hhi hnhi el eh hb.1 hb.2.1 (by have:=hb.2.2; omega)
       have e0 : l.toNat = 0 ∧ h'.toNat = 0:=by omega
       refine ⟨_,zce hu (zdC hT hc.1 w) _ 0 0 vlo vhi none hbd,?_⟩
       rw [e0.1,e0.2]
       exact .ownnil _ _ _ gi hγ hnn
     ·cases h
    ·rename_i l h' k m el eh
     split at h
     ·rename_i hb
      cases h
      obtain ⟨xm,rfl,hrm⟩:=hmx _ rfl
      cases hrm
      obtain ⟨c0,c1,c2,rfl,c3⟩:=hb
      subst c1
      cases hx with
      | own _ _ _ _ c oo gi hγ hnn hcap hn hcm ho =>
       have hbd:=zfZ (P:=P) (len:=n) (cap:=c) true k hlo hnlo hhi c3 el eh c0 (Int.le_refl _) (Int.le_refl _) (by omega)
       refine ⟨_,zce hu (zdC hT hc.1 w) _ n c vlo vhi _ hbd,?_⟩
       simp only [Nat.sub_self,if_true]
       exact .sl _ 3 o.es [] _ 0 0 (fun _ _=>undef) (by decide) (fun _=>rfl) rfl (Nat.le_refl _) (by simp) (by simp) (by simp [zah]) (by simp [zah]) (by simp [zah])
      | ownnil _ _ A gi hγ hnn =>
       have hbd:=zfZ (P:=P) (len:=0) (cap:=0) true k hlo hnlo hhi c3 el eh c0 (Int.le_refl _) (Int.le_refl _) (by omega)
       refine ⟨_,zce hu (zdC hT hc.1 w) _ 0 0 vlo vhi _ hbd,?_⟩
       simp only [Nat.sub_self,if_true]
       cases A with
       | none=>exact .nil _ 3 o.es (by decide)
       | some a=>exact .sl _ 3 o.es [] a 0 0 (fun _ _=>undef) (by decide) (fun _=>rfl) rfl (Nat.le_refl _) (by simp) (by simp) (by simp [zah]) (by simp [zah]) (by simp [zah])
     ·cases h
    ·cases h
   ·cases h
  ·cases h
 ·cases h
theorem zdS (hT : zaJ P T) {w : World} {I γ} {t : TypeId} {ti : TI} (ht : T t = some ti) {cs : List V} {v : V} {a : Addr} {xs : Nat → Value} (h : zbo ti cs = some v)
 (hc : ∀ (j : Nat) (u : V),cs[j]? = some u → w.cell? (a.add j) = some (xs j) ∧ Rd w I γ u (xs j)) :
 ∃ r,(loadVar t a).run P w = .ok r w ∧ Rd w I γ v r:=by
 unfold zbo at h
 have hag:=(hT t ti ht).run_agg w
 have hsz:=(hT t ti ht).run_size w
 unfold loadVar
 rw [Sem.run_bind,hag,Result.andThen_ok]
 cases hb : ti.agg with
 | true =>
  rw [hb] at h
  simp only [if_true] at h
  split at h
  ·rename_i hl
   cases h
   have hlen : ti.size ≤ cs.length:=by rw [List.length_take] at hl; omega
   have hk:=run_loadCells (P:=P) w a ti.size xs (fun j hj=>(hc j _ (List.getElem?_eq_getElem (Nat.lt_of_lt_of_le hj hlen))).1)
   refine ⟨.agg ((List.range ti.size).map xs).toArray,?_,?_⟩
   ·simp only [if_true,Sem.run_bind,hsz,Result.andThen_ok,hk,Sem.run_pure]
   ·refine .agg _ _ _ (by rw [hl]; simp) fun j u x hu hx=>?_
    rw [List.getElem?_take] at hu
    split at hu
    ·rename_i hj
     simp [List.getElem?_range hj] at hx
     subst hx
     exact (hc j u hu).2
    ·cases hu
  ·cases h
 | false =>
  rw [hb] at h
  simp only [Bool.false_eq_true,if_false] at h ⊢
  cases cs with
  | nil=>cases h
  | cons c cs =>
   cases h
   obtain ⟨h1,h2⟩:=hc 0 _ rfl
   refine ⟨xs 0,?_,h2⟩
   have : a.add 0 = a:=by simp [Addr.add]
   rw [this] at h1
   rw [run_load,h1]
theorem ziZ (hT : zaJ P T) {w0 w : World} {ex I γ g} (hi : Inv w0 ex I γ g w) {t : TypeId} {x : V} {vx : Value} {e : Eff} (hx : Rd w I γ x vx) (h : aLoad T g t x = some e) :
 e.wr = [] ∧ ∃ r,(Instr.loadAt t vx).run P w = .ok r w ∧ Rd w I γ e.v r:=by
 unfold aLoad at h
 cases ht : T t with
 | none=>rw [ht] at h; cases h
 | some ti =>
  rw [ht] at h
  simp only at h
  split at h
  ·rename_i cs
   cases hf : zbo ti cs with
   | none=>rw [hf] at h; cases h
   | some v =>
    rw [hf] at h; cases h
    cases hx with
    | pp _ _ a xs hc hr =>
     refine ⟨rfl,?_⟩
     have:=zdS hT ht hf (a:=a) (xs:=xs) (I:=I) (γ:=γ) (fun j u hu=>⟨(hc j u hu).2,(hr j u hu).closed ((hr j u hu).closed_of_noG rfl) γ⟩)
     simpa [Instr.loadAt,Instr.sureAddr] using this
  ·rename_i nm i j
   split at h
   ·rename_i o hg
    split at h
    ·cases h
    ·rename_i hm
     split at h
     ·rename_i r hr
      cases hf : zbo ti (r.drop j) with
      | none=>rw [hf] at h; cases h
      | some v =>
       rw [hf] at h; cases h
       refine ⟨rfl,?_⟩
       cases hx with
       | ptr _ _ _ _ gi hγ hnn =>
        obtain ⟨cur,fr,ha⟩:=hi.at_own hg hm hγ hnn
        have hcell : ∀ (k : Nat) (u : V),(r.drop j)[k]? = some u → ∃ x,cur[i * o.es + (j + k)]? = some x ∧ Rd w I γ u x:=fun k u hu =>
         ha.cells i (j + k) u (zay hr (by rw [List.getElem?_drop] at hu; exact hu))
        have:=zdS hT ht hf (a:=⟨gi.blk,i * gi.es + j,none⟩) (xs:=fun k=>cur[i * o.es + (j + k)]?.getD undef) (I:=I) (γ:=γ) (fun k u hu=>by
         obtain ⟨x,hx,hrd⟩:=hcell k u hu
         rw [hx]
         refine ⟨?_,hrd⟩
         rw [zcx,cell_of_row w gi.blk _ cur o.et fr ha.heap,ha.es,Nat.add_assoc,hx]; rfl)
        simpa [Instr.loadAt,Instr.sureAddr] using this
     ·cases h
   ·cases h
  ·cases h
end
section
variable {P : Program} {T : TypeId → Option TI}
theorem zhR {s : TypeId} {f off : Nat} {ti : TI} (h : zjA T s f = some (off,ti)) : ∃ fs fd,zao T s = some (.struct fs) ∧ fs[f]? = some fd ∧ T fd.type = some ti ∧ fd.offset = off:=by
 unfold zjA at h
 split at h
 ·rename_i fs hd
  split at h
  ·rename_i fd hf
   cases ht : T fd.type with
   | none=>rw [ht] at h; cases h
   | some t=>rw [ht] at h; cases h; exact ⟨fs,fd,hd,hf,ht,rfl⟩
  ·cases h
 ·cases h
theorem zic (hT : zaJ P T) {w : World} {I γ} {s : TypeId} {f : Nat} {x v : V} {vx : Value} (hx : Rd w I γ x vx) (h : zdV T s x f = some v) :
 ∃ r,(Instr.fieldAt s vx f).run P w = .ok r w ∧ Rd w I γ v r:=by
 unfold zdV at h
 split at h
 ·rename_i off ti hf
  obtain ⟨fs,fd,hd,hfd,ht,rfl⟩:=zhR hf
  split at h
  ·cases h
  ·rename_i hsz
   have hu:=zaH hT hd w
   have hs:=(hT _ _ ht).run_size w
   have key : ∀ a : Addr,(Instr.fieldAt s (.pointer (some a)) f).run P w = .ok (.pointer (some (a.add fd.offset))) w:=by
    intro a
    unfold Instr.fieldAt
    rw [Sem.run_bind,hu,Result.andThen_ok]
    simp only [hfd,Sem.run_bind,Instr.sureAddr,Sem.run_pure,Result.andThen_ok,fieldPlace,hs,hsz,if_false]
   split at h
   ·cases h
    cases hx with
    | ptr _ _ i j gi hγ hnn =>
     refine ⟨_,key _,?_⟩
     rw [zcx,Nat.add_assoc]
     exact .ptr _ _ _ _ gi hγ hnn
   ·cases h
    rename_i cs
    cases hx with
    | pp _ _ a xs hc hr =>
     refine ⟨_,key _,?_⟩
     refine .pp _ _ _ (fun j=>xs (fd.offset + j)) (fun j u hu=>?_) (fun j u hu=>?_)
     ·rw [List.getElem?_drop] at hu
      obtain ⟨h1,h2⟩:=hc _ u hu
      exact ⟨by rw [zeJ]; exact h1,by rw [add_add]; exact h2⟩
     ·rw [List.getElem?_drop] at hu; exact hr _ u hu
   ·cases h
 ·cases h
theorem zmV (hT : zaJ P T) {w : World} {I γ} {s : TypeId} {f : Nat} {x v : V} {vx : Value} (hx : Rd w I γ x vx) (h : zmU T s x f = some v) :
 ∃ r,(Instr.field s vx f).run P w = .ok r w ∧ Rd w I γ v r:=by
 unfold zmU at h
 split at h
 ·rename_i off ti hf
  obtain ⟨fs,fd,hd,hfd,ht,rfl⟩:=zhR hf
  split at h
  ·cases hx with
   | agg _ _ xs hl hr =>
    obtain ⟨r,h1,h2⟩:=zfv hT ht hl hr h
    refine ⟨r,?_,h2⟩
    unfold Instr.field
    rw [Sem.run_bind,zaH hT hd,Result.andThen_ok]
    simp only [hfd,Sem.run_bind,asAgg,Sem.run_pure,Result.andThen_ok,h1]
  ·cases h
 ·cases h
theorem zid (hT : zaJ P T) {w0 w : World} {ex I γ g} (hi : Inv w0 ex I γ g w) {t : TypeId} {x ix v : V} {vx vi : Value} (hx : Rd w I γ x vx) (hix : Rd w I γ ix vi) (h : zcA T g t x ix = some v) :
 ∃ r,(Instr.indexAt t vx vi).run P w = .ok r w ∧ Rd w I γ v r:=by
 have key : ∀ e (n : Nat) (k : IntKind) (i : Int) (a : Addr) (len cap : Nat),zao T t = some (.slice e) → sizeT T e = some n → 0 ≤ i → i < len →
  (Instr.indexAt t (.slice (some a) len cap) (.int k i)).run P w = .ok (.pointer (some (a.add (i.toNat * n)))) w:=by
  intro e n k i a len cap hd hs h0 h1
  unfold Instr.indexAt
  simp only [asIntOf,Sem.run_bind,Sem.run_pure,Result.andThen_ok,zaH hT hd]
  rw [if_pos ⟨h0,h1⟩]
  simp only [Sem.run_bind,zdC hT hs w,Result.andThen_ok,Sem.run_pure]
 have keyA : ∀ (n : Nat) e (sz : Nat) (k : IntKind) (i : Int) (a : Addr),zao T t = some (.array n e) → sizeT T e = some sz → 0 ≤ i → i < n →
  (Instr.indexAt t (.pointer (some a)) (.int k i)).run P w = .ok (.pointer (some (a.add (i.toNat * sz)))) w:=by
  intro n e sz k i a hd hs h0 h1
  unfold Instr.indexAt
  simp only [asIntOf,Sem.run_bind,Sem.run_pure,Result.andThen_ok,zaH hT hd,Instr.sureAddr]
  rw [if_pos ⟨h0,h1⟩]
  simp only [Sem.run_bind,zdC hT hs w,Result.andThen_ok,Sem.run_pure]
 unfold zcA at h
 split at h
 ·rename_i e tg sz es k i hd
  cases hix
  split at h
  ·rename_i hc
   cases he : es[i.toNat]? with
   | none=>rw [he] at h; cases h
   | some row =>
    rw [he] at h; cases h
    have hlt:=(List.getElem?_eq_some_iff.1 he).1
    cases hx with
    | nil=>simp at hlt
    | sl _ _ _ _ a n c xs h0 h1 hlen hnc hcm hes hcel hcell hr =>
     refine ⟨_,key e sz k i a n c hd hc.2 hc.1 (by omega),?_⟩
     refine .pp _ _ _ (fun j=>xs i.toNat j) (fun j u hu=>?_) (fun j u hu=>hr _ _ _ (zay he hu))
     obtain ⟨q1,q2⟩:=hcell _ _ _ (zay he hu)
     exact ⟨by rw [zeJ]; exact q1,by rw [add_add]; exact q2⟩
  ·cases h
 ·rename_i e nm off n k i hd
  cases hix
  split at h
  ·rename_i o hg
   split at h
   ·rename_i hc
    cases h
    cases hx with
    | own _ _ _ _ c oo gi hγ hnn hcap hn hcm ho =>
     obtain ⟨cur,fr,ha⟩:=hi.at_own hg hc.2.2.2 hγ hnn
     refine ⟨_,key e o.es k i _ n c hd hc.2.2.1 hc.1 hc.2.1,?_⟩
     rw [zcx,ho (by have:=hc.2.1; omega),ha.es,← Nat.add_mul,← ha.es]
     exact .ptr _ _ _ 0 gi hγ hnn
    | ownnil=>exfalso; have:=hc.1; have:=hc.2.1; omega
   ·cases h
  ·cases h
 ·rename_i n e nm i0 j k i hd
  cases hix
  split at h
  ·rename_i hc
   cases hs : sizeT T e with
   | none=>rw [hs] at h; cases h
   | some sz =>
    rw [hs] at h; cases h
    cases hx with
    | ptr _ _ _ _ gi hγ hnn =>
     refine ⟨_,keyA n e sz k i _ hd hs hc.1 hc.2,?_⟩
     rw [zcx,Nat.add_assoc]
     exact .ptr _ _ _ _ gi hγ hnn
  ·cases h
 ·rename_i n e cs k i hd
  cases hix
  split at h
  ·rename_i hc
   cases hs : sizeT T e with
   | none=>rw [hs] at h; cases h
   | some sz =>
    rw [hs] at h; cases h
    cases hx with
    | pp _ _ a xs hcl hr =>
     refine ⟨_,keyA n e sz k i a hd hs hc.1 hc.2,?_⟩
     refine .pp _ _ _ (fun j=>xs (i.toNat * sz + j)) (fun j u hu=>?_) (fun j u hu=>?_)
     ·rw [List.getElem?_drop] at hu
      obtain ⟨h1,h2⟩:=hcl _ u hu
      exact ⟨by rw [zeJ]; exact h1,by rw [add_add]; exact h2⟩
     ·rw [List.getElem?_drop] at hu; exact hr _ u hu
  ·cases h
 ·cases h
theorem zmX (hT : zaJ P T) {w : World} {I γ} {t : TypeId} {x ix v : V} {vx vi : Value} (hx : Rd w I γ x vx) (hix : Rd w I γ ix vi) (h : zmW T t x ix = some v) :
 ∃ r,(Instr.index t vx vi).run P w = .ok r w ∧ Rd w I γ v r:=by
 unfold zmW at h
 split at h
 ·rename_i s k i hd
  cases hx; cases hix
  split at h
  ·rename_i h0
   cases hb : s.data.toList[i.toNat]? with
   | none=>rw [hb] at h; cases h
   | some b =>
    rw [hb] at h; cases h
    refine ⟨_,?_,.int _ _ _⟩
    have hb' : s[i.toNat]? = some b:=by
     rw [Array.getElem?_toList] at hb
     obtain ⟨hlt,hv⟩:=Array.getElem?_eq_some_iff.1 hb
     rw [getElem?_pos s i.toNat hlt]
     exact congrArg some hv
    unfold Instr.index
    simp only [asIntOf,Sem.run_bind,Sem.run_pure,Result.andThen_ok,zaH hT hd,if_pos h0,hb']
  ·cases h
 ·rename_i n e cs k i hd
  cases hix
  split at h
  ·rename_i hc
   cases he : T e with
   | none=>rw [he] at h; cases h
   | some ei =>
    rw [he] at h
    simp only at h
    cases hx with
    | agg _ _ xs hl hr =>
     obtain ⟨r,h1,h2⟩:=zfv hT he hl hr h
     refine ⟨r,?_,h2⟩
     unfold Instr.index
     simp only [asIntOf,Sem.run_bind,Sem.run_pure,Result.andThen_ok,zaH hT hd,if_pos hc,(hT e ei he).run_size w,h1]
  ·cases h
 ·cases h
theorem zcb (g o : Nat) (t : TypeId) (fr : Nat × Nat) : ∀ (vs : List Value) (i : Nat) (cur : Array Value) (w : World),w.heap[g]? = some (.cells cur t fr) → (fr.2 ≤ fr.1 ∨ cur.size ≤ fr.1) → o + i + vs.length ≤ cur.size → (∀ v ∈ vs,v.oneCell' = true) →
 ∃ w' cur',(storeCells ⟨g,o,none⟩ vs i).run P w = .ok () w' ∧ (∀ b,w'.heap[b]? = if b = g then some (.cells cur' t fr) else w.heap[b]?) ∧ w'.heap.size = w.heap.size ∧ (w'.os = w.os ∧ w'.tape = w.tape ∧ w'.output = w.output) ∧
  cur'.size = cur.size ∧ (∀ k,cur'[k]? = if o + i ≤ k ∧ k < o + i + vs.length then vs[k - (o + i)]? else cur[k]?)
 | [],i,cur,w,hg,_,_,_=>⟨w,cur,rfl,fun b=>by
  by_cases e : b = g
  ·rw [if_pos e,e]; exact hg
  ·rw [if_neg e],rfl,⟨rfl,rfl,rfl⟩,rfl,fun k=>by rw [if_neg (by simp)]⟩
 | v :: vs,i,cur,w,hg,hf,hl,h1=>by
  have hlt : o + i < cur.size:=by simp at hl; omega
  have hcell : w.cell? ⟨g,o + i,none⟩ = some cur[o + i]:=by rw [cell_of_row w g _ cur t fr hg]; exact Array.getElem?_eq_getElem hlt
  have hfz : w.frozen? ⟨g,o + i,none⟩ = false:=by
   simp only [World.frozen?,hg]
   rcases hf with hf | hf
   ·simp; omega
   ·simp; omega
  have hset : ∀ b,(w.setCell ⟨g,o + i,none⟩ v).heap[b]? = if b = g then some (.cells (cur.setIfInBounds (o + i) v) t fr) else w.heap[b]?:=by
   intro b
   simp only [World.setCell,Array.getElem?_modify]
   by_cases e : b = g
   ·subst e; rw [if_pos rfl,hg]; simp
   ·rw [if_neg (fun h=>e h.symm),if_neg e]
  obtain ⟨w',cur',k1,k2,k3,k4,k5,k6⟩:=zcb g o t fr vs (i + 1) (cur.setIfInBounds (o + i) v) (w.setCell ⟨g,o + i,none⟩ v) (by rw [hset,if_pos rfl]) (by simpa using hf) (by simp at hl ⊢; omega) (fun u hu=>h1 u (List.mem_cons_of_mem _ hu))
  refine ⟨w',cur',?_,?_,?_,?_,?_,?_⟩
  ·show (store ((⟨g,o,none⟩ : Addr).add i) v >>= fun _=>storeCells ⟨g,o,none⟩ vs (i + 1)).run P w = _
   rw [Sem.run_bind,zcx,run_store P w _ v _ (h1 v (List.mem_cons_self ..)),hcell]
   simp only [hfz,Bool.false_eq_true,if_false,Result.andThen_ok]
   exact k1
  ·intro b
   rw [k2,hset]
   by_cases e : b = g
   ·rw [if_pos e,if_pos e]
   ·rw [if_neg e,if_neg e,if_neg e]
  ·rw [k3]; simp [World.setCell]
  ·exact k4
  ·rw [k5]; simp
  ·intro k
   rw [k6]
   simp only [List.length_cons]
   by_cases c1 : o + (i + 1) ≤ k ∧ k < o + (i + 1) + vs.length
   ·rw [if_pos c1,if_pos (by omega),show k - (o + i) = (k - (o + (i + 1))) + 1 by omega,List.getElem?_cons_succ]
   ·rw [if_neg c1]
    by_cases c2 : k = o + i
    ·subst c2
     rw [if_pos (by omega)]
     simp [hlt]
    ·rw [if_neg (by omega),Array.getElem?_setIfInBounds_ne (fun h=>c2 h.symm)]
theorem Rd.oneCell' {w : World} {I γ} {v : V} {x : Value} (h : Rd w I γ v x) (hc : v.cellular = true) : x.oneCell' = true:=by
 cases h <;> simp [V.cellular] at hc <;> rfl
theorem V.plainC_cellular {v : V} (h : v.plainC = true) : v.cellular = true:=by cases v <;> first | rfl | cases h
theorem V.plainC_nt {v : V} (h : v.plainC = true) : v.isTree = false:=by cases v <;> first | rfl | cases h
theorem zbm : ∀ {cs : List V},zaV cs = true → ∀ (j : Nat) (u : V),cs[j]? = some u → u.cellular = true
 | [],_,j,u,h=>by simp at h
 | c :: cs,hc,j,u,h=>by
  simp only [zaV,Bool.and_eq_true] at hc
  cases j with
  | zero=>simp at h; subst h; exact V.plainC_cellular hc.1
  | succ j=>exact zbm hc.2 j u (by simpa using h)
theorem zb5 : ∀ {cs : List V},zaV cs = true → ∀ (j : Nat) (u : V),cs[j]? = some u → u.isTree = false
 | [],_,j,u,h=>by simp at h
 | c :: cs,hc,j,u,h=>by
  simp only [zaV,Bool.and_eq_true] at hc
  cases j with
  | zero=>simp at h; subst h; exact V.plainC_nt hc.1
  | succ j=>exact zb5 hc.2 j u (by simpa using h)
theorem Rd.cells {w : World} {I γ} {v : V} {x : Value} (h : Rd w I γ v x) (hj : v ≠ .junk) : v.cells.length = x.cells.size ∧ ∀ (j : Nat) (u : V) (y : Value),v.cells[j]? = some u → x.cells[j]? = some y → Rd w I γ u y:=by
 cases h with
 | agg _ cs xs hl hr=>exact ⟨hl,hr⟩
 | junk=>exact absurd rfl hj
 | tup _ cs xs hl hr =>
  refine ⟨rfl,fun j u y hu hy=>?_⟩
  cases j with
  | zero=>simp [V.cells,Value.cells] at hu hy; subst hu; subst hy; exact .tup _ cs xs hl hr
  | succ j=>simp [V.cells] at hu
 | mth _ f nm gi hγ hnn =>
  refine ⟨rfl,fun j u y hu hy=>?_⟩
  cases j with
  | zero=>simp only [V.cells,Value.cells,List.getElem?_cons_zero,Option.some.injEq] at hu hy; subst hu; simp at hy; subst hy; simpa using Rd.mth (w:=w) (I:=I) γ f nm gi hγ hnn
  | succ j=>simp [V.cells] at hu
 | _ =>
  refine ⟨rfl,fun j u y hu hy=>?_⟩
  cases j with
  | zero=>simp [V.cells,Value.cells] at hu hy; subst hu; subst hy; constructor <;> assumption
  | succ j=>simp [V.cells] at hu
theorem zjD {cs : List V} {n : Nat} (h : flOf cs = n) (hn : n ≠ 0) : V.closed.closedAll cs = true:=by
 unfold flOf at h
 split at h
 ·assumption
 ·exact absurd h.symm hn
theorem zjE {cs : List V} (h : 2 ≤ flOf cs) : V.closed.closedAll cs = true ∧ V.scalar.scalarAll cs = true:=by
 unfold flOf at h
 split at h
 ·split at h
  ·exact ⟨by assumption,by assumption⟩
  ·omega
 ·omega
theorem zdq {r cs : List V} {j k : Nat} {u : V} (hl : j + cs.length ≤ r.length) (h : (splice r j cs)[k]? = some u) :
 (j ≤ k ∧ k < j + cs.length ∧ cs[k - j]? = some u) ∨ ((k < j ∨ j + cs.length ≤ k) ∧ r[k]? = some u):=by
 unfold splice at h
 have hj : (r.take j).length = j:=by rw [List.length_take]; omega
 by_cases c1 : k < j
 ·rw [List.append_assoc,List.getElem?_append_left (by omega),List.getElem?_take,if_pos c1] at h
  exact .inr ⟨.inl c1,h⟩
 ·rw [List.append_assoc,List.getElem?_append_right (by omega),hj] at h
  by_cases c2 : k - j < cs.length
  ·rw [List.getElem?_append_left c2] at h
   exact .inl ⟨by omega,by omega,h⟩
  ·rw [List.getElem?_append_right (by omega),List.getElem?_drop] at h
   exact .inr ⟨.inr (by omega),by rw [← h]; congr 1; omega⟩
theorem zg6 {r cs : List V} {j : Nat} (hl : j + cs.length ≤ r.length) : (splice r j cs).length = r.length:=by
 unfold splice
 simp only [List.length_append,List.length_take,List.length_drop]
 omega
theorem zm2 (hT : zaJ P T) {w0 w : World} {ex I γ g} (hi : Inv w0 ex I γ g w) {t : TypeId} {x v : V} {vx vv : Value} {e : Eff} (hx : Rd w I γ x vx) (hv : Rd w I γ v vv) (h : zkP T g t x v = some e) :
 e.v = .junk ∧ ∃ w',(Instr.storeAt t vx vv).run P w = .ok () w' ∧ Inv w0 ex I γ (zas g e.wr) w' ∧ Ext I γ w I γ w':=by
 unfold zkP at h
 split at h
 ·rename_i ti nm i j ht
  split at h
  ·rename_i o hg
   split at h
   ·rename_i hmd
    split at h
    ·rename_i r hr
     split at h
     ·rename_i hc
      obtain ⟨hc1,hc2,hc3⟩:=hc
      cases h
      refine ⟨rfl,?_⟩
      have hnj : v ≠ .junk:=fun e=>by subst e; simp [V.cells,zaV,V.plainC] at hc2
      obtain ⟨hcl,hcr⟩:=hv.cells hnj
      cases hx with
      | ptr _ _ _ _ gi hγ hnn =>
       obtain ⟨cur,fr,ha⟩:=hi.at_own hg (by rw [hmd]; decide) hγ hnn
       have hob:=hi.obj nm o hg (by rw [hmd]; decide)
       have hrl : r.length = o.es:=hob.rows r (List.mem_of_getElem? hr)
       have hil : i < o.elems.length:=(List.getElem?_eq_some_iff.1 hr).1
       have hfit : i * gi.es + j + 0 + vv.cells.toList.length ≤ cur.size:=by
        rw [ha.size,ha.es,Array.length_toList,← hcl]
        have : (i + 1) * o.es ≤ gi.cap * o.es:=Nat.mul_le_mul_right _ (Nat.le_trans hil ha.le)
        rw [Nat.add_mul] at this
        omega
       have hone : ∀ y ∈ vv.cells.toList,y.oneCell' = true:=by
        intro y hy
        obtain ⟨k,hk,hky⟩:=List.mem_iff_getElem.1 hy
        have hk' : k < v.cells.length:=by rw [hcl]; simpa using hk
        have hyy : vv.cells[k]? = some y:=by rw [← Array.getElem?_toList]; exact hky ▸ List.getElem?_eq_getElem hk
        exact (hcr k _ y (List.getElem?_eq_getElem hk') hyy).oneCell' (zbm hc2 k _ (List.getElem?_eq_getElem hk'))
       obtain ⟨w',cur',k1,k2,k3,k4,k5,k6⟩:=zcb (P:=P) gi.blk (i * gi.es + j) o.et fr vv.cells.toList 0 cur w ha.heap ha.frz hfit hone
       refine ⟨w',?_,?_⟩
       ·unfold Instr.storeAt storeVar
        simp only [Instr.sureAddr,Sem.run_bind,Sem.run_pure,Result.andThen_ok,(hT t ti ht).run_size w]
        rw [if_neg (by rw [← hcl,hc1]; exact fun h=>h rfl)]
        exact k1
       ·refine hi.write hg hmd hγ ha rfl rfl hmd k5 k2 k3 k4 ?_ ?_ ?_ ?_ ?_ ?_ ?_ ?_
        ·simp only [List.length_set]; exact ha.le
        ·intro ht; simp only [List.length_set]; exact ha.tight ht
        ·intro r' hr'
         rcases List.mem_or_eq_of_mem_set hr' with h1 | h1
         ·exact hob.rows r' h1
         ·rw [h1,zg6 hc3,hrl]
        ·intro i' j' u hu
         obtain ⟨r',h1,h2⟩:=zan hu
         rw [List.getElem?_set] at h1
         split at h1
         ·cases h1
          rcases zdq hc3 h2 with ⟨_,_,h3⟩ | ⟨_,h3⟩
          ·exact zbm hc2 _ u h3
          ·exact hob.cel _ _ u (zay hr h3)
         ·exact hob.cel _ _ u (zay h1 h2)
        ·intro hfl i' j' u hu
         obtain ⟨r',h1,h2⟩:=zan hu
         have hf1 : o.fl ≠ 0:=by intro e; apply hfl; show min o.fl _ = 0; rw [e]; exact Nat.zero_min _
         have hf2 : flOf v.cells ≠ 0:=by intro e; apply hfl; show min o.fl _ = 0; rw [e]; exact Nat.min_zero _
         rw [List.getElem?_set] at h1
         split at h1
         ·cases h1
          rcases zdq hc3 h2 with ⟨_,_,h3⟩ | ⟨_,h3⟩
          ·exact V.closedAll_get (zjD rfl hf2) _ u h3
          ·exact hob.closed hf1 _ _ u (zay hr h3)
         ·exact hob.closed hf1 _ _ u (zay h1 h2)
        ·intro hfl i' j' u hu
         obtain ⟨r',h1,h2⟩:=zan hu
         have hfl' : 2 ≤ min o.fl (flOf v.cells):=hfl
         have hf1 : 2 ≤ o.fl:=by omega
         have hf2 : 2 ≤ flOf v.cells:=by omega
         rw [List.getElem?_set] at h1
         split at h1
         ·cases h1
          rcases zdq hc3 h2 with ⟨_,_,h3⟩ | ⟨_,h3⟩
          ·exact V.scalarAll_get (zjE hf2).2 _ u h3
          ·exact hob.scalar hf1 _ _ u (zay hr h3)
         ·exact hob.scalar hf1 _ _ u (zay h1 h2)
        ·intro i' j' u hu
         obtain ⟨r',h1,h2⟩:=zan hu
         have hrow : ∀ r0,o.elems[i']? = some r0 → j' < r0.length → j' < o.es:=fun r0 h0 hlt=>by rw [← hob.rows r0 (List.mem_of_getElem? h0)]; exact hlt
         rw [k6]
         simp only [Nat.add_zero,Array.length_toList,ha.es]
         rw [List.getElem?_set] at h1
         split at h1
         ·rename_i hii
          subst hii
          cases h1
          rcases zdq hc3 h2 with ⟨q1,q2,h3⟩ | ⟨q1,h3⟩
          ·rw [if_pos (by rw [← hcl]; omega),show i * o.es + j' - (i * o.es + j) = j' - j by omega]
           have hlt : j' - j < vv.cells.size:=by rw [← hcl]; omega
           refine ⟨vv.cells[j' - j],by rw [Array.getElem?_toList]; exact Array.getElem?_eq_getElem hlt,hcr _ u _ h3 (Array.getElem?_eq_getElem hlt)⟩
          ·rw [if_neg (by rw [← hcl]; omega)]
           exact ha.cells _ _ u (zay hr h3)
         ·rename_i hii
          have hj' : j' < o.es:=hrow r' h1 (List.getElem?_eq_some_iff.1 h2).1
          rw [if_neg]
          ·exact ha.cells _ _ u (zay h1 h2)
          ·intro hcon
           rw [← hcl] at hcon
           rcases Nat.lt_or_gt_of_ne hii with hlt | hgt
           ·have : (i + 1) * o.es ≤ i' * o.es:=Nat.mul_le_mul_right _ hlt
            rw [Nat.add_mul] at this; omega
           ·have : (i' + 1) * o.es ≤ i * o.es:=Nat.mul_le_mul_right _ hgt
            rw [Nat.add_mul] at this; omega
        ·intro i' j' u hu hut
         obtain ⟨r',h1,h2⟩:=zan hu
         have hrow : ∀ r0,o.elems[i']? = some r0 → j' < r0.length → j' < o.es:=fun r0 h0 hlt=>by rw [← hob.rows r0 (List.mem_of_getElem? h0)]; exact hlt
         rw [k6]
         simp only [Nat.add_zero,Array.length_toList,ha.es]
         rw [List.getElem?_set] at h1
         split at h1
         ·rename_i hii
          subst hii
          cases h1
          rcases zdq hc3 h2 with ⟨q1,q2,h3⟩ | ⟨q1,h3⟩
          ·rw [zb5 hc2 _ u h3] at hut; cases hut
          ·rw [if_neg (by rw [← hcl]; omega)]
           exact ⟨zay hr h3,rfl⟩
         ·rename_i hii
          have hj' : j' < o.es:=hrow r' h1 (List.getElem?_eq_some_iff.1 h2).1
          rw [if_neg]
          ·exact ⟨zay h1 h2,rfl⟩
          ·intro hcon
           rw [← hcl] at hcon
           rcases Nat.lt_or_gt_of_ne hii with hlt | hgt
           ·have : (i + 1) * o.es ≤ i' * o.es:=Nat.mul_le_mul_right _ hlt
            rw [Nat.add_mul] at this; omega
           ·have : (i' + 1) * o.es ≤ i * o.es:=Nat.mul_le_mul_right _ hgt
            rw [Nat.add_mul] at this; omega
     ·cases h
    ·cases h
   ·cases h
  ·cases h
 ·cases h
end
section
variable {P : Program} {T : TypeId → Option TI}
theorem zcG (g : Nat → Option AObj) (n : Nat) (o : AObj) : zas g [(n,o)] = upd g n (some o):=rfl
theorem zcC {nm : Nat} {o : AObj} {v : V} {rd : List Nat} {g : Nat → Option AObj} {e : Eff} (h : fresh nm o v rd g = some e) : g nm = none ∧ e.v = v ∧ e.wr = [(nm,o)]:=by
 unfold fresh at h
 split at h
 ·cases h; exact ⟨by assumption,rfl,rfl⟩
 ·cases h
theorem zdH {cs : List V} {n : Nat} (h : flOf cs = n) {j : Nat} {u : V} (hu : cs[j]? = some u) : (n ≠ 0 → u.closed = true) ∧ (2 ≤ n → u.scalar = true) :=
 ⟨fun hn=>V.closedAll_get (zjD h hn) j u hu,fun hn=>V.scalarAll_get (zjE (by omega)).2 j u hu⟩
theorem zdX {cs : List V} {i j : Nat} {u : V} (h : zah [cs] i j = some u) : i = 0 ∧ cs[j]? = some u:=by
 obtain ⟨e,he,hu⟩:=zan h
 cases i with
 | zero=>simp at he; subst he; exact ⟨rfl,hu⟩
 | succ i=>simp at he
theorem zhY {w0 w : World} {ex I γ g} (hi : Inv w0 ex I γ g w) {nm : Nat} (hn : g nm = none) (t : TypeId) (x : Value) (cs : List V) (hl : cs.length = x.cells.size) (hc : zaV cs = true)
 (hr : ∀ (j : Nat) (u : V) (y : Value),cs[j]? = some u → x.cells[j]? = some y → Rd w I γ u y) :
 ∃ a w' γ',(newVar t x).run P w = .ok a w' ∧ Rd w' I γ' (.ptr nm 0 0) (.pointer (some a)) ∧ Inv w0 ex I γ' (upd g nm (some ⟨t,cs.length,[cs],true,flOf cs,.rw⟩)) w' ∧ Ext I γ w I γ' w':=by
 have hA:=hi.alloc (w':=w.alloc (.cells x.cells t)) hn (cur:=x.cells) (fr:=(0,0)) (o:=⟨t,cs.length,[cs],true,flOf cs,.rw⟩) (cap:=1) rfl ⟨rfl,rfl,rfl⟩ (.inl (Nat.le_refl _)) (by simp [hl]) (by simp) (fun _=>rfl) (by simp [maxLen])
  (by simp) (fun i j u hu=>zbm hc j u (zdX hu).2) (fun hf i j u hu=>(zdH rfl (zdX hu).2).1 hf) (fun hf i j u hu=>(zdH rfl (zdX hu).2).2 hf)
  (fun i j u hu=>by
   obtain ⟨rfl,hu⟩:=zdX hu
   have hlt : j < x.cells.size:=by rw [← hl]; exact (List.getElem?_eq_some_iff.1 hu).1
   exact ⟨x.cells[j],by simp,hr j u _ hu (Array.getElem?_eq_getElem hlt)⟩) rfl (fun i j u hu=>zb5 hc j u (zdX hu).2)
 refine ⟨_,_,_,rfl,?_,hA.1,hA.2⟩
 have:=Rd.ptr (w:=w.alloc (.cells x.cells t)) (I:=I) (gUp γ nm ⟨w.heap.size,1,cs.length,false⟩) nm 0 0 ⟨w.heap.size,1,cs.length,false⟩ (by simp [gUp]) rfl
 rw [Nat.zero_mul] at this
 exact this
theorem zdr {w : World} {I γ} {ti : TI} {z : Value} (h : z.cells.toList.map ofCell = ti.zero) {j : Nat} {u : V} {y : Value} (hu : ti.zero[j]? = some u) (hy : z.cells[j]? = some y) : Rd w I γ u y:=by
 rw [← h,List.getElem?_map,Array.getElem?_toList,hy] at hu
 simp at hu
 subst hu
 exact Rd.ofCell w I γ y
theorem zox (hT : zaJ P T) {w0 w : World} {ex I γ g} (hi : Inv w0 ex I γ g w) {nm : Nat} {t : TypeId} {l c : V} {vl vc : Value} {e : Eff} (hl : Rd w I γ l vl) (hc : Rd w I γ c vc) (h : aMake T g nm t l c = some e) :
 ∃ r w' γ',(Instr.makeSlice t vl vc).run P w = .ok r w' ∧ Rd w' I γ' e.v r ∧ Inv w0 ex I γ' (zas g e.wr) w' ∧ Ext I γ w I γ' w':=by
 unfold aMake at h
 split at h
 ·rename_i el kl l kc c hd
  cases hl; cases hc
  split at h
  ·rename_i ei hei
   split at h
   ·rename_i hcond
    obtain ⟨c1,c2,c3,c4,c5⟩:=hcond
    obtain ⟨hn,hv,hwr⟩:=zcC h
    obtain ⟨i,z,hinfo,hsz,hby,hz,hzs,hzc⟩:=(hT el ei hei).info
    obtain ⟨ti,ht1,ht2⟩:=zbb hd
    have hu : P.underlying t = some (.slice el):=by rw [← ht2]; exact (hT t ti ht1).under
    have hrun:=run_make (P:=P) w t el i z hu hinfo hz kl kc l c c1 c2 (by rw [hby]; omega) (by omega)
    have hzl : ei.zero.length = ei.size:=by rw [← hzc]; simp [hzs]
    have hcell : ∀ i' j u,zah (List.replicate l.toNat ei.zero) i' j = some u → ei.zero[j]? = some u ∧ i' < l.toNat ∧ j < ei.size:=by
     intro i' j u hu
     obtain ⟨r,h1,h2⟩:=zan hu
     rw [List.getElem?_replicate] at h1
     split at h1
     ·cases h1; exact ⟨h2,by assumption,by rw [← hzl]; exact (List.getElem?_eq_some_iff.1 h2).1⟩
     ·cases h1
    have hA:=hi.alloc (w':=w.alloc (.cells (madeCells z.cells (c.toNat * i.size)) el)) hn (cur:=madeCells z.cells (c.toNat * i.size)) (fr:=(0,0))
     (o:=⟨el,ei.size,List.replicate l.toNat ei.zero,decide (l = c),flOf ei.zero,.rw⟩) (cap:=c.toNat) rfl ⟨rfl,rfl,rfl⟩ (.inl (Nat.le_refl _)) (by rw [size_madeCells,hsz]) (by simp; omega)
     (fun h=>by simp at h; simp [h]) (by simp [maxLen]; omega) (fun r hr=>by rw [List.eq_of_mem_replicate hr,hzl]) (fun i' j u hu=>zbm c5 j u (hcell i' j u hu).1)
     (fun hf i' j u hu=>(zdH rfl (hcell i' j u hu).1).1 hf) (fun hf i' j u hu=>(zdH rfl (hcell i' j u hu).1).2 hf)
     (fun i' j u hu=>by
      obtain ⟨q1,q2,q3⟩:=hcell i' j u hu
      have hlt : j < z.cells.size:=by rw [hzs]; exact q3
      have hidx : i' * ei.size + j < c.toNat * i.size:=by
       rw [hsz]
       have : (i' + 1) * ei.size ≤ c.toNat * ei.size:=Nat.mul_le_mul_right _ (by omega)
       rw [Nat.add_mul] at this; omega
      refine ⟨z.cells[j],?_,zdr hzc q1 (Array.getElem?_eq_getElem hlt)⟩
      have hmod : (i' * ei.size + j) % z.cells.size = j:=by rw [hzs,Nat.mul_comm,Nat.mul_add_mod,Nat.mod_eq_of_lt q3]
      simp only [madeCells,Array.getElem?_map,Array.getElem?_range,hidx,if_true,Option.map_some,hmod]
      simp [hlt]) rfl (fun i' j u hu=>zb5 c5 j u (hcell i' j u hu).1)
    rw [hwr,zcG,hv]
    refine ⟨_,_,_,hrun,?_,hA.1,hA.2⟩
    refine .own _ _ _ _ _ _ ⟨w.heap.size,c.toNat,ei.size,false⟩ (by simp [gUp]) rfl (by simp) (by omega) (by simp [maxLen]; omega) (fun _=>by simp)
   ·cases h
  ·cases h
 ·cases h
structure Src (P : Program) (w : World) (I : Nat → Prop) (γ : Nat → Option GI) (size : Nat) (tx : TypeId) (x : Value) (src : List (List V)) (fl : Nat) : Prop where
 noInt : ∃ d,P.underlying tx = some d ∧ (∀ k,d ≠ .int k)
 len : ∀ w',(Builtin.lenOf x).run P w' = .ok src.length w'
 rows : ∀ r ∈ src,r.length = size
 cel : ∀ i j u,zah src i j = some u → u.cellular = true
 closed : fl ≠ 0 → ∀ i j u,zah src i j = some u → u.closed = true
 scalar : 2 ≤ fl → ∀ i j u,zah src i j = some u → u.scalar = true
 cells : ∃ arr : Array Value,arr.size = src.length * size ∧ (∀ w',w'.heap = w.heap → (Builtin.firstCells size src.length x).run P w' = .ok arr w') ∧ (∀ i j u,zah src i j = some u → ∃ y,arr[i * size + j]? = some y ∧ Rd w I γ u y)
theorem zee {rows : List (List V)} {size k : Nat} (hr : ∀ r ∈ rows,r.length = size) (hk : k < rows.length * size) : ∃ u,zah rows (k / size) (k % size) = some u ∧ k / size * size + k % size = k:=by
 have hs : 0 < size:=by
  rcases Nat.eq_zero_or_pos size with h | h
  ·subst h; omega
  ·exact h
 have h1 : k / size < rows.length:=(Nat.div_lt_iff_lt_mul hs).2 hk
 have h2 : k % size < rows[k / size].length:=by rw [hr _ (List.getElem_mem h1)]; exact Nat.mod_lt _ hs
 exact ⟨_,zay (List.getElem?_eq_getElem h1) (List.getElem?_eq_getElem h2),by rw [Nat.mul_comm]; exact Nat.div_add_mod k size⟩
theorem Src.ofSlice {w : World} {I γ} {size : Nat} {tx e' : TypeId} {src : List (List V)} {fl : Nat} (hk : P.underlying tx = some (.slice e')) (A : Option Addr) (n c : Nat) (hlen : src.length = n) (hrows : ∀ r ∈ src,r.length = size)
 (hcel : ∀ i j u,zah src i j = some u → u.cellular = true) (hcl : fl ≠ 0 → ∀ i j u,zah src i j = some u → u.closed = true) (hsc : 2 ≤ fl → ∀ i j u,zah src i j = some u → u.scalar = true)
 (hcells : ∀ i j u,zah src i j = some u → ∃ a y,A = some a ∧ w.cell? (a.add (i * size + j)) = some y ∧ Rd w I γ u y) : Src P w I γ size tx (.slice A n c) src fl:=by
 refine ⟨⟨_,hk,fun k h=>by cases h⟩,fun w'=>by rw [hlen]; rfl,hrows,hcel,hcl,hsc,?_⟩
 cases A with
 | none =>
  have h0 : src.length * size = 0:=by
   rcases Nat.eq_zero_or_pos (src.length * size) with h | h
   ·exact h
   ·obtain ⟨u,hu,_⟩:=zee hrows h
    obtain ⟨a,y,h1,_⟩:=hcells _ _ _ hu
    cases h1
  exact ⟨#[],by rw [h0]; rfl,fun w' _=>rfl,fun i j u hu=>by
   obtain ⟨a,y,h1,_⟩:=hcells _ _ _ hu
   cases h1⟩
 | some a =>
  have hcell : ∀ k,k < src.length * size → ∃ y,w.cell? (a.add k) = some y:=by
   intro k hk
   obtain ⟨u,hu,he⟩:=zee hrows hk
   obtain ⟨a',y,h1,h2,_⟩:=hcells _ _ _ hu
   cases h1
   rw [he] at h2
   exact ⟨y,h2⟩
  refine ⟨((List.range (src.length * size)).map fun k=>(w.cell? (a.add k)).getD undef).toArray,by simp,fun w' hh=>?_,fun i j u hu=>?_⟩
  ·show (loadCells a (src.length * size)).run P w' = _
   refine run_loadCells (P:=P) w' a _ _ fun k hk=>?_
   obtain ⟨y,hy⟩:=hcell k hk
   rw [World.cell?_of_block (w:=w) (by rw [hh]),hy]; rfl
  ·obtain ⟨a',y,h1,h2,h3⟩:=hcells _ _ _ hu
   cases h1
   refine ⟨y,?_,h3⟩
   obtain ⟨r,hr1,hr2⟩:=zan hu
   have hlt1:=(List.getElem?_eq_some_iff.1 hr1).1
   have hlt2 : j < size:=by rw [← hrows r (List.mem_of_getElem? hr1)]; exact (List.getElem?_eq_some_iff.1 hr2).1
   have hlt : i * size + j < src.length * size:=by
    have : (i + 1) * size ≤ src.length * size:=Nat.mul_le_mul_right _ hlt1
    rw [Nat.add_mul] at this; omega
   simp [hlt,h2]
theorem zbT {l : List UInt8} {i j : Nat} {u : V} (h : zah (zae l) i j = some u) : ∃ b,l[i]? = some b ∧ j = 0 ∧ u = .int .u8 b.toNat:=by
 obtain ⟨r,h1,h2⟩:=zan h
 unfold zae at h1
 rw [List.getElem?_map] at h1
 cases hb : l[i]? with
 | none=>rw [hb] at h1; cases h1
 | some b =>
  rw [hb] at h1
  simp at h1
  subst h1
  cases j with
  | zero=>simp at h2; exact ⟨b,rfl,rfl,h2.symm⟩
  | succ j=>simp at h2
theorem Src.ofString {w : World} {I γ} {tx : TypeId} (hk : P.underlying tx = some .string) (s : ByteArray) : Src P w I γ 1 tx (.string s) (zae s.data.toList) 2:=by
 refine ⟨⟨_,hk,fun k h=>by cases h⟩,fun w'=>by show Result.ok s.size w' = _; simp [zae],fun r hr=>?_,fun i j u hu=>?_,fun _ i j u hu=>?_,fun _ i j u hu=>?_,?_⟩
 ·unfold zae at hr
  obtain ⟨b,_,rfl⟩:=List.mem_map.1 hr
  rfl
 ·obtain ⟨b,_,_,rfl⟩:=zbT hu; rfl
 ·obtain ⟨b,_,_,rfl⟩:=zbT hu; rfl
 ·obtain ⟨b,_,_,rfl⟩:=zbT hu; rfl
 ·refine ⟨s.data.map fun b=>.int .u8 b.toNat,by simp [zae],fun w' _=>?_,fun i j u hu=>?_⟩
  ·show (pure ((s.extract 0 (zae s.data.toList).length).data.map fun b=>.int .u8 b.toNat) : Sem (Array Value)).run P w' = _
   have : (zae s.data.toList).length = s.size:=by simp [zae]
   rw [this]
   have : s.extract 0 s.size = s:=by simp
   rw [this]; rfl
  ·obtain ⟨b,hb,rfl,rfl⟩:=zbT hu
   refine ⟨.int .u8 b.toNat,?_,.int _ _ _⟩
   rw [Array.getElem?_toList] at hb
   simp [hb]
theorem zfR {w : World} {I γ} {t tx ty e : TypeId} {i : TypeInfo} {size : Nat} (ht : P.underlying t = some (.slice e)) (hi : P.info? e = some i) (hs : i.size = size) {A : Option Addr} {n c : Nat} {x : Value} {src : List (List V)} {fl : Nat} (hx : Src P w I γ size tx x src fl)
 (hroom : n + src.length ≤ c) {arr : Array Value} (ha : (Builtin.firstCells size src.length x).run P w = .ok arr w) :
 (Builtin.append_ #[t,tx] ty #[.slice A n c,x]).run P w = ((match A with | some a=>storeCells (a.add (n * size)) arr.toList | none=>pure ()).run P w).andThen fun _ w'=>.ok (.slice A (n + src.length) c) w':=by
 obtain ⟨d,hd,hni⟩:=hx.noInt
 have hz : (match d with | .int _=>true | _=>false) = false:=by cases d <;> first | rfl | exact absurd rfl (hni _)
 unfold Builtin.append_
 simp only [List.getElem?_toArray,List.getElem?_cons_zero,List.getElem?_cons_succ,Sem.run_bind,run_underlying ht,run_underlying hd,Result.andThen_ok,sizeOf,typeInfo,run_program,hi,Sem.run_pure,hs]
 simp only [Bool.false_eq_true,if_false,hroom,if_true,Sem.run_bind,hx.len w,Result.andThen_ok,Bool.not_false,ha]
 cases A <;> simp
theorem zkg {w : World} {I γ} {t tx ty e : TypeId} {i : TypeInfo} {z : Value} {size : Nat} (ht : P.underlying t = some (.slice e)) (hi : P.info? e = some i) (hs : i.size = size) (hz : i.zero = some z) {A : Option Addr} {n c : Nat} {x : Value} {src : List (List V)} {fl : Nat} (hx : Src P w I γ size tx x src fl)
 (hroom : c < n + src.length) (hb : (n + src.length) * i.bytes ≤ 140737488355328) (hm : n + src.length ≤ maxLen) {olds arr : Array Value}
 (ho : ∀ w',w'.heap = w.heap → (Builtin.firstCells size n (.slice A n c)).run P w' = .ok olds w') (ha : ∀ w',w'.heap = w.heap → (Builtin.firstCells size src.length x).run P w' = .ok arr w') :
 (Builtin.append_ #[t,tx] ty #[.slice A n c,x]).run P w = .ok (.slice (some ⟨w.heap.size,0,none⟩) (n + src.length) (grownCap w (n + src.length) c e))
  (w.drew.alloc (.cells (olds ++ arr ++ Builtin.zeroCells z.cells (grownCap w (n + src.length) c e - (n + src.length))) e)):=by
 obtain ⟨d,hd,hni⟩:=hx.noInt
 have hzz : (match d with | .int _=>true | _=>false) = false:=by cases d <;> first | rfl | exact absurd rfl (hni _)
 have h63 : ¬ (9223372036854775807 < ((n : Int) + (src.length : Int))):=by simp only [maxLen] at hm; omega
 have h48 : ¬ (281474976710656 < Builtin.nextslicecap (n + src.length) c * i.bytes):=by have:=growslice_fits hroom hb; omega
 have hno : ¬ (n + src.length ≤ c):=by omega
 have ho':=ho w.drew rfl
 have ha':=ha w.drew rfl
 unfold Builtin.append_
 simp only [List.getElem?_toArray,List.getElem?_cons_zero,List.getElem?_cons_succ,Sem.run_bind,run_underlying ht,run_underlying hd,Result.andThen_ok,sizeOf,typeInfo,run_program,hi,Sem.run_pure,hs]
 simp [hno,h63,h48,Question.forced,hx.len w,ho',ha',zeroValue,typeInfo,hi,hz,newRow,grownCap]
theorem zie {w : World} {t tx ty e : TypeId} {i : TypeInfo} {z : Value} (ht : P.underlying t = some (.slice e)) (htx : P.underlying tx = some (.int .i64)) (hi : P.info? e = some i) (hz : i.zero = some z) {n : Int}
 (h0 : 0 < n) (hn : n ≤ 140737488355328) (hb : n * i.bytes ≤ 140737488355328) :
 (Builtin.append_ #[t,tx] ty #[.slice none 0 0,.int .i64 n]).run P w = .ok (.slice (some ⟨w.heap.size,0,none⟩) n.toNat (grownCap w n.toNat 0 e))
  (w.drew.alloc (.cells ((if n.toNat * i.size = 0 then #[] else Builtin.zeroCells z.cells n.toNat) ++ Builtin.zeroCells z.cells (grownCap w n.toNat 0 e - n.toNat)) e)):=by
 obtain ⟨m,rfl⟩ : ∃ m : Nat,n = m:=⟨n.toNat,by omega⟩
 have hw : IntKind.i64.wrap (m : Int) = m:=by simp [IntKind.wrap,IntKind.bits,IntKind.signed]; omega
 have hm : (0 : Nat) < m:=by omega
 have h1 : ¬ ((m : Int) < 0):=by omega
 have h2 : ¬ (281474976710656 < (m : Int) * i.bytes):=by omega
 have h63 : ¬ (9223372036854775807 < (m : Int)):=by omega
 have hmb : m * i.bytes ≤ 140737488355328:=by
  have : ((m * i.bytes : Nat) : Int) ≤ 140737488355328:=by rw [Int.natCast_mul]; exact hb
  omega
 have h48 : ¬ (281474976710656 < Builtin.nextslicecap m 0 * i.bytes):=by
  have : Builtin.nextslicecap m 0 = m:=by unfold Builtin.nextslicecap; rw [if_pos (by omega)]
  rw [this]; omega
 have hno : ¬ (m ≤ 0):=by omega
 have hai : ∀ w' : World,(asIntOf (.int .i64 (m : Int))).run P w' = .ok (.i64,(m : Int)) w':=fun _=>rfl
 have h63' : ¬ (9223372036854775807 < max (m : Int) 0):=by omega
 have hmx : max (m : Int) 0 = (m : Int):=by omega
 unfold Builtin.append_
 simp only [List.getElem?_toArray,List.getElem?_cons_zero,List.getElem?_cons_succ,Sem.run_bind,run_underlying ht,run_underlying htx,Result.andThen_ok,sizeOf,typeInfo,run_program,hi,Sem.run_pure]
 by_cases hs : m * i.size = 0
 ·simp [asInt,hai,hw,h1,h2,h63,h48,hmx,hs,Question.forced,Builtin.firstCells,zeroValue,typeInfo,hi,hz,newRow,grownCap]
  omega
 ·simp [asInt,hai,hw,h1,h2,h63,h48,hmx,hs,Question.forced,Builtin.firstCells,zeroValue,typeInfo,hi,hz,newRow,grownCap]
  omega
theorem zm4 (hT : zaJ P T) {w0 w : World} {ex I γ g} (hi : Inv w0 ex I γ g w) {nm : Nat} {t tx ty e : TypeId} (ht : P.underlying t = some (.slice e)) (htx : P.underlying tx = some (.int .i64)) {n : Int} {eff : Eff} (h : zm3 T g nm e n = some eff) :
 ∃ r w' γ',(Builtin.append_ #[t,tx] ty #[.slice none 0 0,.int .i64 n]).run P w = .ok r w' ∧ Rd w' I γ' eff.v r ∧ Inv w0 ex I γ' (zas g eff.wr) w' ∧ Ext I γ w I γ' w':=by
 unfold zm3 at h
 split at h
 ·rename_i ei hei
  split at h
  ·rename_i hc
   obtain ⟨c1,c2,c3,c4⟩:=hc
   obtain ⟨hn,hv,hwr⟩:=zcC h
   obtain ⟨i,z,hinfo,hsz,hby,hz,hzs,hzc⟩:=(hT e ei hei).info
   have hrun:=zie (P:=P) (w:=w) (ty:=ty) ht htx hinfo hz c1 c2 (by rw [hby]; exact c3)
   have hzl : ei.zero.length = ei.size:=by rw [← hzc]; simp [hzs]
   have hge:=grownCap_ge w n.toNat 0 e
   have hcm:=grownCap_le_maxLen w n.toNat 0 e (by simp [maxLen]; omega)
   have hcell : ∀ i' j u,zah (List.replicate n.toNat ei.zero) i' j = some u → ei.zero[j]? = some u ∧ i' < n.toNat ∧ j < ei.size:=by
    intro i' j u hu
    obtain ⟨r,h1,h2⟩:=zan hu
    rw [List.getElem?_replicate] at h1
    split at h1
    ·cases h1; exact ⟨h2,by assumption,by rw [← hzl]; exact (List.getElem?_eq_some_iff.1 h2).1⟩
    ·cases h1
   have hsz1 : (if n.toNat * i.size = 0 then #[] else Builtin.zeroCells z.cells n.toNat).size = n.toNat * ei.size:=by
    rw [hsz]
    split
    ·rename_i h0; rw [h0]; rfl
    ·rw [size_zeroCells,hzs]
   have hA:=hi.alloc (w':=w.drew.alloc (.cells ((if n.toNat * i.size = 0 then #[] else Builtin.zeroCells z.cells n.toNat) ++ Builtin.zeroCells z.cells (grownCap w n.toNat 0 e - n.toNat)) e)) hn
    (cur:=(if n.toNat * i.size = 0 then #[] else Builtin.zeroCells z.cells n.toNat) ++ Builtin.zeroCells z.cells (grownCap w n.toNat 0 e - n.toNat)) (fr:=(0,0))
    (o:=⟨e,ei.size,List.replicate n.toNat ei.zero,false,flOf ei.zero,.rw⟩) (cap:=grownCap w n.toNat 0 e) rfl ⟨rfl,rfl,rfl⟩ (.inl (Nat.le_refl _)) (by rw [Array.size_append,hsz1,size_zeroCells,hzs,← Nat.add_mul]; congr 1; omega) (by simpa using hge)
    (fun h=>by cases h) hcm (fun r hr=>by rw [List.eq_of_mem_replicate hr,hzl]) (fun i' j u hu=>zbm c4 j u (hcell i' j u hu).1)
    (fun hf i' j u hu=>(zdH rfl (hcell i' j u hu).1).1 hf) (fun hf i' j u hu=>(zdH rfl (hcell i' j u hu).1).2 hf)
    (fun i' j u hu=>by
     obtain ⟨q1,q2,q3⟩:=hcell i' j u hu
     have hlt : j < z.cells.size:=by rw [hzs]; exact q3
     have hidx : i' * ei.size + j < n.toNat * ei.size:=by
      have : (i' + 1) * ei.size ≤ n.toNat * ei.size:=Nat.mul_le_mul_right _ (by omega)
      rw [Nat.add_mul] at this; omega
     refine ⟨z.cells[j],?_,zdr hzc q1 (Array.getElem?_eq_getElem hlt)⟩
     have hmod : (i' * ei.size + j) % z.cells.size = j:=by rw [hzs,Nat.mul_comm,Nat.mul_add_mod,Nat.mod_eq_of_lt q3]
     rw [Array.getElem?_append_left (by rw [hsz1]; exact hidx),if_neg (by rw [hsz]; omega)]
     have hidx' : i' * ei.size + j < n.toNat * z.cells.size:=by rw [hzs]; exact hidx
     simp only [Builtin.zeroCells,Array.getElem?_map,Array.getElem?_range,hidx',if_true,Option.map_some,hmod]
     simp [hlt]) rfl (fun i' j u hu=>zb5 c4 j u (hcell i' j u hu).1)
   rw [hwr,zcG,hv]
   refine ⟨_,_,_,hrun,?_,hA.1,hA.2⟩
   refine .own _ _ _ _ _ _ ⟨w.heap.size,grownCap w n.toNat 0 e,ei.size,false⟩ (by simp [gUp]) rfl (by simp) hge hcm (fun _=>by simp)
  ·cases h
 ·cases h
end
section
variable {P : Program} {T : TypeId → Option TI}
theorem za4 {a b : List (List V)} {i j : Nat} {u : V} (h : zah (a ++ b) i j = some u) : (i < a.length ∧ zah a i j = some u) ∨ (a.length ≤ i ∧ zah b (i - a.length) j = some u):=by
 obtain ⟨r,h1,h2⟩:=zan h
 by_cases hlt : i < a.length
 ·rw [List.getElem?_append_left hlt] at h1; exact .inl ⟨hlt,zay h1 h2⟩
 ·rw [List.getElem?_append_right (by omega)] at h1; exact .inr ⟨by omega,zay h1 h2⟩
theorem zcK {rows : List (List V)} {size i j : Nat} {u : V} (hr : ∀ r ∈ rows,r.length = size) (h : zah rows i j = some u) : i < rows.length ∧ j < size:=by
 obtain ⟨r,h1,h2⟩:=zan h
 exact ⟨(List.getElem?_eq_some_iff.1 h1).1,by rw [← hr r (List.mem_of_getElem? h1)]; exact (List.getElem?_eq_some_iff.1 h2).1⟩
theorem zf8 (hT : zaJ P T) {w0 w : World} {ex I γ g} (hi : Inv w0 ex I γ g w) {nm : Nat} (hn : g nm = none) {t tx ty e : TypeId} {ei : TI} (ht : P.underlying t = some (.slice e)) (hei : T e = some ei) {A : Option Addr} {c : Nat} {vy : Value} {olds src : List (List V)} {ofl sfl : Nat}
 (hx : Src P w I γ ei.size tx vy src sfl) (hroom : c < olds.length + src.length) (hb : ((olds.length + src.length : Nat) : Int) * ei.bytes ≤ 140737488355328) (hm : olds.length + src.length ≤ maxLen)
 (orows : ∀ r ∈ olds,r.length = ei.size) (ocel : ∀ i j u,zah olds i j = some u → u.cellular = true) (ocl : ofl ≠ 0 → ∀ i j u,zah olds i j = some u → u.closed = true) (osc : 2 ≤ ofl → ∀ i j u,zah olds i j = some u → u.scalar = true)
 {oarr : Array Value} (osz : oarr.size = olds.length * ei.size) (orun : ∀ w',w'.heap = w.heap → (Builtin.firstCells ei.size olds.length (.slice A olds.length c)).run P w' = .ok oarr w')
 (ocells : ∀ i j u,zah olds i j = some u → ∃ y,oarr[i * ei.size + j]? = some y ∧ Rd w I γ u y) (ont : ∀ i j u,zah olds i j = some u → u.isTree = false) (snt : ∀ i j u,zah src i j = some u → u.isTree = false) :
 ∃ r w' γ',(Builtin.append_ #[t,tx] ty #[.slice A olds.length c,vy]).run P w = .ok r w' ∧ Rd w' I γ' (.own nm 0 (olds.length + src.length)) r ∧
  Inv w0 ex I γ' (upd g nm (some ⟨e,ei.size,olds ++ src,false,min ofl sfl,.rw⟩)) w' ∧ Ext I γ w I γ' w':=by
 obtain ⟨i,z,hinfo,hsz,hby,hz,hzs,hzc⟩:=(hT e ei hei).info
 obtain ⟨arr,a1,a2,a3⟩:=hx.cells
 have hb' : (olds.length + src.length) * i.bytes ≤ 140737488355328:=by
  rw [hby]
  have : (((olds.length + src.length) * ei.bytes : Nat) : Int) ≤ 140737488355328:=by rw [Int.natCast_mul]; exact hb
  omega
 have hrun:=zkg (ty:=ty) ht hinfo hsz hz hx hroom hb' hm orun a2
 have hge:=grownCap_ge w (olds.length + src.length) c e
 have hcm:=grownCap_le_maxLen w (olds.length + src.length) c e hm
 have hA:=hi.alloc (w':=w.drew.alloc (.cells (oarr ++ arr ++ Builtin.zeroCells z.cells (grownCap w (olds.length + src.length) c e - (olds.length + src.length))) e)) hn
  (cur:=oarr ++ arr ++ Builtin.zeroCells z.cells (grownCap w (olds.length + src.length) c e - (olds.length + src.length))) (fr:=(0,0)) (o:=⟨e,ei.size,olds ++ src,false,min ofl sfl,.rw⟩) (cap:=grownCap w (olds.length + src.length) c e)
  rfl ⟨rfl,rfl,rfl⟩ (.inl (Nat.le_refl _)) (by simp only [Array.size_append,size_zeroCells,osz,a1,hzs,← Nat.add_mul]; congr 1; omega) (by simpa using hge) (fun h=>by cases h) hcm
  (fun r hr=>(List.mem_append.1 hr).elim (orows r) (hx.rows r))
  (fun i j u hu=>(za4 hu).elim (fun h=>ocel _ _ u h.2) (fun h=>hx.cel _ _ u h.2))
  (fun hf i j u hu=>by
   have hf' : min ofl sfl ≠ 0:=hf
   exact (za4 hu).elim (fun h=>ocl (by omega) _ _ u h.2) (fun h=>hx.closed (by omega) _ _ u h.2))
  (fun hf i j u hu=>by
   have hf' : 2 ≤ min ofl sfl:=hf
   exact (za4 hu).elim (fun h=>osc (by omega) _ _ u h.2) (fun h=>hx.scalar (by omega) _ _ u h.2))
  (fun i j u hu=>by
   rcases za4 hu with ⟨h0,h⟩ | ⟨h0,h⟩
   ·obtain ⟨y,y1,y2⟩:=ocells _ _ _ h
    refine ⟨y,?_,y2⟩
    have hlt : i * ei.size + j < oarr.size:=by
     have:=(Array.getElem?_eq_some_iff.1 y1).1; exact this
    rw [Array.append_assoc,Array.getElem?_append_left hlt]; exact y1
   ·obtain ⟨y,y1,y2⟩:=a3 _ _ _ h
    refine ⟨y,?_,y2⟩
    have e1 : i * ei.size + j = oarr.size + ((i - olds.length) * ei.size + j):=by
     rw [osz,← Nat.add_assoc,← Nat.add_mul]; congr 2; omega
    have hlt:=(Array.getElem?_eq_some_iff.1 y1).1
    rw [Array.append_assoc,e1,Array.getElem?_append_right (by omega),Nat.add_sub_cancel_left,Array.getElem?_append_left hlt]; exact y1) rfl
  (fun i j u hu=>(za4 hu).elim (fun h=>ont _ _ u h.2) (fun h=>snt _ _ u h.2))
 refine ⟨_,_,_,hrun,?_,hA.1,hA.2⟩
 exact .own _ _ _ _ _ _ ⟨w.heap.size,grownCap w (olds.length + src.length) c e,ei.size,false⟩ (by simp [gUp]) rfl (by simp) hge hcm (fun _=>by simp)
theorem ze2 {w : World} {I γ} {t tx ty e : TypeId} {ei : TI} (hT : zaJ P T) (ht : P.underlying t = some (.slice e)) (hei : T e = some ei) {A : Option Addr} {n c : Nat} {x : Value} {fl : Nat} (hx : Src P w I γ ei.size tx x [] fl) (hc : n ≤ c) :
 (Builtin.append_ #[t,tx] ty #[.slice A n c,x]).run P w = .ok (.slice A n c) w:=by
 obtain ⟨i,z,hinfo,hsz,hby,hz,hzs,hzc⟩:=(hT e ei hei).info
 obtain ⟨arr,a1,a2,a3⟩:=hx.cells
 have h0 : arr = #[]:=by apply Array.eq_empty_of_size_eq_zero; rw [a1]; simp
 rw [zfR ht hinfo hsz hx (by simpa using hc) (a2 w rfl),h0]
 cases A <;> rfl
theorem Inv.cut {w0 w : World} {ex I γ g} (hi : Inv w0 ex I γ g w) {m : Nat} {o : AObj} (hg : g m = some o) (n : Nat) : Inv w0 ex I γ (upd g m (some (cutO n o))) w:=by
 have hct : ∀ {i j u},zah (o.elems.take n) i j = some u → zah o.elems i j = some u:=by
  intro i j u h
  have:=zaO (l:=0) (es:=o.elems) (n:=n) (i:=i) (j:=j) (u:=u) (by simpa using h)
  simpa using this
 have hmd : (cutO n o).md = o.md:=by unfold cutO; split <;> rfl
 have hok : ObjOk w I γ m o → ObjOk w I γ m (cutO n o):=by
  intro h
  unfold cutO
  split
  ·rename_i hlt
   refine ⟨fun e he=>h.rows e (List.mem_of_mem_take he),fun i j u hu=>h.cel _ _ _ (hct hu),fun hf i j u hu=>h.closed hf _ _ _ (hct hu),fun hf i j u hu=>h.scalar hf _ _ _ (hct hu),?_⟩
   rcases h.at_ with ⟨he,_⟩ | ⟨gi,cur,fr,hγ,ha⟩
   ·rw [he] at hlt; simp at hlt
   ·exact .inr ⟨gi,cur,fr,hγ,ha.nn,ha.es,ha.heap,ha.frz,ha.size,by simp only [List.length_take]; have:=ha.le; omega,(fun h=>by cases h),ha.max,fun i j u hu=>ha.cells _ _ _ (hct hu),ha.ro,ha.rw⟩
  ·exact h
 have hup : ∀ x y,upd g m (some (cutO n o)) x = some y → ∃ y0,g x = some y0 ∧ y.md = y0.md:=by
  intro x y h
  by_cases e : x = m
  ·subst e; rw [zaD] at h; cases h; exact ⟨o,hg,hmd⟩
  ·rw [zaz _ _ e] at h; exact ⟨y,h,rfl⟩
 refine ⟨fun x y hx hm=>?_,?_,?_,?_,hi.lt,hi.keep,hi.fix,hi.back,hi.frame,hi.os,hi.tape,hi.output,hi.size,?_⟩
 rotate_right
 ·obtain ⟨F,hF⟩:=hi.trees
  refine ⟨F,hF.less (fun _ h=>h) (fun _ _ _ _ _ _ _ h=>h) (fun x y hx hm=>.inl ?_) (fun x y gi hx hm hγ _=>⟨hγ,?_⟩)⟩
  ·obtain ⟨y0,a1,a2⟩:=hup x y hx
   refine ⟨y0,a1,by rw [← a2]; exact hm,fun i j u hu _=>?_⟩
   by_cases e : x = m
   ·subst e
    rw [zaD] at hx; cases hx
    rw [hg] at a1; cases a1
    unfold cutO at hu
    split at hu
    ·exact hct hu
    ·exact hu
   ·rw [zaz _ _ e,a1] at hx; cases hx; exact hu
  ·obtain ⟨y0,a1,a2⟩:=hup x y hx
   exact ⟨y0,a1,by rw [← a2]; exact hm⟩
 ·by_cases e : x = m
  ·subst e; rw [zaD] at hx; cases hx; exact hok (hi.obj _ _ hg (by rw [hmd] at hm; exact hm))
  ·rw [zaz _ _ e] at hx; exact hi.obj _ _ hx hm
 ·intro a b o1 o2 gi gi' h1 h2 d1 d2
  obtain ⟨p1,a1,a2⟩:=hup a o1 h1
  obtain ⟨p2,b1,b2⟩:=hup b o2 h2
  exact hi.inj a b p1 p2 gi gi' a1 b1 (by rw [← a2]; exact d1) (by rw [← b2]; exact d2)
 ·intro a o1 gi h1 d1
  obtain ⟨p1,a1,a2⟩:=hup a o1 h1
  exact hi.own a p1 gi a1 (by rw [← a2]; exact d1)
 ·intro a gi h1 h2
  by_cases e : a = m
  ·subst e; rw [zaD] at h2; cases h2
  ·rw [zaz _ _ e] at h2; exact hi.dom a gi h1 h2
def zgm (T : TypeId → Option TI) (g : Nat → Option AObj) (nm : Nat) (e : TypeId) (x : V) (src : List (List V)) (sfl : Nat) (rd : List Nat) : Option Eff :=
 match T e with
 | none=>none
 | some ei =>
  if ei.size = 0 then none else
  match x with
  | .sl tg _ []=>if (tg = 0 ∨ tg = 1 ∨ tg = 3) ∧ (src.length : Int) * ei.bytes ≤ 140737488355328 ∧ (src.length : Int) ≤ 140737488355328 ∧ ntOk sfl src = true then fresh nm ⟨e,ei.size,src,false,sfl,.rw⟩ (.own nm 0 src.length) rd g else none
  | .own m off n=>match g m with
   | some o =>
    if o.et ≠ e ∨ o.es ≠ ei.size ∨ o.md ≠ .rw ∨ off ≠ 0 ∨ n ≠ o.elems.length then none else
    if ((n + src.length : Nat) : Int) * ei.bytes ≤ 140737488355328 ∧ ((n + src.length : Nat) : Int) ≤ 140737488355328 ∧ ntOk o.fl o.elems = true ∧ ntOk sfl src = true then
     match g nm with
     | none=>some ⟨.own nm 0 (n + src.length),[(m,kill o),(nm,⟨e,ei.size,o.elems ++ src,false,min o.fl sfl,.rw⟩)],m :: rd⟩
     | some _=>none
    else none
   | none=>none
  | _=>none
theorem zfJ (hT : zaJ P T) {w0 w : World} {ex I γ g} (hi : Inv w0 ex I γ g w) {nm : Nat} {t tx ty e : TypeId} (hd : zao T t = some (.slice e)) {x : V} {vx vy : Value} {src : List (List V)} {sfl : Nat} {rd : List Nat} {eff : Eff}
 (hx : Rd w I γ x vx) (hs : ∀ ei,T e = some ei → Src P w I γ ei.size tx vy src sfl) (h : zgm T g nm e x src sfl rd = some eff) :
 ∃ r w' γ',(Builtin.append_ #[t,tx] ty #[vx,vy]).run P w = .ok r w' ∧ Rd w' I γ' eff.v r ∧ Inv w0 ex I γ' (zas g eff.wr) w' ∧ Ext I γ w I γ' w':=by
 obtain ⟨tti,ht1,ht2⟩:=zbb hd
 have ht : P.underlying t = some (.slice e):=by rw [← ht2]; exact (hT t tti ht1).under
 unfold zgm at h
 split at h
 ·cases h
 ·rename_i ei hei
  have hsrc:=hs ei hei
  split at h
  ·cases h
  ·rename_i hsz0
   split at h
   ·-- a slice that has neither elements nor room
    rename_i tg sz
    split at h
    ·rename_i hc
     obtain ⟨hc1,hc2,hc3,hnt⟩:=hc
     have snt:=zeY hnt hsrc.closed
     obtain ⟨hn,hv,hwr⟩:=zcC h
     have hform : ∃ A,vx = .slice A 0 0:=by
      cases hx with
      | nil=>exact ⟨none,rfl⟩
      | sl _ _ _ _ a n c xs h0 h1 hlen hnc hcm hes hcel hcell hr =>
       have : n = 0:=by simpa using hlen.symm
       subst this
       rcases hc1 with h | h | h
       ·exact absurd h h0
       ·rw [h1 (.inl h)]; exact ⟨_,rfl⟩
       ·rw [h1 (.inr h)]; exact ⟨_,rfl⟩
     obtain ⟨A,rfl⟩:=hform
     rw [hwr,zcG,hv]
     cases hsl : src with
     | nil =>
      subst hsl
      have hp:=hi.phantom hn (o:=⟨e,ei.size,[],false,sfl,.rw⟩) rfl
      exact ⟨_,_,_,ze2 hT ht hei hsrc (Nat.le_refl _),.ownnil _ _ _ _ (by simp [gUp]; rfl) rfl,hp.1,hp.2⟩
     | cons r0 rs =>
      rw [← hsl]
      have hlen : 0 < src.length:=by rw [hsl]; simp
      have:=zf8 (ty:=ty) (c:=0) (A:=A) (olds:=[]) (ofl:=sfl) (oarr:=#[]) hT hi hn ht hei hsrc (by simpa using hlen) (by simpa using hc2) (by simp [maxLen]; omega) (by simp) (by simp [zah]) (by simp [zah]) (by simp [zah]) (by simp)
       (fun w' _=>by cases A <;> simp [Builtin.firstCells,loadCells,loadCellsFrom]) (by simp [zah]) (by simp [zah]) snt
      simpa using this
    ·cases h
   ·-- a slice of an object of the frame
    rename_i m off n
    split at h
    ·rename_i o hg
     split at h
     ·cases h
     ·rename_i hcond
      simp only [not_or,Decidable.not_not] at hcond
      obtain ⟨c1,ces,c2,c3,c4⟩:=hcond
      split at h
      ·rename_i hc
       obtain ⟨hc2,hc3,hnt1,hnt2⟩:=hc
       split at h
       ·rename_i hn
        cases h
        subst c3
        have hmd : o.md ≠ .dead:=by rw [c2]; decide
        have hob:=hi.obj m o hg hmd
        have ont:=zeY hnt1 hob.closed
        have snt:=zeY hnt2 hsrc.closed
        have hne : nm ≠ m:=fun e=>by subst e; rw [hg] at hn; cases hn
        have hset : zas g [(m,kill o),(nm,(⟨e,ei.size,o.elems ++ src,false,min o.fl sfl,.rw⟩ : AObj))] = upd (upd g m (some (kill o))) nm (some ⟨e,ei.size,o.elems ++ src,false,min o.fl sfl,.rw⟩):=rfl
        rw [hset]
        have hk:=hi.kill hg
        have hkn : upd g m (some (kill o)) nm = none:=by rw [zaz _ _ hne]; exact hn
        cases hx with
        | ownnil _ _ A gi hγ hnn =>
         have he : o.elems = []:=List.eq_nil_of_length_eq_zero c4.symm
         cases hsl : src with
         | nil =>
          subst hsl
          have hp:=hk.phantom hkn (o:=⟨e,ei.size,o.elems ++ [],false,min o.fl sfl,.rw⟩) (by simp [he])
          exact ⟨_,_,_,ze2 hT ht hei hsrc (Nat.le_refl _),.ownnil _ _ _ _ (by simp [gUp]; rfl) rfl,hp.1,hp.2⟩
         | cons r0 rs =>
          rw [← hsl]
          have hlen : 0 < src.length:=by rw [hsl]; simp
          have:=zf8 (ty:=ty) (c:=0) (A:=A) (olds:=[]) (ofl:=o.fl) (oarr:=#[]) hT hk hkn ht hei hsrc (by simpa using hlen) (by simpa using hc2) (by simp [maxLen]; omega) (by simp) (by simp [zah]) (by simp [zah]) (by simp [zah]) (by simp)
           (fun w' _=>by cases A <;> simp [Builtin.firstCells,loadCells,loadCellsFrom]) (by simp [zah]) (by simp [zah]) snt
          simpa [he] using this
        | own _ _ _ _ c oo gi hγ hnn hcap hnc hcm ho =>
         obtain ⟨cur,fr,ha⟩:=hi.at_own hg hmd hγ hnn
         obtain ⟨i,z,hinfo,hsz,hby,hz,hzs,hzc⟩:=(hT e ei hei).info
         obtain ⟨arr,a1,a2,a3⟩:=hsrc.cells
         have hcsz : cur.size = c * ei.size:=by rw [ha.size,ha.es,ces,← hcap,Nat.zero_add]
         by_cases hroom : n + src.length ≤ c
         ·-- in place
          obtain ⟨hr1,hr2⟩:=hi.rename hg hmd hγ hn
          have hrun:=zfR (ty:=ty) ht hinfo hsz hsrc hroom (a2 w rfl) (A:=some ⟨gi.blk,oo,none⟩)
          have harr : ∀ y ∈ arr.toList,y.oneCell' = true:=by
           intro y hy
           obtain ⟨k,hk1,hk2⟩:=List.mem_iff_getElem.1 hy
           have hk3 : k < src.length * ei.size:=by rw [← a1]; simpa using hk1
           obtain ⟨u,hu,hku⟩:=zee hsrc.rows hk3
           obtain ⟨y',y1,y2⟩:=a3 _ _ _ hu
           rw [hku,← Array.getElem?_toList,List.getElem?_eq_getElem hk1,hk2] at y1
           cases y1
           exact y2.oneCell' (hsrc.cel _ _ u hu)
          have hst : ∃ w' cur',(storeCells ((⟨gi.blk,oo,none⟩ : Addr).add (n * ei.size)) arr.toList).run P w = .ok () w' ∧ (∀ b,w'.heap[b]? = if b = gi.blk then some (.cells cur' o.et fr) else w.heap[b]?) ∧ w'.heap.size = w.heap.size ∧ (w'.os = w.os ∧ w'.tape = w.tape ∧ w'.output = w.output) ∧
           cur'.size = cur.size ∧ (∀ k,cur'[k]? = if n * ei.size ≤ k ∧ k < n * ei.size + arr.size then arr[k - n * ei.size]? else cur[k]?):=by
           by_cases hc0 : c = 0
           ·have h0 : arr = #[]:=by
             apply Array.eq_empty_of_size_eq_zero; rw [a1]
             have : src.length = 0:=by omega
             rw [this,Nat.zero_mul]
            subst h0
            exact ⟨w,cur,rfl,fun b=>by
             by_cases e : b = gi.blk
             ·rw [if_pos e,e]; exact ha.heap
             ·rw [if_neg e],rfl,⟨rfl,rfl,rfl⟩,rfl,fun k=>by rw [if_neg (by simp)]⟩
           ·have hoo:=ho hc0
            rw [Nat.zero_mul] at hoo
            subst hoo
            have hfit : 0 + n * ei.size + 0 + arr.toList.length ≤ cur.size:=by
             rw [Array.length_toList,a1,hcsz,Nat.zero_add,Nat.add_zero,← Nat.add_mul]; exact Nat.mul_le_mul_right _ hroom
            obtain ⟨w',cur',k1,k2,k3,k4,k5,k6⟩:=zcb (P:=P) gi.blk (0 + n * ei.size) o.et fr arr.toList 0 cur w ha.heap ha.frz hfit harr
            exact ⟨w',cur',by rw [zcx]; exact k1,k2,k3,k4,k5,fun k=>by rw [k6]; simp⟩
          obtain ⟨w',cur',k1,k2,k3,k4,k5,k6⟩:=hst
          have ha' : ObjAt w I (gUp γ nm gi) o gi cur fr:=ha.ext hr2 rfl ha.rw
          have hob':=hob
          have hW:=hr1.write (w':=w') (nm:=nm) (o:=o) (o':=⟨e,ei.size,o.elems ++ src,false,min o.fl sfl,.rw⟩) (by simp) c2 (by simp [gUp]) ha' c1.symm ces.symm rfl k5 k2 k3 k4
           (by simp only [List.length_append]; omega) (fun h=>by cases h)
           (fun r hr=>(List.mem_append.1 hr).elim (fun h=>(hob.rows r h).trans ces) (hsrc.rows r))
           (fun i j u hu=>(za4 hu).elim (fun h=>hob.cel _ _ u h.2) (fun h=>hsrc.cel _ _ u h.2))
           (fun hf i j u hu=>by
            have hf' : min o.fl sfl ≠ 0:=hf
            exact (za4 hu).elim (fun h=>hob.closed (by omega) _ _ u h.2) (fun h=>hsrc.closed (by omega) _ _ u h.2))
           (fun hf i j u hu=>by
            have hf' : 2 ≤ min o.fl sfl:=hf
            exact (za4 hu).elim (fun h=>hob.scalar (by omega) _ _ u h.2) (fun h=>hsrc.scalar (by omega) _ _ u h.2))
           (fun i j u hu=>by
            rw [ces,k6]
            rcases za4 hu with ⟨h0,h1⟩ | ⟨h0,h1⟩
            ·obtain ⟨y,y1,y2⟩:=ha'.cells _ _ _ h1
             rw [ces] at y1
             have hj:=(zcK hob.rows h1).2
             rw [ces] at hj
             have : (i + 1) * ei.size ≤ n * ei.size:=Nat.mul_le_mul_right _ (by omega)
             rw [Nat.add_mul] at this
             rw [if_neg (by omega)]
             exact ⟨y,y1,y2⟩
            ·obtain ⟨y,y1,y2⟩:=a3 _ _ _ h1
             have hlt:=(Array.getElem?_eq_some_iff.1 y1).1
             have e1 : i * ei.size + j = n * ei.size + ((i - o.elems.length) * ei.size + j):=by
              rw [c4,← Nat.add_assoc,← Nat.add_mul]; congr 2; omega
             rw [e1,if_pos ⟨by omega,by omega⟩,Nat.add_sub_cancel_left]
             exact ⟨y,y1,hr2.rd y2⟩)
           (fun i j u hu hut=>by
            rcases za4 hu with ⟨_,h1⟩ | ⟨_,h1⟩
            ·rw [ont _ _ u h1] at hut; cases hut
            ·rw [snt _ _ u h1] at hut; cases hut)
          have hupd : upd (upd (upd g m (some (kill o))) nm (some o)) nm (some (⟨e,ei.size,o.elems ++ src,false,min o.fl sfl,.rw⟩ : AObj)) = upd (upd g m (some (kill o))) nm (some ⟨e,ei.size,o.elems ++ src,false,min o.fl sfl,.rw⟩):=by
           funext k; unfold upd; split <;> rfl
          rw [hupd] at hW
          refine ⟨.slice (some ⟨gi.blk,oo,none⟩) (n + src.length) c,w',gUp γ nm gi,?_,?_,hW.1,hr2.trans hW.2⟩
          ·rw [hrun]
           simp only [k1,Result.andThen_ok]
          ·exact .own _ _ _ _ _ _ gi (by simp [gUp]) hnn hcap hroom hcm ho
         ·-- a new block
          have hlo : ∀ k,k < n * ei.size → w.cell? ((⟨gi.blk,oo,none⟩ : Addr).add k) = some (cur[k]?.getD undef):=by
           intro k hk
           have hn0 : n ≠ 0:=fun h=>by rw [h,Nat.zero_mul] at hk; omega
           have hoo:=ho (by omega)
           rw [Nat.zero_mul] at hoo
           subst hoo
           have hlt : k < cur.size:=by rw [hcsz]; exact Nat.lt_of_lt_of_le hk (Nat.mul_le_mul_right _ hnc)
           rw [zcx,Nat.zero_add,cell_of_row w gi.blk k cur o.et fr ha.heap,Array.getElem?_eq_getElem hlt]; rfl
          have:=zf8 (ty:=ty) (c:=c) (A:=some ⟨gi.blk,oo,none⟩) (olds:=o.elems) (ofl:=o.fl) (oarr:=((List.range (o.elems.length * ei.size)).map fun k=>cur[k]?.getD undef).toArray) hT hk hkn ht hei hsrc (by omega) (by rw [← c4]; exact hc2) (by simp only [maxLen]; omega)
           (fun r hr=>(hob.rows r hr).trans ces) hob.cel hob.closed hob.scalar (by simp)
           (fun w' hh=>run_loadCells (P:=P) w' _ _ _ fun k hk=>by rw [World.cell?_of_block (w:=w) (by rw [hh])]; exact hlo k (by rw [c4]; exact hk))
           (fun i j u hu=>by
            obtain ⟨y,y1,y2⟩:=ha.cells _ _ _ hu
            rw [ces] at y1
            obtain ⟨q1,q2⟩:=zcK hob.rows hu
            rw [ces] at q2
            have : (i + 1) * ei.size ≤ o.elems.length * ei.size:=Nat.mul_le_mul_right _ q1
            rw [Nat.add_mul] at this
            refine ⟨y,?_,y2⟩
            simp [show i * ei.size + j < o.elems.length * ei.size by omega,y1]) ont snt
          rw [← c4] at this
          exact this
       ·cases h
      ·cases h
    ·cases h
   ·cases h
theorem zou {g : Nat → Option AObj} {nm : Nat} {e : TypeId} {m off n : Nat} {src : List (List V)} {sfl : Nat} {rd : List Nat} {eff : Eff} (h : zds T g nm e (.own m off n) src sfl rd = some eff) :
 ∃ o,g m = some o ∧ zgm T (upd g m (some (cutO n o))) nm e (.own m off n) src sfl rd = some eff ∧ ∃ a b,eff.wr = [(m,a),(nm,b)]:=by
 unfold zds at h
 split at h
 ·cases h
 ·rename_i ei hei
  split at h
  ·cases h
  ·rename_i hz
   simp only at h
   split at h
   ·rename_i o hg
    cases hgm : g m with
    | none=>rw [hgm] at hg; cases hg
    | some o0 =>
     rw [hgm] at hg
     simp only [Option.map_some,Option.some.injEq] at hg
     subst hg
     split at h
     ·cases h
     ·rename_i hc
      split at h
      ·rename_i hb
       split at h
       ·rename_i hn
        cases h
        have hne : nm ≠ m:=fun e=>by subst e; rw [hgm] at hn; cases hn
        refine ⟨o0,rfl,?_,_,_,rfl⟩
        unfold zgm
        simp only [hei,if_neg hz,zaD,if_neg hc,if_pos hb,zaz _ _ hne,hn]
       ·cases h
      ·cases h
   ·cases h
theorem zgn (hT : zaJ P T) {w0 w : World} {ex I γ g} (hi : Inv w0 ex I γ g w) {nm : Nat} {t tx ty e : TypeId} (hd : zao T t = some (.slice e)) {x : V} {vx vy : Value} {src : List (List V)} {sfl : Nat} {rd : List Nat} {eff : Eff}
 (hx : Rd w I γ x vx) (hs : ∀ ei,T e = some ei → Src P w I γ ei.size tx vy src sfl) (h : zds T g nm e x src sfl rd = some eff) :
 ∃ r w' γ',(Builtin.append_ #[t,tx] ty #[vx,vy]).run P w = .ok r w' ∧ Rd w' I γ' eff.v r ∧ Inv w0 ex I γ' (zas g eff.wr) w' ∧ Ext I γ w I γ' w':=by
 by_cases hown : ∃ m off n,x = .own m off n
 ·obtain ⟨m,off,n,rfl⟩:=hown
  obtain ⟨o,hg,h1,a,b,hwr⟩:=zou h
  obtain ⟨r,w',γ',k1,k2,k3,k4⟩:=zfJ (ty:=ty) hT (hi.cut hg n) hd hx hs h1
  refine ⟨r,w',γ',k1,k2,?_,k4⟩
  have e : zas (upd g m (some (cutO n o))) eff.wr = zas g eff.wr:=by
   rw [hwr]
   funext k
   simp only [zas,upd]
   split
   ·rfl
   ·split <;> rfl
  rw [← e]; exact k3
 ·refine zfJ (nm:=nm) (rd:=rd) (ty:=ty) hT hi hd hx hs ?_
  rw [← h]
  unfold zgm zds
  cases x with
  | own m off n=>exact absurd ⟨_,_,_,rfl⟩ hown
  | sl a b c=>cases c <;> rfl
  | _=>rfl
end
section
variable {P : Program} {T : TypeId → Option TI}
theorem zga (hT : zaJ P T) {e : TypeId} (h : zk9 T e = true) : P.underlying e = some (.int .u8) ∧ ∃ ei,T e = some ei ∧ ei.size = 1:=by
 unfold zk9 at h
 split at h
 ·rename_i ti ht
  split at h
  ·rename_i hd
   exact ⟨by rw [← hd]; exact (hT e ti ht).under,ti,ht,by simpa using h⟩
  ·cases h
 ·cases h
theorem zhM : ∀ {es : List (List V)} {l : List UInt8},zeL es = some l → ∃ ns : List Int,ns.length = es.length ∧ l = ns.map (fun n=>UInt8.ofNat n.toNat) ∧ ∀ i,(h : i < ns.length) → es[i]? = some [.int .u8 ns[i]]
 | [],l,h=>by cases h; exact ⟨[],rfl,rfl,fun i h=>absurd h (by simp)⟩
 | e :: es,l,h=>by
  simp only [zeL] at h
  split at h
  ·rename_i n l' hl'
   cases h
   obtain ⟨ns,h1,h2,h3⟩:=zhM hl'
   refine ⟨n :: ns,by simp [h1],by simp [h2],fun i hi=>?_⟩
   cases i with
   | zero=>rfl
   | succ i=>simpa using h3 i (by simpa using hi)
  ·cases h
theorem zo9 {w0 w : World} {ex I γ g} (hi : Inv w0 ex I γ g w) {x : V} {vx : Value} {es : List (List V)} {rd : List Nat} (hx : Rd w I γ x vx) (he : zco g x = some (es,rd)) {l : List UInt8} (hl : zeL es = some l) :
 ∃ A n c,vx = .slice A n c ∧ ((A = none ∧ es = []) ∨ ∃ (a : Addr) (ns : List Int),A = some a ∧ l = ns.map (fun m=>UInt8.ofNat m.toNat) ∧ (loadCells a n).run P w = .ok (ns.map (Value.int .u8)).toArray w):=by
 obtain ⟨ns,h1,h2,h3⟩:=zhM hl
 have fin : ∀ (a : Addr),(∀ i j u,zah es i j = some u → ∀ sz,(∀ r ∈ es,r.length = sz) → ∃ y,w.cell? (a.add (i * sz + j)) = some y ∧ Rd w I γ u y) → (loadCells a es.length).run P w = .ok (ns.map (Value.int .u8)).toArray w:=by
  intro a hc
  have hsz : ∀ r ∈ es,r.length = 1:=by
   intro r hr
   obtain ⟨k,hk,hkr⟩:=List.mem_iff_getElem.1 hr
   have:=h3 k (by omega)
   rw [List.getElem?_eq_getElem hk,hkr] at this
   cases this; rfl
  have:=run_loadCells_list (P:=P) w a (ns.map (Value.int .u8)) (fun j v hv=>by
   rw [List.getElem?_map] at hv
   cases hn : ns[j]? with
   | none=>rw [hn] at hv; cases hv
   | some n =>
    rw [hn] at hv
    cases hv
    obtain ⟨hj,hjn⟩:=List.getElem?_eq_some_iff.1 hn
    have h4:=h3 j hj
    rw [hjn] at h4
    obtain ⟨y,y1,y2⟩:=hc j 0 _ (zay h4 rfl) 1 hsz
    cases y2
    rw [Nat.mul_one,Nat.add_zero] at y1
    exact y1)
  rw [List.length_map,h1] at this
  exact this
 unfold zco at he
 split at he
 ·cases he
  cases hx with
  | nil=>exact ⟨none,0,0,rfl,.inl ⟨rfl,rfl⟩⟩
  | sl _ _ _ _ a n c xs h0 h1' hlen hnc hcm hes hcel hcell hr =>
   refine ⟨some a,n,c,rfl,.inr ⟨a,ns,rfl,h2,?_⟩⟩
   rw [← hlen]
   refine fin a fun i j u hu sz hsz=>⟨xs i j,?_,(hr i j u hu).closed ((hr i j u hu).closed_of_noG rfl) γ⟩
   obtain ⟨r,hr1,_⟩:=zan hu
   have : sz = _:=(hsz r (List.mem_of_getElem? hr1)).symm.trans (hes r (List.mem_of_getElem? hr1))
   rw [this]; exact (hcell i j u hu).2
 ·rename_i nm off n
  split at he
  ·rename_i o hg
   split at he
   ·rename_i hcond
    obtain ⟨hmd,hle⟩:=hcond
    cases he
    cases hx with
    | ownnil _ _ A gi hγ hnn =>
     cases A with
     | none=>exact ⟨none,0,0,rfl,.inl ⟨rfl,by simp⟩⟩
     | some a =>
      refine ⟨some a,0,0,rfl,.inr ⟨a,ns,rfl,h2,?_⟩⟩
      have:=fin a (fun i j u hu=>by simp [zah] at hu)
      simpa using this
    | own _ _ _ _ c oo gi hγ hnn hcap hnc hcm ho =>
     obtain ⟨cur,fr,ha⟩:=hi.at_own hg hmd hγ hnn
     have hob:=hi.obj nm o hg hmd
     have hlen : ((o.elems.drop off).take n).length = n:=by rw [List.length_take,List.length_drop]; omega
     refine ⟨some ⟨gi.blk,oo,none⟩,n,c,rfl,.inr ⟨_,ns,rfl,h2,?_⟩⟩
     rw [hlen] at fin
     refine fin _ fun i j u hu sz hsz=>?_
     obtain ⟨q1,q2⟩:=zcK hsz hu
     rw [hlen] at q1
     obtain ⟨r,hr1,_⟩:=zan hu
     have hrm:=List.mem_of_getElem? hr1
     have e1 : sz = o.es:=(hsz r hrm).symm.trans (hob.rows r (List.mem_of_mem_drop (List.mem_of_mem_take hrm)))
     obtain ⟨y,y1,y2⟩:=ha.cells _ _ _ (zaO hu)
     refine ⟨y,?_,y2⟩
     rw [zcx,cell_of_row w gi.blk _ cur o.et fr ha.heap,ho (by omega),ha.es,e1,← Nat.add_assoc,← Nat.add_mul]
     exact y1
   ·cases he
  ·cases he
 ·cases he
theorem zov (hT : zaJ P T) {w0 w : World} {ex I γ g} (hi : Inv w0 ex I γ g w) {nm : Nat} {src dst : TypeId} {x : V} {vx : Value} {e : Eff} (hx : Rd w I γ x vx) (h : aConv T g nm src dst x = some e) :
 ∃ r w' γ',(convert src dst vx).run P w = .ok r w' ∧ Rd w' I γ' e.v r ∧ Inv w0 ex I γ' (zas g e.wr) w' ∧ Ext I γ w I γ' w':=by
 unfold aConv at h
 split at h
 ·rename_i d k _ n hd1 hd2
  cases h; cases hx
  refine ⟨_,w,γ,?_,.int _ _ _,hi,Ext.refl _ _ _⟩
  unfold convert
  rw [Sem.run_bind,zaH hT hd1,Result.andThen_ok,Sem.run_bind,zaH hT hd2,Result.andThen_ok]
  cases d <;> rfl
 ·rename_i d s hd1 hd2
  cases h; cases hx
  refine ⟨_,w,γ,?_,.str _ _,hi,Ext.refl _ _ _⟩
  unfold convert
  rw [Sem.run_bind,zaH hT hd1,Result.andThen_ok,Sem.run_bind,zaH hT hd2,Result.andThen_ok]
  cases d <;> rfl
 ·rename_i el hd1 hd2 _
  split at h
  ·rename_i hb
   obtain ⟨hb1,ei,hb2,_⟩:=zga hT hb
   split at h
   ·rename_i es rd he
    cases hl : zeL es with
    | none=>rw [hl] at h; cases h
    | some l =>
     rw [hl] at h; cases h
     obtain ⟨A,n,c,rfl,hor⟩:=zo9 (P:=P) hi hx he hl
     obtain ⟨t1,s1,s2⟩:=zbb hd1
     obtain ⟨t2,s3,s4⟩:=zbb hd2
     have hu1 : P.underlying src = some (.slice el):=by rw [← s2]; exact (hT src t1 s1).under
     have hu2 : P.underlying dst = some .string:=by rw [← s4]; exact (hT dst t2 s3).under
     rw [run_convert_bytes_string w src dst el A n c hu1 hb1 hu2]
     rcases hor with ⟨rfl,rfl⟩ | ⟨a,ns,rfl,h2,h3⟩
     ·cases hl
      exact ⟨_,w,γ,rfl,.str _ _,hi,Ext.refl _ _ _⟩
     ·refine ⟨_,w,γ,run_bytesToString (P:=P) w a n c ns h3,?_,hi,Ext.refl _ _ _⟩
      rw [foldl_push_bytes,h2]
      have : (⟨ByteArray.empty.data ++ (ns.map fun n=>UInt8.ofNat n.toNat).toArray⟩ : ByteArray) = ⟨(ns.map fun n=>UInt8.ofNat n.toNat).toArray⟩:=by
       rw [show ByteArray.empty.data = #[] from rfl]; simp
      rw [this]; exact .str _ _
   ·cases h
  ·cases h
 ·rename_i el s hd1 hd2
  split at h
  ·rename_i hb
   simp only [Bool.and_eq_true,decide_eq_true_eq] at hb
   obtain ⟨hb0,hsz⟩:=hb
   obtain ⟨hb1,ei,hb2,_⟩:=zga hT hb0
   obtain ⟨hn,hv,hwr⟩:=zcC h
   cases hx
   rw [hwr,zcG,hv]
   have hge:=grownCap_ge w s.size 0 el
   have hcm:=grownCap_le_maxLen w s.size 0 el hsz
   have hcs : ((s.data.map fun b=>Value.int .u8 b.toNat) ++ Array.replicate (grownCap w s.size 0 el - s.size) (Value.int .u8 0)).size = grownCap w s.size 0 el:=by
    simp only [Array.size_append,Array.size_map,Array.size_replicate]
    show s.size + _ = _
    omega
   have hrun : (convert src dst (.string s)).run P w = .ok (.slice (some ⟨w.heap.size,0,none⟩) s.size (grownCap w s.size 0 el))
    (((w.drew.alloc (.cells ((s.data.map fun b=>Value.int .u8 b.toNat) ++ Array.replicate (grownCap w s.size 0 el - s.size) (.int .u8 0)) el))).freeze ⟨w.heap.size,grownCap w s.size 0 el,none⟩ 1):=by
    unfold convert
    rw [Sem.run_bind,zaH hT hd1,Result.andThen_ok,Sem.run_bind,zaH hT hd2,Result.andThen_ok]
    simp only [Sem.run_bind,run_underlying hb1,Result.andThen_ok]
    unfold Conv.stringToBytes
    have hsh : ((w.drew.alloc (.cells ((s.data.map fun b=>Value.int .u8 b.toNat) ++ Array.replicate (grownCap w s.size 0 el - s.size) (.int .u8 0)) el))).shape? w.heap.size = some (el,grownCap w s.size 0 el):=by
     simp only [World.shape?,World.alloc]
     rw [show w.drew.heap = w.heap from rfl,Array.getElem?_push,if_pos rfl]
     simp only [hcs]
    simp only [Sem.run_bind,run_choose,Question.forced,Bool.false_eq_true,if_false,Result.andThen_ok,newRow,run_newObj,markStringish,run_shape,Sem.run_pure]
    show (Result.andThen (Sem.run P (match (World.shape? (w.drew.alloc (.cells ((s.data.map fun b=>Value.int .u8 b.toNat) ++ Array.replicate (grownCap w s.size 0 el - s.size) (.int .u8 0)) el)) w.heap.size) with
     | some (_,n)=>Go.freeze { block:=w.heap.size,off:=n } 1
     | _=>pure ()) (w.drew.alloc (.cells ((s.data.map fun b=>Value.int .u8 b.toNat) ++ Array.replicate (grownCap w s.size 0 el - s.size) (.int .u8 0)) el))) _) = _
    rw [hsh]
    rfl
   have hA:=hi.alloc (w':=((w.drew.alloc (.cells ((s.data.map fun b=>Value.int .u8 b.toNat) ++ Array.replicate (grownCap w s.size 0 el - s.size) (.int .u8 0)) el))).freeze ⟨w.heap.size,grownCap w s.size 0 el,none⟩ 1) hn
    (cur:=(s.data.map fun b=>Value.int .u8 b.toNat) ++ Array.replicate (grownCap w s.size 0 el - s.size) (.int .u8 0)) (fr:=(grownCap w s.size 0 el,grownCap w s.size 0 el + 1)) (o:=⟨el,1,zae s.data.toList,false,2,.rw⟩) (cap:=grownCap w s.size 0 el)
    (by
     simp only [World.freeze,World.alloc,World.drew]
     rw [if_neg (by decide)]
     apply Array.ext_getElem?
     intro b
     rw [Array.getElem?_modify]
     by_cases e : w.heap.size = b
     ·subst e
      rw [if_pos rfl,Array.getElem?_push,if_pos rfl,Array.getElem?_push,if_pos rfl]
      simp
     ·rw [if_neg e,Array.getElem?_push,Array.getElem?_push,if_neg (fun h=>e h.symm),if_neg (fun h=>e h.symm)])
    ⟨by simp only [World.freeze]; split <;> rfl,by simp only [World.freeze]; split <;> rfl,by simp only [World.freeze]; split <;> rfl⟩ (.inr (by rw [hcs]; exact Nat.le_refl _)) (by rw [hcs,Nat.mul_one])
    (by simp only [zae,List.length_map,Array.length_toList]; exact hge) (fun h=>by cases h) hcm
    (fun r hr=>by
     obtain ⟨b,_,rfl⟩:=List.mem_map.1 hr
     rfl)
    (fun i j u hu=>by obtain ⟨b,_,_,rfl⟩:=zbT hu; rfl) (fun _ i j u hu=>by obtain ⟨b,_,_,rfl⟩:=zbT hu; rfl) (fun _ i j u hu=>by obtain ⟨b,_,_,rfl⟩:=zbT hu; rfl)
    (fun i j u hu=>by
     obtain ⟨b,hb,rfl,rfl⟩:=zbT hu
     refine ⟨.int .u8 b.toNat,?_,.int _ _ _⟩
     rw [Array.getElem?_toList] at hb
     have hlt : i < s.data.size:=(Array.getElem?_eq_some_iff.1 hb).1
     rw [Nat.mul_one,Nat.add_zero,Array.getElem?_append_left (by simpa using hlt),Array.getElem?_map,hb]; rfl) rfl (fun i j u hu=>by obtain ⟨b,_,_,rfl⟩:=zbT hu; rfl)
   refine ⟨_,_,_,hrun,?_,hA.1,hA.2⟩
   exact .own _ _ _ _ _ _ ⟨w.heap.size,grownCap w s.size 0 el,1,false⟩ (by simp [gUp]) rfl (by simp) hge hcm (fun _=>by simp)
  ·cases h
 ·cases h
theorem zq0 {α β : Type} (f : α → Sem β) (f' : α → β) (w : World) : ∀ l : List α,(∀ x ∈ l,(f x).run P w = .ok (f' x) w) → (l.mapM f).run P w = .ok (l.map f') w
 | [],_=>by simp
 | x :: l,h=>by
  simp only [List.mapM_cons,Sem.run_bind,h x (List.mem_cons_self ..),Result.andThen_ok,zq0 f f' w l (fun y hy=>h y (List.mem_cons_of_mem _ hy)),Sem.run_pure,List.map_cons]
theorem zqM : ∀ (xs : List Value) (s off : Nat) (cells : Array Value),off + s + xs.length ≤ cells.size →
 ((xs.zipIdx s).foldl (fun cs (c,j)=>cs.setIfInBounds (off + j) c) cells).size = cells.size ∧
 ∀ k,((xs.zipIdx s).foldl (fun cs (c,j)=>cs.setIfInBounds (off + j) c) cells)[k]? = if off + s ≤ k ∧ k < off + s + xs.length then xs[k - (off + s)]? else cells[k]?
 | [],s,off,cells,_=>⟨rfl,fun k=>by rw [if_neg (by simp)]; rfl⟩
 | x :: xs,s,off,cells,h=>by
  simp only [List.length_cons] at h
  obtain ⟨h1,h2⟩:=zqM xs (s + 1) off (cells.setIfInBounds (off + s) x) (by simp; omega)
  simp only [List.zipIdx_cons,List.foldl_cons]
  refine ⟨by rw [h1]; simp,fun k=>?_⟩
  rw [h2]
  simp only [List.length_cons]
  by_cases c1 : off + (s + 1) ≤ k ∧ k < off + (s + 1) + xs.length
  ·rw [if_pos c1,if_pos (by omega),show k - (off + s) = (k - (off + (s + 1))) + 1 by omega,List.getElem?_cons_succ]
  ·rw [if_neg c1]
   by_cases c2 : k = off + s
   ·subst c2
    rw [if_pos (by omega)]
    simp [show off + s < cells.size by omega]
   ·rw [if_neg (by omega),Array.getElem?_setIfInBounds_ne (fun h=>c2 h.symm)]
theorem zeg {w : World} {I γ} {placeV place : Nat → Option (Nat × Nat)} (hp : ∀ i p,placeV i = some p → place i = some p) : ∀ (partsV : List (Nat × V)) (parts : List (Nat × Value)) (cs cs' : List V) (xs : Array Value),parts.length = partsV.length →
 (∀ (k : Nat) (i i' : Nat) (v : V) (x : Value),partsV[k]? = some (i,v) → parts[k]? = some (i',x) → i = i' ∧ Rd w I γ v x) → cs.length = xs.size → (∀ (j : Nat) (u : V) (x : Value),cs[j]? = some u → xs[j]? = some x → Rd w I γ u x) →
 fillV placeV cs partsV = some cs' → ∃ xs',Instr.fill place xs parts = some xs' ∧ cs'.length = xs'.size ∧ cs'.length = cs.length ∧ (∀ (j : Nat) (u : V) (x : Value),cs'[j]? = some u → xs'[j]? = some x → Rd w I γ u x)
 | [],parts,cs,cs',xs,hl,_,hlen,hr,h=>by
  cases List.eq_nil_of_length_eq_zero hl
  cases h
  exact ⟨xs,rfl,hlen,rfl,hr⟩
 | (i,v) :: pv,parts,cs,cs',xs,hl,hpr,hlen,hr,h=>by
  cases parts with
  | nil=>simp at hl
  | cons p ps =>
   obtain ⟨i',x⟩:=p
   obtain ⟨rfl,hvx⟩:=hpr 0 i i' v x rfl rfl
   simp only [fillV] at h
   split at h
   ·cases h
   ·rename_i off size hpl
    split at h
    ·rename_i hc
     obtain ⟨c1,c2,c3⟩:=hc
     have hnj : v ≠ .junk:=fun e=>by subst e; simp [V.isJunk] at c3
     obtain ⟨q1,q2⟩:=hvx.cells hnj
     have hf:=zqM x.cells.toList 0 off xs (by rw [Array.length_toList,← q1,← hlen]; omega)
     have hfold : x.cells.zipIdx.foldl (fun cs (c,j)=>cs.setIfInBounds (off + j) c) xs = (x.cells.toList.zipIdx 0).foldl (fun cs (c,j)=>cs.setIfInBounds (off + j) c) xs:=by
      rw [← Array.foldl_toList,Array.toList_zipIdx]
     rw [← hfold] at hf
     obtain ⟨f1,f2⟩:=hf
     have hspl:=zg6 (r:=cs) (cs:=v.cells) (j:=off) c2
     obtain ⟨xs',r1,r2,r3,r4⟩:=zeg hp pv ps (splice cs off v.cells) cs' _ (by simpa using hl) (fun k i i' v x h1 h2=>hpr (k + 1) i i' v x (by simpa using h1) (by simpa using h2)) (by rw [hspl,f1,hlen]) (fun j u y hu hy=>by
      rw [f2] at hy
      rcases zdq c2 hu with ⟨s1,s2,s3⟩ | ⟨s1,s3⟩
      ·rw [if_pos (by rw [Array.length_toList,← q1]; omega),Array.getElem?_toList,Nat.add_zero] at hy
       exact q2 _ u y s3 hy
      ·rw [if_neg (by rw [Array.length_toList,← q1]; omega)] at hy
       exact hr j u y s3 hy) h
     refine ⟨xs',?_,r2,r3.trans hspl,r4⟩
     simp only [Instr.fill,hp _ _ hpl]
     have hcnd : (decide (x.cells.size ≠ size) || decide (off + x.cells.size > xs.size)) = false:=by
      simp only [Bool.or_eq_false_iff,decide_eq_false_iff_not,Decidable.not_not]
      exact ⟨q1.symm.trans c1,by rw [← q1,← hlen]; omega⟩
     rw [if_neg (by rw [hcnd]; decide)]
     exact r1
    ·cases h
theorem zmR (hT : zaJ P T) {w : World} {I γ} {t : TypeId} {partsV : List (Nat × V)} {parts : Array (Nat × Value)} {v : V} (hl : parts.toList.length = partsV.length)
 (hp : ∀ (k : Nat) (i i' : Nat) (v : V) (x : Value),partsV[k]? = some (i,v) → parts.toList[k]? = some (i',x) → i = i' ∧ Rd w I γ v x) (h : zmQ T t partsV = some v) :
 ∃ r,(Instr.build t parts).run P w = .ok r w ∧ Rd w I γ v r:=by
 unfold zmQ at h
 split at h
 ·rename_i fs sz by_ zero ag eq ht
  split at h
  ·rename_i hall
   have ht':=hT t _ ht
   obtain ⟨z,z1,z2,z3⟩:=ht'.run_zero w
   have hu:=ht'.run_under w
   have hm : (fs.mapM fun f : Field=>do pure (f.offset,← sizeOf f.type)).run P w = .ok (fs.map fun f : Field=>(f.offset,((T f.type).map (·.size)).getD 0)) w:=by
    rw [Array.mapM_eq_mapM_toList]
    simp only [Sem.run_map]
    rw [zq0 (P:=P) _ (fun f : Field=>(f.offset,((T f.type).map (·.size)).getD 0)) w fs.toList]
    ·simp [← Array.toList_map]
    ·intro f hf
     have hs : (T f.type).isSome = true:=by
      have:=Array.all_eq_true_iff_forall_mem.1 hall f (Array.mem_toList_iff.1 hf); exact this
     cases hft : T f.type with
     | none=>rw [hft] at hs; cases hs
     | some fi=>simp only [Sem.run_bind,(hT _ _ hft).run_size w,Result.andThen_ok,Sem.run_pure,Option.map_some,Option.getD_some]
   cases hf : fillV (zmw T fs) zero partsV with
   | none=>rw [hf] at h; cases h
   | some cs =>
    rw [hf] at h; cases h
    obtain ⟨xs,x1,x2,_,x4⟩:=zeg (w:=w) (I:=I) (γ:=γ) (place:=((fs.map fun f : Field=>(f.offset,((T f.type).map (·.size)).getD 0))[·]?)) (fun i p hpl=>by
     rw [Array.getElem?_map]
     unfold zmw at hpl
     cases hfi : fs[i]? with
     | none=>rw [hfi] at hpl; cases hpl
     | some f =>
      rw [hfi] at hpl
      cases hft : T f.type with
      | none=>simp only [hft] at hpl; cases hpl
      | some fi=>simp only [hft,Option.map_some,Option.some.injEq] at hpl ⊢; subst hpl; simp) partsV parts.toList zero cs z.cells hl hp (by have:=congrArg List.length z3; simpa using this.symm) (fun j u x hu hx=>zdr z3 hu hx) hf
    refine ⟨.agg xs,?_,.agg _ _ _ x2 x4⟩
    unfold Instr.build
    simp only [Sem.run_bind,z1,hu,Result.andThen_ok,hm,x1,Sem.run_pure]
  ·cases h
 ·rename_i n e sz by_ zero ag eq ht
  split at h
  ·rename_i ei he
   have ht':=hT t _ ht
   obtain ⟨z,z1,z2,z3⟩:=ht'.run_zero w
   have hu:=ht'.run_under w
   cases hf : fillV (fun i=>some (i * ei.size,ei.size)) zero partsV with
   | none=>rw [hf] at h; cases h
   | some cs =>
    rw [hf] at h; cases h
    obtain ⟨xs,x1,x2,_,x4⟩:=zeg (w:=w) (I:=I) (γ:=γ) (place:=fun i=>some (i * ei.size,ei.size)) (fun i p hpl=>hpl) partsV parts.toList zero cs z.cells hl hp (by have:=congrArg List.length z3; simpa using this.symm) (fun j u x hu hx=>zdr z3 hu hx) hf
    refine ⟨.agg xs,?_,.agg _ _ _ x2 x4⟩
    unfold Instr.build
    simp only [Sem.run_bind,z1,hu,Result.andThen_ok,(hT e ei he).run_size w,x1,Sem.run_pure]
  ·cases h
 ·cases h
end
theorem Rd.nl {w : World} {I : Nat → Prop} {γ γ' : Nat → Option GI} {u : V} {x : Value} (h : Rd w I γ u x) (hn : u.isTree = true ∨ u.closed = true) (hγ : ∃ n gi,γ' n = some gi) : Rd w I γ' u x:=by
 rcases hn with hn | hn
 ·obtain ⟨sl,et,es,rows,tight,fl,rfl⟩:=V.ofTree hn
  cases h with
  | treep _ _ _ _ _ _ p h=>exact .treep _ _ _ _ _ _ p hγ
  | trees _ _ _ _ _ _ A n c h=>exact .trees _ _ _ _ _ _ A n c hγ
 ·exact h.closed hn γ'
theorem zb4 {rows : List (List V)} {i j : Nat} {r : List V} {v : V} (hr : rows[i]? = some r) (hj : j < r.length) {i' j' : Nat} {u : V} (h : zah (rows.set i (r.set j v)) i' j' = some u) : (i' = i ∧ j' = j ∧ u = v) ∨ (¬ (i' = i ∧ j' = j) ∧ zah rows i' j' = some u):=by
 obtain ⟨e,h1,h2⟩:=zan h
 rw [List.getElem?_set] at h1
 split at h1
 ·rename_i e1
  subst e1
  have hlt : i < rows.length:=(List.getElem?_eq_some_iff.1 hr).1
  rw [if_pos hlt] at h1
  cases h1
  rw [List.getElem?_set] at h2
  split at h2
  ·rename_i e2
   subst e2
   first | (rw [if_pos hj] at h2; cases h2) | cases h2
   exact .inl ⟨rfl,rfl,rfl⟩
  ·rename_i e2; exact .inr ⟨fun h=>e2 h.2.symm,zay hr h2⟩
 ·rename_i e1; exact .inr ⟨fun h=>e1 h.1.symm,zay h1 h2⟩
theorem Inv.fold {w0 w : World} {ex : Ex} {I : Nat → Prop} {γ : Nat → Option GI} {g : Nat → Option AObj} (hi : Inv w0 ex I γ g w) {n m i j : Nat} {o o' : AObj} {r : List V} {sl : Bool} (hne : m ≠ n) (hg : g n = some o) (hmd : o.md = .rw) (hg' : g m = some o') (hmd' : o'.md = .rw)
 (hnl : nameless o' = true) (hr : o.elems[i]? = some r) (hc : r[j]? = some (handle sl m o')) :
 Inv w0 ex I γ (upd (upd g m (some (Lift.kill o'))) n (some { o with elems:=o.elems.set i (r.set j (o'.toTree sl)),fl:=0 })) w:=by
 have hj : j < r.length:=(List.getElem?_eq_some_iff.1 hc).1
 have hd : o.md ≠ .dead:=by rw [hmd]; decide
 have hd' : o'.md ≠ .dead:=by rw [hmd']; decide
 have ho:=hi.obj n o hg hd
 have ho':=hi.obj m o' hg' hd'
 have hcells:=zgS hnl ho'.closed
 have hcell0 : zah o.elems i j = some (handle sl m o'):=zay hr hc
 have hrl : r.length = o.es:=ho.rows r (List.mem_of_getElem? hr)
 have hone : ∃ gi cur fr x,γ n = some gi ∧ ObjAt w I γ o gi cur fr ∧ cur[i * o.es + j]? = some x ∧ Rd w I γ (handle sl m o') x:=by
  rcases ho.at_ with ⟨he,_⟩ | ⟨gi,cur,fr,h1,ha⟩
  ·rw [he] at hr; simp at hr
  ·obtain ⟨x,x1,x2⟩:=ha.cells _ _ _ hcell0
   exact ⟨gi,cur,fr,x,h1,ha,x1,x2⟩
 obtain ⟨gi,cur,fr,x,hγ,ha,hx,hrd⟩:=hone
 have look : ∀ y z,upd (upd g m (some (Lift.kill o'))) n (some { o with elems:=o.elems.set i (r.set j (o'.toTree sl)),fl:=0 }) y = some z → z.md ≠ .dead →
  (y = n ∧ z = { o with elems:=o.elems.set i (r.set j (o'.toTree sl)),fl:=0 }) ∨ (y ≠ n ∧ y ≠ m ∧ g y = some z):=by
  intro y z h1 h2
  by_cases e : y = n
  ·subst e; rw [zaD] at h1; cases h1; exact .inl ⟨rfl,rfl⟩
  ·rw [zaz _ _ e] at h1
   by_cases e' : y = m
   ·subst e'; rw [zaD] at h1; cases h1; exact absurd rfl h2
   ·rw [zaz _ _ e'] at h1; exact .inr ⟨e,e',h1⟩
 have old : ∀ y z,upd (upd g m (some (Lift.kill o'))) n (some { o with elems:=o.elems.set i (r.set j (o'.toTree sl)),fl:=0 }) y = some z → z.md ≠ .dead → y ≠ m ∧ ∃ z0,g y = some z0 ∧ z0.md ≠ .dead:=by
  intro y z h1 h2
  rcases look y z h1 h2 with ⟨rfl,rfl⟩ | ⟨e,e',h⟩
  ·exact ⟨hne.symm,o,hg,hd⟩
  ·exact ⟨e',z,h,h2⟩
 obtain ⟨gm,hγm⟩ : ∃ gm,γ m = some gm:=by
  rcases ho'.at_ with ⟨_,gm,q,_⟩ | ⟨gm,_,_,q,_⟩ <;> exact ⟨gm,q⟩
 obtain ⟨F,hF⟩:=hi.trees
 let Fn : Nat → Prop:=fun b=>(gm.nil = false ∧ b = gm.blk) ∨ ∃ i' j' u',zah o'.elems i' j' = some u' ∧ u'.isTree = true ∧ F m i' j' b
 have tm : ∀ i' j' u',zah o'.elems i' j' = some u' → u'.isTree = true → TCell g m i' j' u':=fun i' j' u' h1 h2=>⟨o',hg',hd',h1,h2⟩
 have htree : TreeAt w I (o'.toTree sl) x Fn:=by
  rcases ho'.at_ with ⟨he,gi',q1,q2⟩ | ⟨gi',cur',fr',q1,ha'⟩
  ·rw [hγm] at q1; cases q1
   have hsl : sl = true:=by
    cases sl with
    | true=>rfl
    | false =>
     simp only [handle,Bool.false_eq_true,if_false] at hrd
     cases hrd with
     | ptr _ _ _ _ gi' h1 h2=>rw [hγm] at h1; cases h1; rw [q2] at h2; cases h2
   subst hsl
   simp only [handle,if_true,he,List.length_nil] at hrd
   unfold AObj.toTree
   rw [he]
   cases hrd with
   | ownnil _ _ A gi' h1 h2=>exact .nil _ _ _ _ _ _
   | own _ _ _ _ c oo gi' h1 h2=>rw [hγm] at h1; cases h1; rw [q2] at h2; cases h2
  ·rw [hγm] at q1; cases q1
   have hok : ObjOk w I (fun _=>some gm) 0 ⟨o'.et,o'.es,o'.elems,o'.tight,o'.fl,.rw⟩:=by
    refine ⟨ho'.rows,ho'.cel,ho'.closed,ho'.scalar,.inr ⟨gm,cur',fr',rfl,ha'.nn,ha'.es,ha'.heap,ha'.frz,ha'.size,ha'.le,ha'.tight,ha'.max,fun i' j' u hu=>?_,(fun h=>by cases h),fun _=>ha'.rw hmd'⟩⟩
    obtain ⟨y,y1,y2⟩:=ha'.cells _ _ _ hu
    exact ⟨y,y1,y2.nl (hcells _ _ _ hu) ⟨0,gm,rfl⟩⟩
   refine .box sl _ _ _ _ _ gm x Fn (F m) (fun i' j'=>(cur'[i' * gm.es + j']?).getD undef) hok ha'.nn hcells ?_ (.inl ⟨ha'.nn,rfl⟩) (Array.getElem?_eq_some_iff.1 ha'.heap).1 (fun i' j' u cur1 et1 fr1 h1 h2 h3=>?_) (fun i' j' u h1 h2=>?_) (fun i' j' u b h1 h2 h3=>⟨.inr ⟨i',j',u,h1,h2,h3⟩,fun e=>?_⟩)
    (fun i' j' u i2 j2 u2 b h1 h2 h3 h4 h5 h6=>(hF.dj _ _ _ _ _ _ _ _ b (tm _ _ _ h1 h2) (tm _ _ _ h3 h4) h5 h6).2)
   ·cases sl with
    | false =>
     simp only [handle,Bool.false_eq_true,if_false] at hrd
     cases hrd with
     | ptr _ _ _ _ gi' h1 h2=>rw [hγm] at h1; cases h1; exact .inl ⟨rfl,by simp⟩
    | true =>
     simp only [handle,if_true] at hrd
     generalize hk : o'.elems.length = k at hrd
     cases hrd with
     | ownnil _ _ A gi' h1 h2=>rw [hγm] at h1; cases h1; rw [ha'.nn] at h2; cases h2
     | own _ _ _ _ c oo gi' h1 h2 h3 h4 h5 h6 =>
      rw [hγm] at h1; cases h1
      subst hk
      have : c = gm.cap:=by omega
      subst this
      exact .inr ⟨rfl,oo,rfl,fun h=>by rw [h6 h,Nat.zero_mul]⟩
   ·rw [ha'.heap] at h3; cases h3
    obtain ⟨y,y1,_⟩:=ha'.cells _ _ _ h1
    rw [← ha'.es] at y1
    rw [y1]; rfl
   ·obtain ⟨y,y1,y2⟩:=hF.at_ _ _ _ _ (tm _ _ _ h1 h2) gm cur' _ _ hγm ha'.nn ha'.heap
    rw [y1]; exact y2
   ·exact hF.nm _ _ _ _ b (tm _ _ _ h1 h2) h3 m o' gm hg' hd' hγm ha'.nn e.symm
 have hnew : ∀ y i' j' u,TCell (upd (upd g m (some (Lift.kill o'))) n (some { o with elems:=o.elems.set i (r.set j (o'.toTree sl)),fl:=0 })) y i' j' u → (y = n ∧ i' = i ∧ j' = j ∧ u = o'.toTree sl) ∨ (¬ (y = n ∧ i' = i ∧ j' = j) ∧ y ≠ m ∧ TCell g y i' j' u):=by
  rintro y i' j' u ⟨z,h1,h2,h3,h4⟩
  rcases look y z h1 h2 with ⟨rfl,rfl⟩ | ⟨e,e',h⟩
  ·rcases zb4 hr hj h3 with ⟨rfl,rfl,rfl⟩ | ⟨h5,h6⟩
   ·exact .inl ⟨rfl,rfl,rfl,rfl⟩
   ·exact .inr ⟨fun h=>h5 h.2,hne.symm,o,hg,hd,h6,h4⟩
  ·exact .inr ⟨fun h=>e h.1,e',z,h,h2,h3,h4⟩
 have fnb : ∀ b,Fn b → b < w.heap.size ∧ ¬ I b ∧ (w0.heap.size ≤ b ∨ ex.wr b):=by
  rintro b (⟨h1,rfl⟩ | ⟨i',j',u',h1,h2,h3⟩)
  ·obtain ⟨cur',fr',ha'⟩:=hi.at_own hg' hd' hγm h1
   exact ⟨(Array.getElem?_eq_some_iff.1 ha'.heap).1,ha'.rw hmd',hi.own m o' gm hg' hd' hγm h1⟩
  ·exact hF.fr _ _ _ _ b (tm _ _ _ h1 h2) h3
 have fnm : ∀ b,Fn b → ∀ y z gz,y ≠ m → g y = some z → z.md ≠ .dead → γ y = some gz → gz.nil = false → gz.blk ≠ b:=by
  rintro b (⟨h1,rfl⟩ | ⟨i',j',u',h1,h2,h3⟩) y z gz e q1 q2 q3 q4
  ·exact fun hb=>e (hi.inj y m z o' gz gm q1 hg' q2 hd' q3 hγm q4 h1 hb)
  ·exact hF.nm _ _ _ _ b (tm _ _ _ h1 h2) h3 y z gz q1 q2 q3 q4
 have fnd : ∀ b y i' j' u,Fn b → TCell g y i' j' u → y ≠ m → ¬ F y i' j' b:=by
  rintro b y i' j' u (⟨h1,rfl⟩ | ⟨i2,j2,u2,h1,h2,h3⟩) hu e hf
  ·exact hF.nm _ _ _ _ _ hu hf m o' gm hg' hd' hγm h1 rfl
  ·exact e (hF.dj _ _ _ _ _ _ _ _ b hu (tm _ _ _ h1 h2) hf h3).1
 refine ⟨fun y z h1 h2=>?_,?_,?_,?_,hi.lt,hi.keep,hi.fix,hi.back,hi.frame,hi.os,hi.tape,hi.output,hi.size,?_⟩
 ·rcases look y z h1 h2 with ⟨rfl,rfl⟩ | ⟨e,e',h⟩
  ·refine ⟨fun e he=>?_,fun i' j' u hu=>?_,fun h=>absurd rfl h,fun h=>by simp at h,.inr ⟨gi,cur,fr,hγ,ha.nn,ha.es,ha.heap,ha.frz,ha.size,by simpa using ha.le,by simpa using ha.tight,ha.max,fun i' j' u hu=>?_,ha.ro,ha.rw⟩⟩
   ·rcases List.mem_or_eq_of_mem_set he with h3 | h3
    ·exact ho.rows e h3
    ·rw [h3,List.length_set]; exact hrl
   ·rcases zb4 hr hj hu with ⟨rfl,rfl,rfl⟩ | ⟨_,h6⟩
    ·rfl
    ·exact ho.cel _ _ _ h6
   ·rcases zb4 hr hj hu with ⟨rfl,rfl,rfl⟩ | ⟨_,h6⟩
    ·refine ⟨x,hx,?_⟩
     unfold AObj.toTree
     cases sl with
     | false =>
      simp only [handle,Bool.false_eq_true,if_false] at hrd
      cases hrd with
      | ptr _ _ _ _ gi' h1 h2=>exact .treep _ _ _ _ _ _ _ ⟨_,_,h1⟩
     | true =>
      simp only [handle,if_true] at hrd
      generalize o'.elems.length = k at hrd
      cases hrd with
      | ownnil _ _ A gi' h1 h2=>exact .trees _ _ _ _ _ _ _ _ _ ⟨_,_,h1⟩
      | own _ _ _ _ c oo gi' h1 h2=>exact .trees _ _ _ _ _ _ _ _ _ ⟨_,_,h1⟩
    ·exact ha.cells _ _ _ h6
  ·exact hi.obj y z h h2
 ·intro a b o1 o2 g1 g2 h1 h2 d1 d2
  obtain ⟨_,z1,k1,k2⟩:=old a o1 h1 d1
  obtain ⟨_,z2,l1,l2⟩:=old b o2 h2 d2
  exact hi.inj a b z1 z2 g1 g2 k1 l1 k2 l2
 ·intro a o1 g1 h1 d1
  obtain ⟨_,z1,k1,k2⟩:=old a o1 h1 d1
  exact hi.own a z1 g1 k1 k2
 ·intro a g1 h1
  by_cases e : a = n
  ·subst e; simp
  ·rw [zaz _ _ e]
   by_cases e' : a = m
   ·subst e'; simp
   ·rw [zaz _ _ e']; exact hi.dom a g1 h1
 ·refine ⟨fun y i' j' b=>(y = n ∧ i' = i ∧ j' = j ∧ Fn b) ∨ (¬ (y = n ∧ i' = i ∧ j' = j) ∧ F y i' j' b),fun y i' j' u hu gy cy ey fy h1 h2 h3=>?_,fun y i' j' u b hu hf=>?_,fun y i' j' u b hu hf=>?_,fun y i' j' u y2 i2 j2 u2 b hu hu2 hf hf2=>?_⟩
  ·rcases hnew y i' j' u hu with ⟨rfl,rfl,rfl,rfl⟩ | ⟨hn,_,hu⟩
   ·rw [hγ] at h1; cases h1
    rw [ha.heap] at h3; cases h3
    refine ⟨x,by rw [ha.es]; exact hx,htree.mono (Nat.le_refl _) (fun _ h=>⟨h,rfl⟩) (fun b hb=>.inl ⟨rfl,rfl,rfl,hb⟩) fun _ _=>⟨rfl,id⟩⟩
   ·obtain ⟨z,z1,z2⟩:=hF.at_ y i' j' u hu gy cy ey fy h1 h2 h3
    exact ⟨z,z1,z2.mono (Nat.le_refl _) (fun _ h=>⟨h,rfl⟩) (fun b hb=>.inr ⟨hn,hb⟩) fun _ _=>⟨rfl,id⟩⟩
  ·rcases hnew y i' j' u hu with ⟨rfl,rfl,rfl,rfl⟩ | ⟨hn,_,hu⟩
   ·rcases hf with ⟨_,_,_,hf⟩ | ⟨hf,_⟩
    ·exact fnb b hf
    ·exact absurd ⟨rfl,rfl,rfl⟩ hf
   ·rcases hf with ⟨h1,h2,h3,_⟩ | ⟨_,hf⟩
    ·exact absurd ⟨h1,h2,h3⟩ hn
    ·exact hF.fr _ _ _ _ b hu hf
  ·intro y2 z gz h1 h2 h3 h4
   obtain ⟨em,z0,k1,k2⟩:=old y2 z h1 h2
   rcases hnew y i' j' u hu with ⟨rfl,rfl,rfl,rfl⟩ | ⟨hn,_,hu⟩
   ·rcases hf with ⟨_,_,_,hf⟩ | ⟨hf,_⟩
    ·exact fnm b hf y2 z0 gz em k1 k2 h3 h4
    ·exact absurd ⟨rfl,rfl,rfl⟩ hf
   ·rcases hf with ⟨h1,h2,h3,_⟩ | ⟨_,hf⟩
    ·exact absurd ⟨h1,h2,h3⟩ hn
    ·exact hF.nm _ _ _ _ b hu hf y2 z0 gz k1 k2 h3 h4
  ·rcases hf with ⟨a1,a2,a3,hf⟩ | ⟨hn,hf⟩ <;> rcases hf2 with ⟨b1,b2,b3,hf2⟩ | ⟨hn2,hf2⟩
   ·exact ⟨a1.trans b1.symm,a2.trans b2.symm,a3.trans b3.symm⟩
   ·rcases hnew y2 i2 j2 u2 hu2 with ⟨rfl,rfl,rfl,rfl⟩ | ⟨_,em,hu2⟩
    ·exact absurd ⟨rfl,rfl,rfl⟩ hn2
    ·exact absurd hf2 (fnd b y2 i2 j2 u2 hf hu2 em)
   ·rcases hnew y i' j' u hu with ⟨rfl,rfl,rfl,rfl⟩ | ⟨_,em,hu⟩
    ·exact absurd ⟨rfl,rfl,rfl⟩ hn
    ·exact absurd hf (fnd b y i' j' u hf2 hu em)
   ·rcases hnew y i' j' u hu with ⟨rfl,rfl,rfl,rfl⟩ | ⟨_,_,hu⟩
    ·exact absurd ⟨rfl,rfl,rfl⟩ hn
    ·rcases hnew y2 i2 j2 u2 hu2 with ⟨rfl,rfl,rfl,rfl⟩ | ⟨_,_,hu2⟩
     ·exact absurd ⟨rfl,rfl,rfl⟩ hn2
     ·exact hF.dj _ _ _ _ _ _ _ _ b hu hu2 hf hf2
theorem Inv.unfold {w0 w : World} {ex : Ex} {I : Nat → Prop} {γ : Nat → Option GI} {g : Nat → Option AObj} (hi : Inv w0 ex I γ g w) {n nm i j : Nat} {o : AObj} {r : List V} {sl : Bool} {et : TypeId} {es : Nat} {rows : List (List V)} {tight : Bool} {fl : Nat} (hg : g n = some o) (hmd : o.md = .rw) (hn : g nm = none)
 (hr : o.elems[i]? = some r) (hc : r[j]? = some (.tree sl et es rows tight fl)) :
 ∃ γ',Inv w0 ex I γ' (upd (upd g n (some { o with elems:=o.elems.set i (r.set j (handle sl nm ⟨et,es,rows,tight,fl,.rw⟩)),fl:=0 })) nm (some ⟨et,es,rows,tight,fl,.rw⟩)) w ∧ Ext I γ w I γ' w ∧
  ∀ gi cur ct fr x,γ n = some gi → gi.nil = false → w.heap[gi.blk]? = some (.cells cur ct fr) → cur[i * gi.es + j]? = some x → Rd w I γ' (handle sl nm ⟨et,es,rows,tight,fl,.rw⟩) x:=by
 have hj : j < r.length:=(List.getElem?_eq_some_iff.1 hc).1
 have hd : o.md ≠ .dead:=by rw [hmd]; decide
 have hne : nm ≠ n:=fun e=>by subst e; rw [hg] at hn; cases hn
 have ho:=hi.obj n o hg hd
 have hcell0 : zah o.elems i j = some (.tree sl et es rows tight fl):=zay hr hc
 have hrl : r.length = o.es:=ho.rows r (List.mem_of_getElem? hr)
 have t0 : TCell g n i j (.tree sl et es rows tight fl):=⟨o,hg,hd,hcell0,rfl⟩
 have hone : ∃ gi cur fr x,γ n = some gi ∧ ObjAt w I γ o gi cur fr ∧ cur[i * o.es + j]? = some x:=by
  rcases ho.at_ with ⟨he,_⟩ | ⟨gi,cur,fr,h1,ha⟩
  ·rw [he] at hr; simp at hr
  ·obtain ⟨x,x1,x2⟩:=ha.cells _ _ _ hcell0
   exact ⟨gi,cur,fr,x,h1,ha,x1⟩
 obtain ⟨gi,cur,fr,x,hγ,ha,hx⟩:=hone
 obtain ⟨F,hF⟩:=hi.trees
 obtain ⟨x',hx',ht⟩:=hF.at_ n i j _ t0 gi cur _ _ hγ ha.nn ha.heap
 rw [ha.es,hx] at hx'; cases hx'
 have hγn : γ nm = none:=by
  cases h : γ nm with
  | none=>rfl
  | some y=>exact absurd hn (hi.dom nm y h)
 have key : ∃ gm : GI,∃ G : Nat → Nat → Nat → Prop,ObjOk w I (fun _=>some gm) 0 ⟨et,es,rows,tight,fl,.rw⟩ ∧ (∀ i j u,zah rows i j = some u → u.isTree = true ∨ u.closed = true) ∧ (∀ γ',γ' nm = some gm → Rd w I γ' (handle sl nm ⟨et,es,rows,tight,fl,.rw⟩) x) ∧ (gm.nil = false → F n i j gm.blk) ∧
  (∀ i' j' u cur et fr,zah rows i' j' = some u → u.isTree = true → gm.nil = false → w.heap[gm.blk]? = some (.cells cur et fr) → ∃ y,cur[i' * gm.es + j']? = some y ∧ TreeAt w I u y (G i' j')) ∧
  (∀ i' j' u b,zah rows i' j' = some u → u.isTree = true → G i' j' b → F n i j b ∧ (gm.nil = false → b ≠ gm.blk)) ∧
  (∀ i j u i' j' u' b,zah rows i j = some u → u.isTree = true → zah rows i' j' = some u' → u'.isTree = true → G i j b → G i' j' b → i = i' ∧ j = j'):=by
  cases ht with
  | box _ _ _ _ _ _ gm _ _ G ys hok hnn hnl hx hFb hlt hys hsub hG hdj =>
   refine ⟨gm,G,hok,hnl,fun γ' h=>?_,fun _=>hFb,fun i' j' u c t f h1 h2 h3 h4=>⟨_,hys i' j' u c t f h1 h2 h4,hsub i' j' u h1 h2⟩,fun i' j' u b h1 h2 h3=>⟨(hG i' j' u b h1 h2 h3).1,fun _=>(hG i' j' u b h1 h2 h3).2⟩,hdj⟩
   obtain ⟨cm,fm,hm⟩ : ∃ cm fm,ObjAt w I (fun _=>some gm) ⟨et,es,rows,tight,fl,.rw⟩ gm cm fm:=by
    rcases hok.at_ with ⟨_,g1,q1,q2⟩ | ⟨g1,cm,fm,q1,hm⟩
    ·cases q1; rw [hnn] at q2; cases q2
    ·cases q1; exact ⟨cm,fm,hm⟩
   rcases hx with ⟨rfl,rfl⟩ | ⟨rfl,oo,rfl,h0⟩
   ·simp only [handle,Bool.false_eq_true,if_false]
    have:=Rd.ptr (w:=w) (I:=I) γ' nm 0 0 gm h hnn
    rw [Nat.zero_mul] at this
    exact this
   ·simp only [handle,if_true]
    exact .own _ _ _ _ _ _ gm h hnn (by simp) hm.le hm.max (fun h=>by rw [h0 h,Nat.zero_mul])
  | nil _ _ _ _ A _ =>
   refine ⟨⟨0,0,0,true⟩,fun _ _ _=>False,⟨by simp,by simp [zah],by simp [zah],by simp [zah],.inl ⟨rfl,_,rfl,rfl⟩⟩,by simp [zah],fun γ' h=>?_,(fun h=>by cases h),by simp [zah],by simp [zah],by simp [zah]⟩
   simp only [handle,if_true,List.length_nil]
   exact .ownnil _ _ _ _ h rfl
 obtain ⟨gm,G,hok,hnl,hrd,hFb,hGat,hG,hdj⟩:=key
 have hext : Ext I γ w I (gUp γ nm gm) w:=⟨fun b hb=>⟨hb,rfl⟩,zma hγn⟩
 have hnm : gUp γ nm gm nm = some gm:=by simp [gUp]
 have hgo : ∀ y,y ≠ nm → gUp γ nm gm y = γ y:=fun y e=>by rw [gUp,if_neg e]
 have look : ∀ y z,upd (upd g n (some { o with elems:=o.elems.set i (r.set j (handle sl nm ⟨et,es,rows,tight,fl,.rw⟩)),fl:=0 })) nm (some ⟨et,es,rows,tight,fl,.rw⟩) y = some z →
  (y = nm ∧ z = ⟨et,es,rows,tight,fl,.rw⟩) ∨ (y ≠ nm ∧ y = n ∧ z = { o with elems:=o.elems.set i (r.set j (handle sl nm ⟨et,es,rows,tight,fl,.rw⟩)),fl:=0 }) ∨ (y ≠ nm ∧ y ≠ n ∧ g y = some z):=by
  intro y z h1
  by_cases e : y = nm
  ·subst e; rw [zaD] at h1; cases h1; exact .inl ⟨rfl,rfl⟩
  ·rw [zaz _ _ e] at h1
   by_cases e' : y = n
   ·subst e'; rw [zaD] at h1; cases h1; exact .inr (.inl ⟨e,rfl,rfl⟩)
   ·rw [zaz _ _ e'] at h1; exact .inr (.inr ⟨e,e',h1⟩)
 have old : ∀ y z,y ≠ nm → upd (upd g n (some { o with elems:=o.elems.set i (r.set j (handle sl nm ⟨et,es,rows,tight,fl,.rw⟩)),fl:=0 })) nm (some ⟨et,es,rows,tight,fl,.rw⟩) y = some z → z.md ≠ .dead → ∃ z0,g y = some z0 ∧ z0.md ≠ .dead:=by
  intro y z e h1 h2
  rcases look y z h1 with ⟨h,_⟩ | ⟨_,rfl,rfl⟩ | ⟨_,_,h⟩
  ·exact absurd h e
  ·exact ⟨o,hg,hd⟩
  ·exact ⟨z,h,h2⟩
 have hhn : (handle sl nm ⟨et,es,rows,tight,fl,.rw⟩).isTree = false:=by unfold handle; split <;> rfl
 have hnew : ∀ y i' j' u,TCell (upd (upd g n (some { o with elems:=o.elems.set i (r.set j (handle sl nm ⟨et,es,rows,tight,fl,.rw⟩)),fl:=0 })) nm (some ⟨et,es,rows,tight,fl,.rw⟩)) y i' j' u →
  (y = nm ∧ zah rows i' j' = some u ∧ u.isTree = true) ∨ (y ≠ nm ∧ TCell g y i' j' u ∧ ¬ (y = n ∧ i' = i ∧ j' = j)):=by
  rintro y i' j' u ⟨z,h1,h2,h3,h4⟩
  rcases look y z h1 with ⟨rfl,rfl⟩ | ⟨e,rfl,rfl⟩ | ⟨e,e',h⟩
  ·exact .inl ⟨rfl,h3,h4⟩
  ·rcases zb4 hr hj h3 with ⟨rfl,rfl,rfl⟩ | ⟨h5,h6⟩
   ·rw [hhn] at h4; cases h4
   ·exact .inr ⟨e,⟨o,hg,hd,h6,h4⟩,fun h=>h5 h.2⟩
  ·exact .inr ⟨e,⟨z,h,h2,h3,h4⟩,fun h=>e' h.1⟩
 refine ⟨gUp γ nm gm,⟨fun y z h1 h2=>?_,?_,?_,?_,hi.lt,hi.keep,fun a ga h=>hext.nam _ _ (hi.fix a ga h),hi.back,hi.frame,hi.os,hi.tape,hi.output,hi.size,?_⟩,hext,fun gi' cur' ct fr' x' h1 h2 h3 h4=>?_⟩
 ·rcases look y z h1 with ⟨rfl,rfl⟩ | ⟨e,rfl,rfl⟩ | ⟨e,e',h⟩
  ·refine ⟨hok.rows,hok.cel,hok.closed,hok.scalar,?_⟩
   rcases hok.at_ with ⟨he,g1,q1,q2⟩ | ⟨g1,cm,fm,q1,hm⟩
   ·cases q1; exact .inl ⟨he,gm,hnm,q2⟩
   ·cases q1
    refine .inr ⟨gm,cm,fm,hnm,hm.nn,hm.es,hm.heap,hm.frz,hm.size,hm.le,hm.tight,hm.max,fun i' j' u hu=>?_,hm.ro,hm.rw⟩
    obtain ⟨y,y1,y2⟩:=hm.cells _ _ _ hu
    exact ⟨y,y1,y2.nl (hnl _ _ _ hu) ⟨_,_,hnm⟩⟩
  ·refine ⟨fun e he=>?_,fun i' j' u hu=>?_,fun h=>absurd rfl h,fun h=>by simp at h,.inr ⟨gi,cur,fr,hext.nam _ _ hγ,ha.nn,ha.es,ha.heap,ha.frz,ha.size,by simpa using ha.le,by simpa using ha.tight,ha.max,fun i' j' u hu=>?_,ha.ro,ha.rw⟩⟩
   ·rcases List.mem_or_eq_of_mem_set he with h3 | h3
    ·exact ho.rows e h3
    ·rw [h3,List.length_set]; exact hrl
   ·rcases zb4 hr hj hu with ⟨rfl,rfl,rfl⟩ | ⟨_,h6⟩
    ·unfold handle; split <;> rfl
    ·exact ho.cel _ _ _ h6
   ·rcases zb4 hr hj hu with ⟨rfl,rfl,rfl⟩ | ⟨_,h6⟩
    ·exact ⟨x,hx,hrd _ hnm⟩
    ·obtain ⟨y,y1,y2⟩:=ha.cells _ _ _ h6
     exact ⟨y,y1,hext.rd y2⟩
  ·exact (hi.obj y z h h2).ext hext fun _ _ _=>⟨rfl,fun _ h=>h⟩
 ·intro a b o1 o2 g1 g2 h1 h2 d1 d2 e1 e2 n1 n2 hb
  by_cases ea : a = nm <;> by_cases eb : b = nm
  ·rw [ea,eb]
  ·subst ea
   rw [hnm] at e1; cases e1
   rw [hgo b eb] at e2
   obtain ⟨z,k1,k2⟩:=old b o2 eb h2 d2
   exact absurd hb.symm (hF.nm _ _ _ _ _ t0 (hFb n1) b z g2 k1 k2 e2 n2)
  ·subst eb
   rw [hnm] at e2; cases e2
   rw [hgo a ea] at e1
   obtain ⟨z,k1,k2⟩:=old a o1 ea h1 d1
   exact absurd hb (hF.nm _ _ _ _ _ t0 (hFb n2) a z g1 k1 k2 e1 n1)
  ·rw [hgo a ea] at e1; rw [hgo b eb] at e2
   obtain ⟨z1,k1,k2⟩:=old a o1 ea h1 d1
   obtain ⟨z2,l1,l2⟩:=old b o2 eb h2 d2
   exact hi.inj a b z1 z2 g1 g2 k1 l1 k2 l2 e1 e2 n1 n2 hb
 ·intro a o1 g1 h1 d1 e1 n1
  by_cases ea : a = nm
  ·subst ea
   rw [hnm] at e1; cases e1
   exact (hF.fr _ _ _ _ _ t0 (hFb n1)).2.2
  ·rw [hgo a ea] at e1
   obtain ⟨z1,k1,k2⟩:=old a o1 ea h1 d1
   exact hi.own a z1 g1 k1 k2 e1 n1
 ·intro a g1 h1
  by_cases e : a = nm
  ·subst e; simp
  ·rw [zaz _ _ e]
   rw [hgo a e] at h1
   by_cases e' : a = n
   ·subst e'; simp
   ·rw [zaz _ _ e']; exact hi.dom a g1 h1
 ·refine ⟨fun y i' j' b=>(y = nm ∧ G i' j' b) ∨ (y ≠ nm ∧ F y i' j' b),fun y i' j' u hu gy cy ey fy h1 h2 h3=>?_,fun y i' j' u b hu hf=>?_,fun y i' j' u b hu hf=>?_,fun y i' j' u y2 i2 j2 u2 b hu hu2 hf hf2=>?_⟩
  ·rcases hnew y i' j' u hu with ⟨rfl,k1,k2⟩ | ⟨e,hu,_⟩
   ·rw [hnm] at h1; cases h1
    obtain ⟨z,z1,z2⟩:=hGat i' j' u cy ey fy k1 k2 h2 h3
    exact ⟨z,z1,z2.mono (Nat.le_refl _) (fun _ h=>⟨h,rfl⟩) (fun b hb=>.inl ⟨rfl,hb⟩) fun _ _=>⟨rfl,id⟩⟩
   ·rw [hgo y e] at h1
    obtain ⟨z,z1,z2⟩:=hF.at_ y i' j' u hu gy cy ey fy h1 h2 h3
    exact ⟨z,z1,z2.mono (Nat.le_refl _) (fun _ h=>⟨h,rfl⟩) (fun b hb=>.inr ⟨e,hb⟩) fun _ _=>⟨rfl,id⟩⟩
  ·rcases hnew y i' j' u hu with ⟨rfl,k1,k2⟩ | ⟨e,hu,_⟩
   ·rcases hf with ⟨_,hf⟩ | ⟨h,_⟩
    ·exact hF.fr _ _ _ _ b t0 (hG i' j' u b k1 k2 hf).1
    ·exact absurd rfl h
   ·rcases hf with ⟨h,_⟩ | ⟨_,hf⟩
    ·exact absurd h e
    ·exact hF.fr _ _ _ _ b hu hf
  ·intro y2 z gz h1 h2 h3 h4
   rcases hnew y i' j' u hu with ⟨rfl,k1,k2⟩ | ⟨e,hv,hvn⟩
   ·rcases hf with ⟨_,hf⟩ | ⟨h,_⟩
    ·obtain ⟨p1,p2⟩:=hG i' j' u b k1 k2 hf
     by_cases e2 : y2 = y
     ·subst e2; rw [hnm] at h3; cases h3; exact (p2 h4).symm
     ·rw [hgo y2 e2] at h3
      obtain ⟨z0,l1,l2⟩:=old y2 z e2 h1 h2
      exact hF.nm _ _ _ _ b t0 p1 y2 z0 gz l1 l2 h3 h4
    ·exact absurd rfl h
   ·rcases hf with ⟨h,_⟩ | ⟨_,hf⟩
    ·exact absurd h e
    ·by_cases e2 : y2 = nm
     ·subst e2; rw [hnm] at h3; cases h3
      intro hb
      subst hb
      exact hvn (hF.dj _ _ _ _ _ _ _ _ _ hv t0 hf (hFb h4))
     ·rw [hgo y2 e2] at h3
      obtain ⟨z0,l1,l2⟩:=old y2 z e2 h1 h2
      exact hF.nm _ _ _ _ b hv hf y2 z0 gz l1 l2 h3 h4
  ·rcases hnew y i' j' u hu with ⟨rfl,k1,k2⟩ | ⟨e,hv,hx1⟩ <;> rcases hnew y2 i2 j2 u2 hu2 with ⟨rfl,l1,l2⟩ | ⟨e2,hv2,hx2⟩
   ·rcases hf with ⟨_,hf⟩ | ⟨h,_⟩
    ·rcases hf2 with ⟨_,hf2⟩ | ⟨h,_⟩
     ·exact ⟨rfl,hdj _ _ _ _ _ _ b k1 k2 l1 l2 hf hf2⟩
     ·exact absurd rfl h
    ·exact absurd rfl h
   ·rcases hf with ⟨_,hf⟩ | ⟨h,_⟩
    ·rcases hf2 with ⟨h,_⟩ | ⟨_,hf2⟩
     ·exact absurd h e2
     ·exact absurd (hF.dj _ _ _ _ _ _ _ _ b hv2 t0 hf2 (hG _ _ _ b k1 k2 hf).1) hx2
    ·exact absurd rfl h
   ·rcases hf2 with ⟨_,hf2⟩ | ⟨h,_⟩
    ·rcases hf with ⟨h,_⟩ | ⟨_,hf⟩
     ·exact absurd h e
     ·exact absurd (hF.dj _ _ _ _ _ _ _ _ b hv t0 hf (hG _ _ _ b l1 l2 hf2).1) hx1
    ·exact absurd rfl h
   ·rcases hf with ⟨h,_⟩ | ⟨_,hf⟩
    ·exact absurd h e
    ·rcases hf2 with ⟨h,_⟩ | ⟨_,hf2⟩
     ·exact absurd h e2
     ·exact hF.dj _ _ _ _ _ _ _ _ b hv hv2 hf hf2
 ·rw [hγ] at h1; cases h1
  rw [ha.heap] at h3; cases h3
  rw [ha.es,hx] at h4; cases h4
  exact hrd _ hnm
theorem zbZ : ∀ (a b : List (Nat × AObj)) (g : Nat → Option AObj),zas g (a ++ b) = zas (zas g a) b
 | [],_,_=>rfl
 | (k,o) :: a,b,g=>zbZ a b (upd g k (some o))
theorem zlu : ∀ {l : List (Nat × AObj)} {gs g : Nat → Option AObj},(∀ n o,gs n = some o → g n = some o) → ∀ n o,zas gs l n = some o → zas g l n = some o
 | [],_,_,h,n,o,hn=>h n o hn
 | (k,x) :: l,gs,g,h,n,o,hn=>zlu (l:=l) (gs:=upd gs k (some x)) (g:=upd g k (some x)) (fun m y hm=>by
  unfold upd at hm ⊢
  split at hm
  ·rename_i e; rw [if_pos e]; exact hm
  ·rename_i e; rw [if_neg e]; exact h m y hm) n o hn
theorem Inv.cutF {w0 w : World} {ex : Ex} {I : Nat → Prop} {γ : Nat → Option GI} {g : Nat → Option AObj} (hi : Inv w0 ex I γ g w) {m : Nat} {o : AObj} (hg : g m = some o) (n : Nat) : Inv w0 ex I γ (upd g m (some (Lift.cutF n o))) w:=by
 have hct : ∀ {i j u},zah (o.elems.take n) i j = some u → zah o.elems i j = some u:=by
  intro i j u h
  have:=zaO (l:=0) (es:=o.elems) (n:=n) (i:=i) (j:=j) (u:=u) (by simpa using h)
  simpa using this
 have hok : ObjOk w I γ m o → ObjOk w I γ m (Lift.cutF n o):=by
  intro h
  refine ⟨fun e he=>h.rows e (List.mem_of_mem_take he),fun i j u hu=>h.cel _ _ _ (hct hu),fun hf i j u hu=>h.closed hf _ _ _ (hct hu),fun hf i j u hu=>h.scalar hf _ _ _ (hct hu),?_⟩
  rcases h.at_ with ⟨he,gi,h1,h2⟩ | ⟨gi,cur,fr,hγ,ha⟩
  ·exact .inl ⟨by simp [Lift.cutF,he],gi,h1,h2⟩
  ·exact .inr ⟨gi,cur,fr,hγ,ha.nn,ha.es,ha.heap,ha.frz,ha.size,by simp only [Lift.cutF,List.length_take]; have:=ha.le; omega,(fun h=>by cases h),ha.max,fun i j u hu=>ha.cells _ _ _ (hct hu),ha.ro,ha.rw⟩
 have hup : ∀ x y,upd g m (some (Lift.cutF n o)) x = some y → ∃ y0,g x = some y0 ∧ y.md = y0.md:=by
  intro x y h
  by_cases e : x = m
  ·subst e; rw [zaD] at h; cases h; exact ⟨o,hg,rfl⟩
  ·rw [zaz _ _ e] at h; exact ⟨y,h,rfl⟩
 refine ⟨fun x y hx hm=>?_,?_,?_,?_,hi.lt,hi.keep,hi.fix,hi.back,hi.frame,hi.os,hi.tape,hi.output,hi.size,?_⟩
 rotate_right
 ·obtain ⟨F,hF⟩:=hi.trees
  refine ⟨F,hF.less (fun _ h=>h) (fun _ _ _ _ _ _ _ h=>h) (fun x y hx hm=>.inl ?_) (fun x y gi hx hm hγ _=>⟨hγ,?_⟩)⟩
  ·obtain ⟨y0,a1,a2⟩:=hup x y hx
   refine ⟨y0,a1,by rw [← a2]; exact hm,fun i j u hu _=>?_⟩
   by_cases e : x = m
   ·subst e
    rw [zaD] at hx; cases hx
    rw [hg] at a1; cases a1
    exact hct hu
   ·rw [zaz _ _ e,a1] at hx; cases hx; exact hu
  ·obtain ⟨y0,a1,a2⟩:=hup x y hx
   exact ⟨y0,a1,by rw [← a2]; exact hm⟩
 ·by_cases e : x = m
  ·subst e; rw [zaD] at hx; cases hx; exact hok (hi.obj _ _ hg hm)
  ·rw [zaz _ _ e] at hx; exact hi.obj _ _ hx hm
 ·intro a b o1 o2 gi gi' h1 h2 d1 d2
  obtain ⟨p1,a1,a2⟩:=hup a o1 h1
  obtain ⟨p2,b1,b2⟩:=hup b o2 h2
  exact hi.inj a b p1 p2 gi gi' a1 b1 (by rw [← a2]; exact d1) (by rw [← b2]; exact d2)
 ·intro a o1 gi h1 d1
  obtain ⟨p1,a1,a2⟩:=hup a o1 h1
  exact hi.own a p1 gi a1 (by rw [← a2]; exact d1)
 ·intro a gi h1 h2
  by_cases e : a = m
  ·subst e; rw [zaD] at h2; cases h2
  ·rw [zaz _ _ e] at h2; exact hi.dom a gi h1 h2
theorem Inv.redead {w0 w : World} {ex : Ex} {I : Nat → Prop} {γ : Nat → Option GI} {g : Nat → Option AObj} (hi : Inv w0 ex I γ g w) {m : Nat} {o o' : AObj} (hg : g m = some o) (_hd : o.md = .dead) (hd' : o'.md = .dead) : Inv w0 ex I γ (upd g m (some o')) w:=by
 have hup : ∀ x y,upd g m (some o') x = some y → y.md ≠ .dead → g x = some y:=by
  intro x y h hy
  by_cases e : x = m
  ·subst e; rw [zaD] at h; cases h; exact absurd hd' hy
  ·rw [zaz _ _ e] at h; exact h
 refine ⟨fun n x hx hm=>hi.obj n x (hup n x hx hm) hm,fun a b o1 o2 gi gi' h1 h2 d1 d2=>hi.inj a b o1 o2 gi gi' (hup a o1 h1 d1) (hup b o2 h2 d2) d1 d2,fun a o1 gi h1 d1=>hi.own a o1 gi (hup a o1 h1 d1) d1,fun a gi h1 h2=>?_,
  hi.lt,hi.keep,hi.fix,hi.back,hi.frame,hi.os,hi.tape,hi.output,hi.size,by
   obtain ⟨F,hF⟩:=hi.trees
   exact ⟨F,hF.less (fun _ h=>h) (fun _ _ _ _ _ _ _ h=>h) (fun n x hx hm=>.inl ⟨x,hup n x hx hm,hm,fun _ _ _ h _=>h⟩) (fun n x gi hx hm hγ _=>⟨hγ,x,hup n x hx hm,hm⟩)⟩⟩
 by_cases e : a = m
 ·subst e; rw [zaD] at h2; cases h2
 ·rw [zaz _ _ e] at h2; exact hi.dom a gi h1 h2
theorem zuo {w0 w : World} {ex : Ex} {I : Nat → Prop} {γ : Nat → Option GI} {g gs : Nat → Option AObj} (hsub : ∀ n o,gs n = some o → g n = some o) (hi : Inv w0 ex I γ g w) (n j : Nat) : Inv w0 ex I γ (zas g (fold1 gs n j)) w:=by
 unfold fold1
 split
 ·rename_i o hg
  split
  ·rename_i row hrow
   split
   ·rename_i m hc
    split
    ·rename_i o' hg'
     split
     ·rename_i hcond
      obtain ⟨c1,c2,c3,c4⟩:=hcond
      have:=hi.fold (sl:=false) (i:=0) (j:=j) (r:=row) c1 (hsub _ _ hg) c2 (hsub _ _ hg') c3 c4 (by rw [hrow]; rfl) (by simpa [handle] using hc)
      rw [hrow] at this
      exact this
     ·exact hi
    ·exact hi
   ·rename_i m k hc
    split
    ·rename_i om hg'
     split
     ·rename_i hcond
      obtain ⟨c1,c2,c3,c4,c5⟩:=hcond
      have hlen : (cutF k om).elems.length = k:=by simp only [cutF,List.length_take]; omega
      have:=(hi.cutF (hsub _ _ hg') k).fold (n:=n) (m:=m) (o':=cutF k om) (sl:=true) (i:=0) (j:=j) (r:=row) c1 (by rw [zaz _ _ (fun e=>c1 e.symm)]; exact hsub _ _ hg) c2 (zaD _ _ _) c3 c4 (by rw [hrow]; rfl) (by simp only [handle,if_true,hlen]; exact hc)
      rw [hrow] at this
      have this:=this.redead (m:=m) (o:=Lift.kill (cutF k om)) (o':=Lift.kill om) (by rw [zaz _ _ c1,zaD]) rfl rfl
      have e : upd (upd (upd (upd g m (some (cutF k om))) m (some (Lift.kill (cutF k om)))) n (some { o with elems:=[row].set 0 (row.set j ((cutF k om).toTree true)),fl:=0 })) m (some (Lift.kill om)) = zas g [(m,Lift.kill om),(n,{ o with elems:=[row.set j ((cutF k om).toTree true)],fl:=0 })]:=by
       funext y
       simp only [zas,upd,List.set_cons_zero]
       by_cases hy : y = m
       ·subst hy; simp [c1]
       ·simp [hy]
      rw [e] at this
      exact this
     ·exact hi
    ·exact hi
   ·exact hi
  ·exact hi
 ·exact hi
def CloOk (w0 : World) (ex : Ex) (I : Nat → Prop) (γ : Nat → Option GI) (g : Nat → Option AObj) (w : World) (p : Clo) : Prop:=(∀ n o,p.g n = some o → zas g p.l n = some o) ∧ Inv w0 ex I γ (zas g p.l) w
section
variable {w0 w : World} {ex : Ex} {I : Nat → Prop} {γ : Nat → Option GI} {g : Nat → Option AObj}
theorem CloOk.step {p : Clo} (h : CloOk w0 ex I γ g w p) (n j : Nat) : CloOk w0 ex I γ g w (p.step n j):=by
 refine ⟨fun m o hm=>?_,?_⟩
 ·show zas g (p.l ++ fold1 p.g n j) m = some o
  rw [zbZ]
  exact zlu h.1 m o hm
 ·show Inv w0 ex I γ (zas g (p.l ++ fold1 p.g n j)) w
  rw [zbZ]
  exact zuo h.1 h.2 n j
theorem zgt {K : Nat → Clo → Clo} (hK : ∀ m p,CloOk w0 ex I γ g w p → CloOk w0 ex I γ g w (K m p)) (n : Nat) : ∀ (cs : List V) (j : Nat) (p : Clo),CloOk w0 ex I γ g w p → CloOk w0 ex I γ g w (zci K n cs j p)
 | [],_,_,h=>h
 | c :: cs,j,p,h=>by
  simp only [zci]
  refine zgt hK n cs (j + 1) _ ?_
  split
  ·exact (hK _ _ h).step _ _
  ·exact (hK _ _ h).step _ _
  ·exact h
theorem znf : ∀ (k n : Nat) (p : Clo),CloOk w0 ex I γ g w p → CloOk w0 ex I γ g w (zdY k n p)
 | 0,_,_,h=>h
 | k + 1,n,p,h=>by
  simp only [zdY]
  split
  ·split
   ·exact h
   ·split
    ·exact zgt (fun m p h=>znf k m p h) n _ _ _ h
    ·exact h
  ·exact h
theorem zjf : ∀ (ns : List Nat) (p : Clo),CloOk w0 ex I γ g w p → CloOk w0 ex I γ g w (zii ns p)
 | [],_,h=>h
 | n :: ns,p,h=>zjf ns _ (znf 4 n p h)
theorem zhi (hi : Inv w0 ex I γ g w) (refs : List Nat) : Inv w0 ex I γ (zas g (zcL g refs)) w:=by
 unfold zcL
 split
 ·exact hi
 ·refine (zjf refs _ ⟨fun n o hn=>?_,hi⟩).2
  show g n = some o
  simp only [zd7] at hn
  split at hn
  ·exact hn
  ·cases hn
theorem zmY {P : Program} {T : TypeId → Option TI} (hT : zaJ P T) (hi : Inv w0 ex I γ g w) {nm : Nat} {t : TypeId} {x : V} {vx : Value} {e : Eff} (hx : Rd w I γ x vx) (h : zhG T g nm t x = some e) :
 ∃ r γ',(Instr.loadAt t vx).run P w = .ok r w ∧ Rd w I γ' e.v r ∧ Inv w0 ex I γ' (zas g e.wr) w ∧ Ext I γ w I γ' w:=by
 have plain : ∀ {x e},Rd w I γ x vx → aLoad T g t x = some e → ∃ r γ',(Instr.loadAt t vx).run P w = .ok r w ∧ Rd w I γ' e.v r ∧ Inv w0 ex I γ' (zas g e.wr) w ∧ Ext I γ w I γ' w:=by
  intro x e hx h
  obtain ⟨h1,r,h2,h3⟩:=ziZ hT hi hx h
  rw [h1]
  exact ⟨r,γ,h2,h3,hi,Ext.refl _ _ _⟩
 unfold zhG at h
 split at h
 ·rename_i n i j
  split at h
  ·rename_i o hg
   split at h
   ·exact plain hx h
   ·unfold zkN at h
    split at h
    ·rename_i r hr
     split at h
     ·rename_i sl et es rows tight fl hc
      split at h
      ·rename_i hcond
       obtain ⟨hmd,ht1⟩:=hcond
       split at h
       ·rename_i hn
        cases h
        cases hx with
        | ptr _ _ _ _ gi hγ hnn =>
         obtain ⟨cur,fr,ha⟩:=hi.at_own hg (by rw [hmd]; decide) hγ hnn
         obtain ⟨y,y1,_⟩:=ha.cells i j _ (zay hr hc)
         obtain ⟨γ',q1,q2,q3⟩:=hi.unfold (nm:=nm) hg hmd hn hr hc
         have hrd:=q3 gi cur _ _ y hγ hnn ha.heap (by rw [ha.es]; exact y1)
         unfold isOne at ht1
         split at ht1
         ·rename_i ti hti
          have hf : zbo ti [handle sl nm ⟨et,es,rows,tight,fl,.rw⟩] = some (wrap1 T t (handle sl nm ⟨et,es,rows,tight,fl,.rw⟩)):=by
           unfold zbo wrap1
           rw [hti]
           cases hagg : ti.agg with
           | false=>simp [hagg]
           | true =>
            rw [hagg] at ht1
            have hsz : ti.size = 1:=by simpa using ht1
            simp [hsz,hagg]
          obtain ⟨z,z1,z2⟩:=zdS hT hti hf (a:=⟨gi.blk,i * gi.es + j,none⟩) (xs:=fun _=>y) (I:=I) (γ:=γ') (fun k u hu=>by
           cases k with
           | succ k=>simp at hu
           | zero =>
            simp at hu; subst hu
            refine ⟨?_,hrd⟩
            rw [zcx,cell_of_row w gi.blk _ cur o.et fr ha.heap,ha.es,Nat.add_zero,y1])
          exact ⟨z,γ',by simpa [Instr.loadAt,Instr.sureAddr] using z1,z2,q1,q2⟩
         ·cases ht1
       ·cases h
      ·cases h
     ·exact plain hx h
    ·cases h
  ·cases h
 ·exact plain hx h
end
end Go.Lift

