/-
  The operations of Go's code on plain data: what each yields, which objects it writes, which it reads.
-/
import Derived.Test.YtgnfgcpolbcaoaaL1
namespace Go.Lift

inductive Md where
  | rw | ro | dead
  deriving DecidableEq

/-- An object of a frame: elements of 'es' cells each. 'tight': its capacity is the number of its elements. 'fl': 1 if every cell is closed, 2 if every cell is closed and scalar. -/
structure AObj where
  et : TypeId
  es : Nat
  elems : List (List V)
  tight : Bool
  fl : Nat
  md : Md

structure St where
  s : Nat → V
  g : Nat → Option AObj
  c : Nat

/-- What is known of a type. -/
structure TI where
  desc : TypeDesc
  size : Nat
  bytes : Nat
  zero : List V
  agg : Bool

def ofCell : Value → V
  | .int k n => .int k n
  | .bool b => .bool b
  | .string s => .str s
  | .slice none 0 0 => .sl 0 1 []
  | .pointer none => .pnil
  | _ => .junk

def ofConst : Value → V
  | .agg cs => .agg (cs.toList.map ofCell)
  | v => ofCell v

def descOf (T : TypeId → Option TI) (t : TypeId) : Option TypeDesc := match T t with | some ti => some ti.desc | none => none

structure TypeOk (P : Program) (t : TypeId) (ti : TI) : Prop where
  under : P.underlying t = some ti.desc
  info : ∃ i z, P.info? t = some i ∧ i.size = ti.size ∧ i.bytes = ti.bytes ∧ i.zero = some z ∧ z.cells.size = ti.size ∧ z.cells.toList.map ofCell = ti.zero
  isAgg : ti.agg = (match ti.desc with | .struct _ | .array _ _ => true | _ => false)

def TypesOk (P : Program) (T : TypeId → Option TI) : Prop := ∀ t ti, T t = some ti → TypeOk P t ti

structure Eff where
  v : V
  wr : List (Nat × AObj)
  rd : List Nat

/-- What a call hands back: its value, and the objects that it was handed by address, behind it, followed by those that it made. -/
structure CRes where
  v : V
  objs : List AObj

def upd {α : Type} (f : Nat → α) (k : Nat) (v : α) : Nat → α := fun n => if n = k then v else f n
@[simp] theorem upd_same {α : Type} (f : Nat → α) (k : Nat) (v : α) : upd f k v k = v := by simp [upd]
theorem upd_ne {α : Type} (f : Nat → α) {k n : Nat} (v : α) (h : n ≠ k) : upd f k v n = f n := by simp [upd, h]

def setAll (g : Nat → Option AObj) : List (Nat × AObj) → Nat → Option AObj
  | [] => g
  | (k, o) :: r => setAll (upd g k (some o)) r

def V.cells : V → List V
  | .agg cs => cs
  | v => [v]

def cellularAll : List V → Bool
  | [] => true
  | c :: cs => c.cellular && cellularAll cs

/-- How much is known of a list of cells. -/
def flOf (cs : List V) : Nat := if V.closed.closedAll cs then (if V.scalar.scalarAll cs then 2 else 1) else 0
def flOfRows : List (List V) → Nat
  | [] => 2
  | r :: rs => min (flOf r) (flOfRows rs)

def aInt (op : BinOp) (k : IntKind) (a b : Int) : Option V :=
  match op with
  | .add => some (.int k (k.wrap (a + b)))
  | .sub => some (.int k (k.wrap (a - b)))
  | .mul => some (.int k (k.wrap (a * b)))
  | .quo => if b = 0 then none else some (.int k (k.wrap (a.tdiv b)))
  | .rem => if b = 0 then none else some (.int k (a.tmod b))
  | .and => some (.int k (k.wrap (BitVec.ofInt k.bits a &&& BitVec.ofInt k.bits b).toNat))
  | .or => some (.int k (k.wrap (BitVec.ofInt k.bits a ||| BitVec.ofInt k.bits b).toNat))
  | .xor => some (.int k (k.wrap (BitVec.ofInt k.bits a ^^^ BitVec.ofInt k.bits b).toNat))
  | .andNot => some (.int k (k.wrap (BitVec.ofInt k.bits a &&& ~~~BitVec.ofInt k.bits b).toNat))
  | .eql => some (.bool (a == b))
  | .neq => some (.bool (a != b))
  | .lss => some (.bool (decide (a < b)))
  | .leq => some (.bool (decide (a ≤ b)))
  | .gtr => some (.bool (decide (a > b)))
  | .geq => some (.bool (decide (a ≥ b)))
  | _ => none

def aShift (op : BinOp) (k : IntKind) (a b : Int) : Option V :=
  if b < 0 then none else
  match op with
  | .shl => some (.int k (k.wrap (a * 2 ^ min b.toNat k.bits)))
  | .shr => some (.int k (a.fdiv (2 ^ min b.toNat k.bits)))
  | _ => none

def aStr (op : BinOp) (x y : ByteArray) : Option V :=
  match op with
  | .add => if ((x.size + y.size : Nat) : Int) > IntKind.i64.max then none else some (.str (x ++ y))
  | .eql => some (.bool (x.toList == y.toList))
  | .neq => some (.bool (!(x.toList == y.toList)))
  | .lss => some (.bool (Op.bytesLess x.toList y.toList))
  | .leq => some (.bool (Op.bytesLess x.toList y.toList || x.toList == y.toList))
  | .gtr => some (.bool (!(Op.bytesLess x.toList y.toList || x.toList == y.toList)))
  | .geq => some (.bool (!(Op.bytesLess x.toList y.toList)))
  | _ => none

def isShift : BinOp → Bool
  | .shl | .shr => true
  | _ => false

def aBin (T : TypeId → Option TI) (op : BinOp) (xt : TypeId) (x y : V) : Option V :=
  match x, y with
  | .int k a, .int k' b => if isShift op then aShift op k a b else if k = k' then aInt op k a b else none
  | .str a, .str b => aStr op a b
  | .bool a, .bool b => match descOf T xt, op with
    | some .bool, .eql => some (.bool (a == b))
    | some .bool, .neq => some (.bool (!(a == b)))
    | _, _ => none
  | .sl t _ rows, .sl 0 _ [] => match descOf T xt, op with
    | some (.slice _), .eql => if t = 0 then some (.bool true) else if t = 1 ∨ t = 4 ∨ rows.isEmpty = false then some (.bool false) else some .anyB
    | some (.slice _), .neq => if t = 0 then some (.bool false) else if t = 1 ∨ t = 4 ∨ rows.isEmpty = false then some (.bool true) else some .anyB
    | _, _ => none
  | .own _ _ n, .sl 0 _ [] => match descOf T xt, op with
    | some (.slice _), .eql => if n ≠ 0 then some (.bool false) else some .anyB
    | some (.slice _), .neq => if n ≠ 0 then some (.bool true) else some .anyB
    | _, _ => none
  | _, _ => none

def aUn (op : UnOp) (x : V) : Option V :=
  match op, x with
  | .neg, .int k n => aInt .sub k 0 n
  | .xor, .int k n => some (.int k (k.wrap (-n - 1)))
  | .not, .bool b => some (.bool !b)
  | .not, .anyB => some .anyB
  | _, _ => none

/-- The elements of a slice, and the object that they are read from. -/
def elemsOf (g : Nat → Option AObj) : V → Option (List (List V) × List Nat)
  | .sl _ _ es => some (es, [])
  | .own nm off n => match g nm with
    | some o => if o.md ≠ .dead ∧ off + n ≤ o.elems.length then some ((o.elems.drop off).take n, [nm]) else none
    | none => none
  | _ => none

def byteRow (l : List UInt8) : List (List V) := l.map fun b => [.int .u8 b.toNat]
def bytesOf : List (List V) → Option (List UInt8)
  | [] => some []
  | e :: es => match e, bytesOf es with
    | [.int .u8 n], some l => some (UInt8.ofNat n.toNat :: l)
    | _, _ => none

def isByte (T : TypeId → Option TI) (e : TypeId) : Bool :=
  match T e with
  | some ti => (match ti.desc with | .int .u8 => ti.size == 1 | _ => false)
  | none => false

def fresh (nm : Nat) (o : AObj) (v : V) (rd : List Nat) (g : Nat → Option AObj) : Option Eff :=
  match g nm with
  | none => some ⟨v, [(nm, o)], rd⟩
  | some _ => none

def pureEff (v : Option V) : Option Eff := v.map fun v => ⟨v, [], []⟩

def aConv (T : TypeId → Option TI) (g : Nat → Option AObj) (nm : Nat) (src dst : TypeId) (x : V) : Option Eff :=
  match descOf T src, descOf T dst, x with
  | some _, some (.int k), .int _ n => some ⟨.int k (k.wrap n), [], []⟩
  | some _, some (.string), .str s => some ⟨.str s, [], []⟩
  | some (.slice e), some (.string), x =>
    if isByte T e then match elemsOf g x with
      | some (es, rd) => (bytesOf es).map fun l => ⟨.str ⟨l.toArray⟩, [], rd⟩
      | none => none
    else none
  | some .string, some (.slice e), .str s =>
    if isByte T e && decide (s.size ≤ maxLen) then fresh nm ⟨e, 1, byteRow s.data.toList, false, 2, .rw⟩ (.own nm 0 s.size) [] g else none
  | _, _, _ => none

def aMake (T : TypeId → Option TI) (g : Nat → Option AObj) (nm : Nat) (t : TypeId) (l c : V) : Option Eff :=
  match descOf T t, l, c with
  | some (.slice e), .int _ l, .int _ c => match T e with
    | some ei =>
      if 0 ≤ l ∧ l ≤ c ∧ c ≤ 140737488351232 ∧ (ei.bytes : Int) * c ≤ 140737488355328 ∧ cellularAll ei.zero = true then
        fresh nm ⟨e, ei.size, List.replicate l.toNat ei.zero, decide (l = c), flOf ei.zero, .rw⟩ (.own nm 0 l.toNat) [] g
      else none
    | none => none
  | _, _, _ => none

def lowOf : Option V → Option Int
  | none => some 0
  | some (.int _ n) => some n
  | _ => none
def highOf (d : Nat) : Option V → Option Int
  | none => some d
  | some (.int _ n) => some n
  | _ => none

def sizeT (T : TypeId → Option TI) (e : TypeId) : Option Nat := match T e with | some ei => some ei.size | none => none

/-- The tag of a part of a slice. -/
def cutTag (t : Nat) (b : Bool) : Nat := if t = 0 then 0 else if t ≠ 2 ∧ b = true then t else 2
def aSlice (T : TypeId → Option TI) (g : Nat → Option AObj) (t : TypeId) (x : V) (lo hi mx : Option V) : Option V :=
  match descOf T t, x with
  | some .string, .str s => match lowOf lo, highOf s.size hi, mx with
    | some l, some h, none => if 0 ≤ l ∧ l ≤ h ∧ h ≤ s.size then some (.str (s.extract l.toNat h.toNat)) else none
    | _, _, _ => none
  | some (.slice e), .sl t sz es => if sizeT T e = some sz ∨ t = 0 ∧ (sizeT T e).isSome = true then match lowOf lo, highOf es.length hi, mx with
    | some l, some h, none =>
      if 0 ≤ l ∧ l ≤ h ∧ h ≤ es.length then
        some (.sl (cutTag t (decide (h = es.length))) sz ((es.drop l.toNat).take (h.toNat - l.toNat)))
      else none
    | some l, some h, some (.int _ m) =>
      if 0 ≤ l ∧ l ≤ h ∧ h ≤ es.length ∧ m = h ∧ hi.isSome = true then some (.sl (if t = 0 then 0 else if t = 1 then 1 else 3) sz ((es.drop l.toNat).take (h.toNat - l.toNat))) else none
    | _, _, _ => none
    else none
  | some (.slice e), .own nm off n => match g nm with
    | some o => if sizeT T e = some o.es ∧ o.md ≠ .dead then match lowOf lo, highOf n hi, mx with
      | some l, some h, none => if 0 ≤ l ∧ l ≤ h ∧ h ≤ n then some (.own nm (off + l.toNat) (h.toNat - l.toNat)) else none
      | _, _, _ => none
      else none
    | none => none
  | _, _ => none

def fieldOf (T : TypeId → Option TI) (s : TypeId) (f : Nat) : Option (Nat × TI) :=
  match descOf T s with
  | some (.struct fs) => match fs[f]? with
    | some fd => (T fd.type).map fun ti => (fd.offset, ti)
    | none => none
  | _ => none

/-- A value of a type out of cells. -/
def fromCells (ti : TI) (cs : List V) : Option V :=
  if ti.agg then (if (cs.take ti.size).length = ti.size then some (.agg (cs.take ti.size)) else none)
  else match cs with
    | c :: _ => some c
    | [] => none

def aFieldAddr (T : TypeId → Option TI) (s : TypeId) (x : V) (f : Nat) : Option V :=
  match fieldOf T s f with
  | some (off, ti) => if ti.size = 0 then none else match x with
    | .ptr nm i j => some (.ptr nm i (j + off))
    | .pp cs => some (.pp (cs.drop off))
    | _ => none
  | none => none

def aField (T : TypeId → Option TI) (s : TypeId) (x : V) (f : Nat) : Option V :=
  match fieldOf T s f with
  | some (off, ti) => match x with
    | .agg cs => fromCells ti (cs.drop off)
    | _ => none
  | none => none

def aIndexAddr (T : TypeId → Option TI) (g : Nat → Option AObj) (t : TypeId) (x ix : V) : Option V :=
  match descOf T t, x, ix with
  | some (.slice e), .sl _ sz es, .int _ i => if 0 ≤ i ∧ sizeT T e = some sz then (es[i.toNat]?).map .pp else none
  | some (.slice e), .own nm off n, .int _ i => match g nm with
    | some o => if 0 ≤ i ∧ i < n ∧ sizeT T e = some o.es ∧ o.md ≠ .dead then some (.ptr nm (off + i.toNat) 0) else none
    | none => none
  | _, _, _ => none

def aIndex (T : TypeId → Option TI) (t : TypeId) (x ix : V) : Option V :=
  match descOf T t, x, ix with
  | some .string, .str s, .int _ i => if 0 ≤ i then (s.data.toList[i.toNat]?).map fun b => .int .u8 b.toNat else none
  | _, _, _ => none

def aLoad (T : TypeId → Option TI) (g : Nat → Option AObj) (t : TypeId) (x : V) : Option Eff :=
  match T t with
  | none => none
  | some ti => match x with
    | .pp cs => (fromCells ti cs).map fun v => ⟨v, [], []⟩
    | .ptr nm i j => match g nm with
      | some o => if o.md = .dead then none else match o.elems[i]? with
        | some r => (fromCells ti (r.drop j)).map fun v => ⟨v, [], [nm]⟩
        | none => none
      | none => none
    | _ => none

/-- 'r' with the cells 'cs' from place j on. -/
def splice (r : List V) (j : Nat) (cs : List V) : List V := r.take j ++ cs ++ r.drop (j + cs.length)

def aStore (T : TypeId → Option TI) (g : Nat → Option AObj) (t : TypeId) (x v : V) : Option Eff :=
  match T t, x with
  | some ti, .ptr nm i j => match g nm with
    | some o => if o.md = .rw then match o.elems[i]? with
      | some r => if v.cells.length = ti.size ∧ cellularAll v.cells = true ∧ j + v.cells.length ≤ r.length then
          some ⟨.junk, [(nm, { o with elems := o.elems.set i (splice r j v.cells), fl := min o.fl (flOf v.cells) })], [nm]⟩ else none
      | none => none
      else none
    | none => none
  | _, _ => none

def V.isJunk : V → Bool
  | .junk => true
  | .tup [] => true
  | _ => false

def fillV (place : Nat → Option (Nat × Nat)) (cells : List V) : List (Nat × V) → Option (List V)
  | [] => some cells
  | (i, v) :: rest => match place i with
    | none => none
    | some (off, size) => if v.cells.length = size ∧ off + v.cells.length ≤ cells.length ∧ v.isJunk = false then fillV place (splice cells off v.cells) rest else none

def placeOf (T : TypeId → Option TI) (fs : Array Field) (i : Nat) : Option (Nat × Nat) :=
  match fs[i]? with
  | some f => (T f.type).map fun fi => (f.offset, fi.size)
  | none => none

def aBuild (T : TypeId → Option TI) (t : TypeId) (parts : List (Nat × V)) : Option V :=
  match T t with
  | some ⟨.struct fs, _, _, zero, _⟩ => if fs.all (fun f => (T f.type).isSome) then (fillV (placeOf T fs) zero parts).map .agg else none
  | _ => none

def rowsOf (es : Nat) : Nat → List V → List (List V)
  | 0, _ => []
  | n + 1, cs => cs.take es :: rowsOf es n (cs.drop es)

def aBuildSlice (T : TypeId → Option TI) (g : Nat → Option AObj) (nm : Nat) (t : TypeId) (len : Nat) (parts : List (Nat × V)) : Option Eff :=
  match descOf T t with
  | some (.slice e) => match T e with
    | some ei =>
      if len * ei.size ≤ 16777216 ∧ len ≤ 16777216 ∧ 0 < ei.size then match fillV (fun i => some (i * ei.size, ei.size)) (List.replicate len ei.zero).flatten parts with
        | some cs => if cellularAll cs then fresh nm ⟨e, ei.size, rowsOf ei.size len cs, true, flOf cs, .rw⟩ (.own nm 0 len) [] g else none
        | none => none
      else none
    | none => none
  | _ => none

def kill (o : AObj) : AObj := { o with md := .dead }

/-- An object of which no more than n elements are known. -/
def cutO (n : Nat) (o : AObj) : AObj := if n < o.elems.length then { o with elems := o.elems.take n, tight := false } else o

/-- 'append' where the elements and what is known of them are given. -/
def aAppend (T : TypeId → Option TI) (g : Nat → Option AObj) (nm : Nat) (e : TypeId) (x : V) (src : List (List V)) (sfl : Nat) (rd : List Nat) : Option Eff :=
  match T e with
  | none => none
  | some ei =>
    if ei.size = 0 then none else
    match x with
    | .sl tg _ [] => if (tg = 0 ∨ tg = 1 ∨ tg = 3) ∧ (src.length : Int) * ei.bytes ≤ 140737488355328 ∧ (src.length : Int) ≤ 140737488355328 then fresh nm ⟨e, ei.size, src, false, sfl, .rw⟩ (.own nm 0 src.length) rd g else none
    | .own m off n => match (g m).map (cutO n) with
      | some o =>
        if o.et ≠ e ∨ o.es ≠ ei.size ∨ o.md ≠ .rw ∨ off ≠ 0 ∨ n ≠ o.elems.length then none else
        if ((n + src.length : Nat) : Int) * ei.bytes ≤ 140737488355328 ∧ ((n + src.length : Nat) : Int) ≤ 140737488355328 then
          match g nm with
          | none => some ⟨.own nm 0 (n + src.length), [(m, kill o), (nm, ⟨e, ei.size, o.elems ++ src, false, min o.fl sfl, .rw⟩)], m :: rd⟩
          | some _ => none
        else none
      | none => none
    | _ => none

/-- 'append' of zero elements to nil. -/
def aZeros (T : TypeId → Option TI) (g : Nat → Option AObj) (nm : Nat) (e : TypeId) (n : Int) : Option Eff :=
  match T e with
  | some ei => if 0 < n ∧ n ≤ 140737488355328 ∧ n * ei.bytes ≤ 140737488355328 ∧ cellularAll ei.zero = true then fresh nm ⟨e, ei.size, List.replicate n.toNat ei.zero, false, flOf ei.zero, .rw⟩ (.own nm 0 n.toNat) [] g else none
  | none => none

def scalarRows : List (List V) → Bool
  | [] => true
  | r :: rs => V.scalar.scalarAll r && scalarRows rs

/-- What is known of the elements that a slice has. -/
def flOfSrc (g : Nat → Option AObj) : V → Nat
  | .sl _ _ rows => if scalarRows rows then 2 else 1
  | .own nm _ _ => match g nm with | some o => o.fl | none => 0
  | _ => 0

def szOf (g : Nat → Option AObj) : V → Option Nat
  | .sl _ sz _ => some sz
  | .own nm _ _ => match g nm with | some o => some o.es | none => none
  | _ => none

def aMin (isMax : Bool) : List V → Option V
  | [.int k a, .int k' b] => if k = k' then some (.int k (if isMax then (if a < b then b else a) else (if b < a then b else a))) else none
  | _ => none

def aBuiltin (T : TypeId → Option TI) (g : Nat → Option AObj) (nm : Nat) (b : Builtin) (tys : List TypeId) (args : List V) : Option Eff :=
  match b, args with
  | .len, [x] => match (match tys with | t :: _ => descOf T t | [] => none), x with
    | some (.string), .str s => some ⟨.int .i64 s.size, [], []⟩
    | some (.slice _), .sl _ _ es => some ⟨.int .i64 es.length, [], []⟩
    | some (.slice _), .own _ _ n => some ⟨.int .i64 n, [], []⟩
    | _, _ => none
  | .cap, [.sl tg _ es] => match (match tys with | t :: _ => descOf T t | [] => none) with
    | some (.slice _) => if tg = 0 then (if es.isEmpty then some ⟨.int .i64 0, [], []⟩ else none) else if tg = 1 ∨ tg = 3 then some ⟨.int .i64 es.length, [], []⟩ else none
    | _ => none
  | .append, [x, y] => match (match tys with | t :: _ => descOf T t | [] => none), tys with
    | some (.slice e), [_, ty] => match descOf T ty, y with
      | some .string, .str s => if isByte T e then aAppend T g nm e x (byteRow s.data.toList) 2 [] else none
      | some (.slice _), y => match elemsOf g y with
        | some (es, rd) => if szOf g y = sizeT T e ∨ es.isEmpty = true then aAppend T g nm e x es (flOfSrc g y) rd else none
        | none => none
      | some (.int .i64), .int .i64 n => match x with
        | .sl 0 _ [] => aZeros T g nm e n
        | _ => none
      | _, _ => none
    | _, _ => none
  | .min, l => pureEff (aMin false l)
  | .max, l => pureEff (aMin true l)
  | _, _ => none

/-- New names for the objects of data. -/
def V.ren (f : Nat → Nat) : V → V
  | .own nm off n => .own (f nm) off n
  | .ptr nm i j => .ptr (f nm) i j
  | .agg cs => .agg (renAll f cs)
  | .tup cs => .tup (renAll f cs)
  | v => v
where renAll (f : Nat → Nat) : List V → List V
  | [] => []
  | c :: cs => c.ren f :: renAll f cs

def AObj.ren (f : Nat → Nat) (o : AObj) : AObj := if o.fl = 0 then { o with elems := o.elems.map (V.ren.renAll f) } else o

def posOf (n : Nat) : List Nat → Option Nat
  | [] => none
  | m :: ms => if m = n then some 0 else match posOf n ms with | some k => some (k + 1) | none => none

def deepCells (F : V → Option (V × List Nat)) : List V → Option (List V × List Nat)
  | [] => some ([], [])
  | c :: cs => match F c, deepCells F cs with
    | some (v, b), some (vs, bs) => some (v :: vs, b ++ bs)
    | _, _ => none
def deepRows (F : V → Option (V × List Nat)) : List (List V) → Option (List (List V) × List Nat)
  | [] => some ([], [])
  | c :: cs => match deepCells F c, deepRows F cs with
    | some (v, b), some (vs, bs) => some (v :: vs, b ++ bs)
    | _, _ => none
/-- A cell of an open object, as it is read by a callee that writes none of it. -/
def deepV (g : Nat → Option AObj) (refs : List Nat) : Nat → V → Option (V × List Nat)
  | k + 1, .own nm off n => if refs.contains nm then none else match g nm with
    | some o => if o.md ≠ .dead ∧ off + n ≤ o.elems.length then match (if o.fl ≠ 0 then some ((o.elems.drop off).take n, []) else deepRows (deepV g refs k) ((o.elems.drop off).take n)) with
      | some (rows, bs) => some (.sl 2 o.es rows, nm :: bs)
      | none => none
      else none
    | none => none
  | _, v => if v.closed then some (v, []) else none
/-- The names of objects that stand in a value, and in the cells of open ones of these. -/
def deepNm (g : Nat → Option AObj) : Nat → V → List Nat
  | k + 1, .own nm _ _ => nm :: (match g nm with
    | some o => if o.fl ≠ 0 then [] else o.elems.flatMap fun r => r.flatMap (deepNm g k)
    | none => [])
  | _, _ => []

/-- One argument as the callee sees it: the frame's own slices as slices that nobody writes, addresses by the places of their objects in the list 'refs'. -/
def argOne (g : Nat → Option AObj) (refs : List Nat) : V → Option (V × List Nat)
  | .own nm off n => match posOf nm refs with
    | some k => some (.own k off n, [])
    | none => match g nm with
    | some o => if o.md ≠ .dead ∧ o.fl ≠ 0 ∧ off + n ≤ o.elems.length then some (.sl 2 o.es ((o.elems.drop off).take n), [nm]) else if o.fl = 0 then deepV g refs 3 (.own nm off n) else none
    | none => none
  | .ptr nm i j => match posOf nm refs with
    | some k => some (.ptr k i j, [])
    | none => none
  | v => if v.closed then some (v, []) else none
def argCells (g : Nat → Option AObj) (refs : List Nat) : List V → Option (List V × List Nat)
  | [] => some ([], [])
  | c :: cs => match argOne g refs c, argCells g refs cs with
    | some (v, b), some (vs, bs) => some (v :: vs, b ++ bs)
    | _, _ => none
def argV (g : Nat → Option AObj) (refs : List Nat) : V → Option (V × List Nat)
  | .agg cs => (argCells g refs cs).map fun (vs, bs) => (.agg vs, bs)
  | v => argOne g refs v
def argVs (g : Nat → Option AObj) (refs : List Nat) : List V → Option (List V × List Nat)
  | [] => some ([], [])
  | c :: cs => match argV g refs c, argVs g refs cs with
    | some (v, b), some (vs, bs) => some (v :: vs, b ++ bs)
    | _, _ => none

def ptrNames : List V → List Nat
  | [] => []
  | .ptr nm _ _ :: r => let l := ptrNames r; if l.contains nm then l else nm :: l
  | _ :: r => ptrNames r

/-- The objects that are handed over by address: alive, closed, and not written by anybody else. -/
def refObjs (g : Nat → Option AObj) : List Nat → Option (List AObj)
  | [] => some []
  | n :: ns => match g n, refObjs g ns with
    | some o, some os => if o.md = .rw ∧ o.fl ≠ 0 then some (o :: os) else none
    | _, _ => none

def allScalar : List AObj → Bool
  | [] => true
  | o :: os => decide (o.fl = 2) && allScalar os
def noneOpen : List AObj → Bool
  | [] => true
  | o :: os => decide (o.fl ≠ 0) && noneOpen os

def numbered (nm : Nat) (f : Nat → Nat) : Nat → List AObj → List (Nat × AObj)
  | _, [] => []
  | j, o :: os => (nm + j, o.ren f) :: numbered nm f (j + 1) os

def freshAll (g : Nat → Option AObj) (nm : Nat) : Nat → Bool
  | 0 => true
  | k + 1 => (g (nm + k)).isNone && freshAll g nm k

def freeze (g : Nat → Option AObj) : List Nat → List (Nat × AObj)
  | [] => []
  | n :: ns => match g n with
    | some o => (n, { o with md := .ro }) :: freeze g ns
    | none => freeze g ns

def disjoint (a b : List Nat) : Bool := a.all fun x => !b.contains x

def callNames (refs : List Nat) (nm : Nat) (k : Nat) : Nat := match refs[k]? with | some n => n | none => nm + (k - refs.length)

/-- A call, by what the callee is known to do; 'refs': the objects that it may write. -/
def aCallR (C : FuncId → List V → List AObj → Option CRes) (g : Nat → Option AObj) (nm : Nat) (f : FuncId) (args : List V) (refs : List Nat) : Option Eff :=
  match argVs g refs args, refObjs g refs with
  | some (vs, bs), some os => if disjoint refs bs then match C f vs os with
      | some r =>
        let news := r.objs.drop refs.length
        let olds := r.objs.take refs.length
        if refs.length ≤ r.objs.length ∧ news.length ≤ 8 ∧ freshAll g nm 8 = true ∧ noneOpen olds = true then
          let keep := (r.v.scalar && allScalar r.objs) || bs.isEmpty
          some ⟨r.v.ren (callNames refs nm), refs.zip olds ++ numbered nm (callNames refs nm) 0 news ++ (if keep then [] else freeze g bs), refs ++ bs ++ (List.range 8).map (nm + ·)⟩
        else none
      | none => none
      else none
  | _, _ => none

def nameOf : V → List Nat
  | .own nm _ _ | .ptr nm _ _ => [nm]
  | _ => []
def namesOf : V → List Nat
  | .agg cs => cs.flatMap nameOf
  | v => nameOf v
/-- All names that a call looks at. -/
def argNm (g : Nat → Option AObj) (v : V) : List Nat := match v with
  | .agg cs => cs.flatMap (deepNm g 3)
  | v => deepNm g 3 v
def argNms (g : Nat → Option AObj) (args : List V) : List Nat := args.flatMap (argNm g)
def addNew (l : List Nat) : List Nat → List Nat
  | [] => l
  | n :: r => if l.contains n then addNew l r else addNew (n :: l) r
def allNames (args : List V) : List Nat := addNew [] (args.flatMap namesOf)

/-- A call: the callee reads the frame's slices; or, if it is not known to do anything with them so, it is handed the objects themselves. -/
def aCall (C : FuncId → List V → List AObj → Option CRes) (g : Nat → Option AObj) (nm : Nat) (f : FuncId) (args : List V) : Option Eff :=
  match aCallR C g nm f args (ptrNames args) with
  | some e => some { e with rd := e.rd ++ allNames args ++ argNms g args }
  | none => match aCallR C g nm f args (allNames args) with
    | some e => some { e with rd := e.rd ++ allNames args ++ argNms g args }
    | none => none

def ownRd : V → List Nat
  | .own nm _ _ => [nm]
  | _ => []

def aop (T : TypeId → Option TI) (C : FuncId → List V → List AObj → Option CRes) (ρ : Operand → V) (g : Nat → Option AObj) (nm : Nat) (op : Op) : Option Eff :=
  match op with
  | .move x | .assign x => some ⟨ρ x, [], []⟩
  | .pick c a b => match ρ c with
    | .bool true => some ⟨ρ a, [], []⟩
    | .bool false => some ⟨ρ b, [], []⟩
    | _ => none
  | .alloc e => match T e with
    | some ei => if cellularAll ei.zero then fresh nm ⟨e, ei.size, [ei.zero], true, flOf ei.zero, .rw⟩ (.ptr nm 0 0) [] g else none
    | none => none
  | .box e x => if cellularAll (ρ x).cells then fresh nm ⟨e, (ρ x).cells.length, [(ρ x).cells], true, flOf (ρ x).cells, .rw⟩ (.ptr nm 0 0) [] g else none
  | .build t parts => pureEff (aBuild T t (parts.toList.map fun (i, x) => (i, ρ x)))
  | .buildSlice t len parts => aBuildSlice T g nm t len (parts.toList.map fun (i, x) => (i, ρ x))
  | .load t a => aLoad T g t (ρ a)
  | .store t a x => aStore T g t (ρ a) (ρ x)
  | .nilCheck x => match ρ x with
    | .ptr n i j => some ⟨.ptr n i j, [], []⟩
    | .pp cs => some ⟨.pp cs, [], []⟩
    | _ => none
  | .binOp op xt x y _ => pureEff (aBin T op xt (ρ x) (ρ y))
  | .unOp op _ x => pureEff (aUn op (ρ x))
  | .convert src dst x => aConv T g nm src dst (ρ x)
  | .makeSlice t l c => aMake T g nm t (ρ l) (ρ c)
  | .slice t x lo hi mx => (aSlice T g t (ρ x) (lo.map ρ) (hi.map ρ) (mx.map ρ)).map fun v => ⟨v, [], ownRd (ρ x)⟩
  | .fieldAddr s x f => pureEff (aFieldAddr T s (ρ x) f)
  | .field s x f => pureEff (aField T s (ρ x) f)
  | .indexAddr t x i => (aIndexAddr T g t (ρ x) (ρ i)).map fun v => ⟨v, [], ownRd (ρ x)⟩
  | .index t x i => pureEff (aIndex T t (ρ x) (ρ i))
  | .extract x i => match ρ x with
    | .tup vs => pureEff (vs[i]?)
    | _ => none
  | .call ⟨.builtin b, args, tys⟩ => aBuiltin T g nm b tys.toList (args.toList.map ρ)
  | .call ⟨.value f, args, _⟩ => match ρ f with
    | .fn f => aCall C g nm f (args.toList.map ρ)
    | _ => none
  | _ => none

def St.ev (st : St) : Operand → V
  | .tmp t => st.s t
  | .const v => ofConst v
  | .func f => .fn f
  | .global _ => .junk

def guardOf (ops : Array Oper) (o : Oper) (s : Nat → V) : Option Bool :=
  match o.guard with
  | none => some true
  | some (j, want) => match (ops[j]?).bind (·.dst) with
    | some d => match s d with
      | .bool b => some (b == want)
      | .tup [] => some false
      | _ => none
    | none => none

def putS (s : Nat → V) (d : Option Tmp) (v : V) : Nat → V := match d with | some d => upd s d v | none => s

/-- One operation of a region: number i; new objects have names from 'c + 8 * i' on. -/
def astep (T : TypeId → Option TI) (C : FuncId → List V → List AObj → Option CRes) (ops : Array Oper) (i : Nat) (st : St) : Option (St × List Nat × List Nat) :=
  match ops[i]? with
  | none => none
  | some o => match guardOf ops o st.s with
    | none => none
    | some false => some ({ st with s := putS st.s o.dst (.tup []) }, [], [])
    | some true => match aop T C st.ev st.g (st.c + 8 * i) o.op with
      | none => none
      | some e => some ({ st with s := putS st.s o.dst e.v, g := setAll st.g e.wr }, e.rd, e.wr.map (·.1))

end Go.Lift
