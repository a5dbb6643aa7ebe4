/-
  Texts: A1, A2.
-/
import Derived.Test.YtlelalnahlpcpaaGreatPLC
set_option linter.unusedSimpArgs false
set_option linter.unusedVariables false
/-
  The given types of the program, as data.
-/
namespace Go.Lift

def In64 (n : Int) : Prop := -9223372036854775808 ≤ n ∧ n ≤ 9223372036854775807
def InU64 (n : Int) : Prop := 0 ≤ n ∧ n ≤ 18446744073709551615

def strRow (l : List ByteArray) : List (List V) := l.map fun b => [.str b]
@[simp] theorem strRow_length (l : List ByteArray) : (strRow l).length = l.length := by simp [strRow]
@[simp] theorem strRow_nil : strRow [] = [] := rfl
theorem strRow_append (a b : List ByteArray) : strRow (a ++ b) = strRow a ++ strRow b := by simp [strRow]
@[simp] theorem strRow_append' (a b : List ByteArray) : strRow a ++ strRow b = strRow (a ++ b) := (strRow_append a b).symm
theorem strRow_one (b : ByteArray) : [[V.str b]] = strRow [b] := rfl
@[simp] theorem strRow_get (l : List ByteArray) (n : Nat) : (strRow l)[n]? = (l[n]?).map fun b => [V.str b] := by simp [strRow]
@[simp] theorem strRow_getElem (l : List ByteArray) (n : Nat) (h : n < (strRow l).length) : (strRow l)[n] = (fun b : ByteArray => [V.str b]) (l[n]'(by simpa using h)) := by simp [strRow]
@[simp] theorem strRow_isEmpty (l : List ByteArray) : (strRow l).isEmpty = l.isEmpty := by cases l <;> rfl
@[simp] theorem strRow_take (l : List ByteArray) (n : Nat) : (strRow l).take n = strRow (l.take n) := by simp [strRow, List.map_take]
@[simp] theorem strRow_drop (l : List ByteArray) (n : Nat) : (strRow l).drop n = strRow (l.drop n) := by simp [strRow, List.map_drop]
theorem strRow_set (l : List ByteArray) (n : Nat) (b : ByteArray) : (strRow l).set n ([V.str b]) = strRow (l.set n b) := by simp [strRow, List.map_set]
@[simp] theorem strRow_closed : ∀ l : List ByteArray, closedRows (strRow l) = true
  | [] => rfl
  | b :: l => by
    have := strRow_closed l
    simp only [strRow, List.map_cons] at this ⊢
    simp [closedRows, this, V.closed, V.closed.closedAll]
@[simp] theorem strRow_fz (g : Nat → Option AObj) (F : List Nat) (l : List ByteArray) : (strRow l).map (·.map (fzV g F)) = strRow l := by simp [strRow]
@[simp] theorem strRow_scalar : ∀ l : List ByteArray, scalarRows (strRow l) = true
  | [] => rfl
  | b :: l => by
    have := strRow_scalar l
    simp only [strRow, List.map_cons] at this ⊢
    simp [scalarRows, this]
theorem strRow_inj : ∀ {a b : List ByteArray}, strRow a = strRow b → a = b
  | [], [], _ => rfl
  | [], _ :: _, h => by cases h
  | _ :: _, [], h => by cases h
  | x :: a, y :: b, h => by
    simp only [strRow, List.map_cons, List.cons.injEq] at h
    obtain ⟨h1, h2⟩ := h
    rw [strRow_inj h2, show x = y by simpa using h1]
@[simp] theorem strRow_eq {a b : List ByteArray} : strRow a = strRow b ↔ a = b := ⟨strRow_inj, fun h => by rw [h]⟩

def u64Row (l : List Int) : List (List V) := l.map fun b => [.int .u64 b]
@[simp] theorem u64Row_length (l : List Int) : (u64Row l).length = l.length := by simp [u64Row]
@[simp] theorem u64Row_nil : u64Row [] = [] := rfl
theorem u64Row_append (a b : List Int) : u64Row (a ++ b) = u64Row a ++ u64Row b := by simp [u64Row]
@[simp] theorem u64Row_append' (a b : List Int) : u64Row a ++ u64Row b = u64Row (a ++ b) := (u64Row_append a b).symm
theorem u64Row_one (b : Int) : [[V.int .u64 b]] = u64Row [b] := rfl
@[simp] theorem u64Row_get (l : List Int) (n : Nat) : (u64Row l)[n]? = (l[n]?).map fun b => [V.int .u64 b] := by simp [u64Row]
@[simp] theorem u64Row_getElem (l : List Int) (n : Nat) (h : n < (u64Row l).length) : (u64Row l)[n] = (fun b : Int => [V.int .u64 b]) (l[n]'(by simpa using h)) := by simp [u64Row]
@[simp] theorem u64Row_isEmpty (l : List Int) : (u64Row l).isEmpty = l.isEmpty := by cases l <;> rfl
@[simp] theorem u64Row_take (l : List Int) (n : Nat) : (u64Row l).take n = u64Row (l.take n) := by simp [u64Row, List.map_take]
@[simp] theorem u64Row_drop (l : List Int) (n : Nat) : (u64Row l).drop n = u64Row (l.drop n) := by simp [u64Row, List.map_drop]
theorem u64Row_set (l : List Int) (n : Nat) (b : Int) : (u64Row l).set n ([V.int .u64 b]) = u64Row (l.set n b) := by simp [u64Row, List.map_set]
@[simp] theorem u64Row_closed : ∀ l : List Int, closedRows (u64Row l) = true
  | [] => rfl
  | b :: l => by
    have := u64Row_closed l
    simp only [u64Row, List.map_cons] at this ⊢
    simp [closedRows, this, V.closed, V.closed.closedAll]
@[simp] theorem u64Row_fz (g : Nat → Option AObj) (F : List Nat) (l : List Int) : (u64Row l).map (·.map (fzV g F)) = u64Row l := by simp [u64Row]
@[simp] theorem u64Row_scalar : ∀ l : List Int, scalarRows (u64Row l) = true
  | [] => rfl
  | b :: l => by
    have := u64Row_scalar l
    simp only [u64Row, List.map_cons] at this ⊢
    simp [scalarRows, this]
theorem u64Row_inj : ∀ {a b : List Int}, u64Row a = u64Row b → a = b
  | [], [], _ => rfl
  | [], _ :: _, h => by cases h
  | _ :: _, [], h => by cases h
  | x :: a, y :: b, h => by
    simp only [u64Row, List.map_cons, List.cons.injEq] at h
    obtain ⟨h1, h2⟩ := h
    rw [u64Row_inj h2, show x = y by simpa using h1]
@[simp] theorem u64Row_eq {a b : List Int} : u64Row a = u64Row b ↔ a = b := ⟨u64Row_inj, fun h => by rw [h]⟩

def boolRow (l : List Bool) : List (List V) := l.map fun b => [.bool b]
@[simp] theorem boolRow_length (l : List Bool) : (boolRow l).length = l.length := by simp [boolRow]
@[simp] theorem boolRow_nil : boolRow [] = [] := rfl
theorem boolRow_append (a b : List Bool) : boolRow (a ++ b) = boolRow a ++ boolRow b := by simp [boolRow]
@[simp] theorem boolRow_append' (a b : List Bool) : boolRow a ++ boolRow b = boolRow (a ++ b) := (boolRow_append a b).symm
theorem boolRow_one (b : Bool) : [[V.bool b]] = boolRow [b] := rfl
@[simp] theorem boolRow_get (l : List Bool) (n : Nat) : (boolRow l)[n]? = (l[n]?).map fun b => [V.bool b] := by simp [boolRow]
@[simp] theorem boolRow_getElem (l : List Bool) (n : Nat) (h : n < (boolRow l).length) : (boolRow l)[n] = (fun b : Bool => [V.bool b]) (l[n]'(by simpa using h)) := by simp [boolRow]
@[simp] theorem boolRow_isEmpty (l : List Bool) : (boolRow l).isEmpty = l.isEmpty := by cases l <;> rfl
@[simp] theorem boolRow_take (l : List Bool) (n : Nat) : (boolRow l).take n = boolRow (l.take n) := by simp [boolRow, List.map_take]
@[simp] theorem boolRow_drop (l : List Bool) (n : Nat) : (boolRow l).drop n = boolRow (l.drop n) := by simp [boolRow, List.map_drop]
theorem boolRow_set (l : List Bool) (n : Nat) (b : Bool) : (boolRow l).set n ([V.bool b]) = boolRow (l.set n b) := by simp [boolRow, List.map_set]
@[simp] theorem boolRow_closed : ∀ l : List Bool, closedRows (boolRow l) = true
  | [] => rfl
  | b :: l => by
    have := boolRow_closed l
    simp only [boolRow, List.map_cons] at this ⊢
    simp [closedRows, this, V.closed, V.closed.closedAll]
@[simp] theorem boolRow_fz (g : Nat → Option AObj) (F : List Nat) (l : List Bool) : (boolRow l).map (·.map (fzV g F)) = boolRow l := by simp [boolRow]
@[simp] theorem boolRow_scalar : ∀ l : List Bool, scalarRows (boolRow l) = true
  | [] => rfl
  | b :: l => by
    have := boolRow_scalar l
    simp only [boolRow, List.map_cons] at this ⊢
    simp [scalarRows, this]
theorem boolRow_inj : ∀ {a b : List Bool}, boolRow a = boolRow b → a = b
  | [], [], _ => rfl
  | [], _ :: _, h => by cases h
  | _ :: _, [], h => by cases h
  | x :: a, y :: b, h => by
    simp only [boolRow, List.map_cons, List.cons.injEq] at h
    obtain ⟨h1, h2⟩ := h
    rw [boolRow_inj h2, show x = y by simpa using h1]
@[simp] theorem boolRow_eq {a b : List Bool} : boolRow a = boolRow b ↔ a = b := ⟨boolRow_inj, fun h => by rw [h]⟩

def listIntRow (l : List (List Int)) : List (List V) := l.map fun b => [.sl 2 1 (intRow b)]
@[simp] theorem listIntRow_length (l : List (List Int)) : (listIntRow l).length = l.length := by simp [listIntRow]
@[simp] theorem listIntRow_nil : listIntRow [] = [] := rfl
theorem listIntRow_append (a b : List (List Int)) : listIntRow (a ++ b) = listIntRow a ++ listIntRow b := by simp [listIntRow]
@[simp] theorem listIntRow_append' (a b : List (List Int)) : listIntRow a ++ listIntRow b = listIntRow (a ++ b) := (listIntRow_append a b).symm
theorem listIntRow_one (b : (List Int)) : [[V.sl 2 1 (intRow b)]] = listIntRow [b] := rfl
@[simp] theorem listIntRow_get (l : List (List Int)) (n : Nat) : (listIntRow l)[n]? = (l[n]?).map fun b => [V.sl 2 1 (intRow b)] := by simp [listIntRow]
@[simp] theorem listIntRow_getElem (l : List (List Int)) (n : Nat) (h : n < (listIntRow l).length) : (listIntRow l)[n] = (fun b : (List Int) => [V.sl 2 1 (intRow b)]) (l[n]'(by simpa using h)) := by simp [listIntRow]
@[simp] theorem listIntRow_isEmpty (l : List (List Int)) : (listIntRow l).isEmpty = l.isEmpty := by cases l <;> rfl
@[simp] theorem listIntRow_take (l : List (List Int)) (n : Nat) : (listIntRow l).take n = listIntRow (l.take n) := by simp [listIntRow, List.map_take]
@[simp] theorem listIntRow_drop (l : List (List Int)) (n : Nat) : (listIntRow l).drop n = listIntRow (l.drop n) := by simp [listIntRow, List.map_drop]
theorem listIntRow_set (l : List (List Int)) (n : Nat) (b : (List Int)) : (listIntRow l).set n ([V.sl 2 1 (intRow b)]) = listIntRow (l.set n b) := by simp [listIntRow, List.map_set]
@[simp] theorem listIntRow_closed : ∀ l : List (List Int), closedRows (listIntRow l) = true
  | [] => rfl
  | b :: l => by
    have := listIntRow_closed l
    simp only [listIntRow, List.map_cons] at this ⊢
    simp [closedRows, this, V.closed, V.closed.closedAll]
@[simp] theorem listIntRow_fz (g : Nat → Option AObj) (F : List Nat) (l : List (List Int)) : (listIntRow l).map (·.map (fzV g F)) = listIntRow l := by simp [listIntRow]
theorem listIntRow_inj : ∀ {a b : List (List Int)}, listIntRow a = listIntRow b → a = b
  | [], [], _ => rfl
  | [], _ :: _, h => by cases h
  | _ :: _, [], h => by cases h
  | x :: a, y :: b, h => by
    simp only [listIntRow, List.map_cons, List.cons.injEq] at h
    obtain ⟨h1, h2⟩ := h
    rw [listIntRow_inj h2, show x = y by simpa using h1]
@[simp] theorem listIntRow_eq {a b : List (List Int)} : listIntRow a = listIntRow b ↔ a = b := ⟨listIntRow_inj, fun h => by rw [h]⟩

theorem intRow_set (l : List Int) (n : Nat) (b : Int) : (intRow l).set n [V.int .i64 b] = intRow (l.set n b) := by simp [intRow, List.map_set]
theorem intRow_one (b : Int) : [[V.int .i64 b]] = intRow [b] := rfl
@[simp] theorem intRow_closed : ∀ l : List Int, closedRows (intRow l) = true
  | [] => rfl
  | b :: l => by
    have := intRow_closed l
    simp only [intRow, List.map_cons] at this ⊢
    simp [closedRows, this, V.closed, V.closed.closedAll]
@[simp] theorem intRow_fz (g : Nat → Option AObj) (F : List Nat) (l : List Int) : (intRow l).map (·.map (fzV g F)) = intRow l := by simp [intRow]
@[simp] theorem byteRow_closed : ∀ l : List UInt8, closedRows (byteRow l) = true
  | [] => rfl
  | b :: l => by
    have := byteRow_closed l
    simp only [byteRow, List.map_cons] at this ⊢
    simp [closedRows, this, V.closed, V.closed.closedAll]
@[simp] theorem byteRow_fz (g : Nat → Option AObj) (F : List Nat) (l : List UInt8) : (byteRow l).map (·.map (fzV g F)) = byteRow l := by simp [byteRow]

structure GEntry where -- 43
  Kind : Int
  Tick : Int
  Tenant : Int
  Cell : Int
  Other : Int
  Epoch : Int
  From : Int
  Until : Int
  N : Int
  deriving DecidableEq
def GEntry.cells (x : GEntry) : List V := [.int .i64 x.Kind, .int .i64 x.Tick, .int .i64 x.Tenant, .int .i64 x.Cell, .int .i64 x.Other, .int .i64 x.Epoch, .int .i64 x.From, .int .i64 x.Until, .int .i64 x.N]
def GEntry.ok (x : GEntry) : Prop := In64 x.Kind ∧ In64 x.Tick ∧ In64 x.Tenant ∧ In64 x.Cell ∧ In64 x.Other ∧ In64 x.Epoch ∧ In64 x.From ∧ In64 x.Until ∧ In64 x.N
theorem GEntry.cells_inj {x y : GEntry} (h : x.cells = y.cells) : x = y := by
  obtain ⟨_, _, _, _, _, _, _, _, _⟩ := x
  obtain ⟨_, _, _, _, _, _, _, _, _⟩ := y
  simp [GEntry.cells] at h
  simp [h]
def GEntry.row (l : List GEntry) : List (List V) := l.map GEntry.cells
@[simp] theorem GEntry.row_length (l : List GEntry) : (GEntry.row l).length = l.length := by simp [GEntry.row]
@[simp] theorem GEntry.row_nil : GEntry.row [] = [] := rfl
theorem GEntry.row_append (a b : List GEntry) : GEntry.row (a ++ b) = GEntry.row a ++ GEntry.row b := by simp [GEntry.row]
@[simp] theorem GEntry.row_append' (a b : List GEntry) : GEntry.row a ++ GEntry.row b = GEntry.row (a ++ b) := (GEntry.row_append a b).symm
theorem GEntry.row_one (b : GEntry) : [GEntry.cells b] = GEntry.row [b] := rfl
@[simp] theorem GEntry.row_get (l : List GEntry) (n : Nat) : (GEntry.row l)[n]? = (l[n]?).map fun b => GEntry.cells b := by simp [GEntry.row]
@[simp] theorem GEntry.row_getElem (l : List GEntry) (n : Nat) (h : n < (GEntry.row l).length) : (GEntry.row l)[n] = (fun b : GEntry => GEntry.cells b) (l[n]'(by simpa using h)) := by simp [GEntry.row]
@[simp] theorem GEntry.row_isEmpty (l : List GEntry) : (GEntry.row l).isEmpty = l.isEmpty := by cases l <;> rfl
@[simp] theorem GEntry.row_take (l : List GEntry) (n : Nat) : (GEntry.row l).take n = GEntry.row (l.take n) := by simp [GEntry.row, List.map_take]
@[simp] theorem GEntry.row_drop (l : List GEntry) (n : Nat) : (GEntry.row l).drop n = GEntry.row (l.drop n) := by simp [GEntry.row, List.map_drop]
theorem GEntry.row_set (l : List GEntry) (n : Nat) (b : GEntry) : (GEntry.row l).set n (GEntry.cells b) = GEntry.row (l.set n b) := by simp [GEntry.row, List.map_set]
@[simp] theorem GEntry.row_closed : ∀ l : List GEntry, closedRows (GEntry.row l) = true
  | [] => rfl
  | b :: l => by
    have := GEntry.row_closed l
    simp only [GEntry.row, List.map_cons] at this ⊢
    simp [closedRows, this, V.closed, V.closed.closedAll, GEntry.cells]
@[simp] theorem GEntry.row_fz (g : Nat → Option AObj) (F : List Nat) (l : List GEntry) : (GEntry.row l).map (·.map (fzV g F)) = GEntry.row l := by simp [GEntry.row, GEntry.cells]
@[simp] theorem GEntry.row_scalar : ∀ l : List GEntry, scalarRows (GEntry.row l) = true
  | [] => rfl
  | b :: l => by
    have := GEntry.row_scalar l
    simp only [GEntry.row, List.map_cons] at this ⊢
    simp [scalarRows, this, GEntry.cells]
theorem GEntry.row_inj : ∀ {a b : List GEntry}, GEntry.row a = GEntry.row b → a = b
  | [], [], _ => rfl
  | [], _ :: _, h => by cases h
  | _ :: _, [], h => by cases h
  | x :: a, y :: b, h => by
    simp only [GEntry.row, List.map_cons, List.cons.injEq] at h
    obtain ⟨h1, h2⟩ := h
    rw [GEntry.row_inj h2, show x = y from GEntry.cells_inj h1]
@[simp] theorem GEntry.row_eq {a b : List GEntry} : GEntry.row a = GEntry.row b ↔ a = b := ⟨GEntry.row_inj, fun h => by rw [h]⟩

def vEntry (x : GEntry) : V := .agg x.cells
theorem vEntry_folded (x : GEntry) : Folded (vEntry x) := ⟨x.cells, rfl, by simp [GEntry.cells, V.closed, V.closed.closedAll]⟩
@[simp] theorem vEntry_eq {x y : GEntry} : vEntry x = vEntry y ↔ x = y := ⟨fun h => by simp only [vEntry, V.agg.injEq] at h; exact GEntry.cells_inj h, fun h => by rw [h]⟩
@[simp] theorem vEntry_closed (x : GEntry) : (vEntry x).closed = true := (vEntry_folded x).closed
@[simp] theorem vEntry_ren (x : GEntry) (f : Nat → Nat) : (vEntry x).ren f = vEntry x := (vEntry_folded x).ren f
@[simp] theorem vEntry_within (x : GEntry) (D : Nat → Bool) : (vEntry x).within D = true := (vEntry_folded x).within D
@[simp] theorem vEntry_argV (x : GEntry) (g : Nat → Option AObj) (refs : List Nat) : argV g refs (vEntry x) = some (vEntry x, []) := (vEntry_folded x).argV refs
@[simp] theorem vEntry_names (x : GEntry) : namesOf (vEntry x) = [] := (vEntry_folded x).names
@[simp] theorem vEntry_deep (x : GEntry) (g : Nat → Option AObj) : argNm g (vEntry x) = [] := (vEntry_folded x).deep
@[simp] theorem vEntry_ptr (x : GEntry) (r : List V) : ptrNames (vEntry x :: r) = ptrNames r := (vEntry_folded x).ptr r
@[simp] theorem vEntry_junk (x : GEntry) : (vEntry x).isJunk = false := (vEntry_folded x).junk
@[simp] theorem vEntry_fz (x : GEntry) (g : Nat → Option AObj) (F : List Nat) : fzV g F (vEntry x) = vEntry x := (vEntry_folded x).fz F
@[simp] theorem vEntry_tag (x : GEntry) : tagV (vEntry x) = vEntry x := by simp [vEntry, GEntry.cells]
@[simp] theorem vEntry_cells (x : GEntry) : (vEntry x).cells = x.cells := rfl

theorem vEntry_fold (x : GEntry) : V.agg [.int .i64 x.Kind, .int .i64 x.Tick, .int .i64 x.Tenant, .int .i64 x.Cell, .int .i64 x.Other, .int .i64 x.Epoch, .int .i64 x.From, .int .i64 x.Until, .int .i64 x.N] = vEntry x := rfl

structure GLogged where -- 73
  Term : Int
  Entry : GEntry
  deriving DecidableEq
def GLogged.cells (x : GLogged) : List V := [.int .i64 x.Term, .int .i64 x.Entry.Kind, .int .i64 x.Entry.Tick, .int .i64 x.Entry.Tenant, .int .i64 x.Entry.Cell, .int .i64 x.Entry.Other, .int .i64 x.Entry.Epoch, .int .i64 x.Entry.From, .int .i64 x.Entry.Until, .int .i64 x.Entry.N]
def GLogged.ok (x : GLogged) : Prop := In64 x.Term ∧ GEntry.ok x.Entry
theorem GLogged.cells_inj {x y : GLogged} (h : x.cells = y.cells) : x = y := by
  obtain ⟨_, ⟨_, _, _, _, _, _, _, _, _⟩⟩ := x
  obtain ⟨_, ⟨_, _, _, _, _, _, _, _, _⟩⟩ := y
  simp [GLogged.cells] at h
  simp [h]
def GLogged.row (l : List GLogged) : List (List V) := l.map GLogged.cells
@[simp] theorem GLogged.row_length (l : List GLogged) : (GLogged.row l).length = l.length := by simp [GLogged.row]
@[simp] theorem GLogged.row_nil : GLogged.row [] = [] := rfl
theorem GLogged.row_append (a b : List GLogged) : GLogged.row (a ++ b) = GLogged.row a ++ GLogged.row b := by simp [GLogged.row]
@[simp] theorem GLogged.row_append' (a b : List GLogged) : GLogged.row a ++ GLogged.row b = GLogged.row (a ++ b) := (GLogged.row_append a b).symm
theorem GLogged.row_one (b : GLogged) : [GLogged.cells b] = GLogged.row [b] := rfl
@[simp] theorem GLogged.row_get (l : List GLogged) (n : Nat) : (GLogged.row l)[n]? = (l[n]?).map fun b => GLogged.cells b := by simp [GLogged.row]
@[simp] theorem GLogged.row_getElem (l : List GLogged) (n : Nat) (h : n < (GLogged.row l).length) : (GLogged.row l)[n] = (fun b : GLogged => GLogged.cells b) (l[n]'(by simpa using h)) := by simp [GLogged.row]
@[simp] theorem GLogged.row_isEmpty (l : List GLogged) : (GLogged.row l).isEmpty = l.isEmpty := by cases l <;> rfl
@[simp] theorem GLogged.row_take (l : List GLogged) (n : Nat) : (GLogged.row l).take n = GLogged.row (l.take n) := by simp [GLogged.row, List.map_take]
@[simp] theorem GLogged.row_drop (l : List GLogged) (n : Nat) : (GLogged.row l).drop n = GLogged.row (l.drop n) := by simp [GLogged.row, List.map_drop]
theorem GLogged.row_set (l : List GLogged) (n : Nat) (b : GLogged) : (GLogged.row l).set n (GLogged.cells b) = GLogged.row (l.set n b) := by simp [GLogged.row, List.map_set]
@[simp] theorem GLogged.row_closed : ∀ l : List GLogged, closedRows (GLogged.row l) = true
  | [] => rfl
  | b :: l => by
    have := GLogged.row_closed l
    simp only [GLogged.row, List.map_cons] at this ⊢
    simp [closedRows, this, V.closed, V.closed.closedAll, GLogged.cells]
@[simp] theorem GLogged.row_fz (g : Nat → Option AObj) (F : List Nat) (l : List GLogged) : (GLogged.row l).map (·.map (fzV g F)) = GLogged.row l := by simp [GLogged.row, GLogged.cells]
@[simp] theorem GLogged.row_scalar : ∀ l : List GLogged, scalarRows (GLogged.row l) = true
  | [] => rfl
  | b :: l => by
    have := GLogged.row_scalar l
    simp only [GLogged.row, List.map_cons] at this ⊢
    simp [scalarRows, this, GLogged.cells]
theorem GLogged.row_inj : ∀ {a b : List GLogged}, GLogged.row a = GLogged.row b → a = b
  | [], [], _ => rfl
  | [], _ :: _, h => by cases h
  | _ :: _, [], h => by cases h
  | x :: a, y :: b, h => by
    simp only [GLogged.row, List.map_cons, List.cons.injEq] at h
    obtain ⟨h1, h2⟩ := h
    rw [GLogged.row_inj h2, show x = y from GLogged.cells_inj h1]
@[simp] theorem GLogged.row_eq {a b : List GLogged} : GLogged.row a = GLogged.row b ↔ a = b := ⟨GLogged.row_inj, fun h => by rw [h]⟩

def vLogged (x : GLogged) : V := .agg x.cells
theorem vLogged_folded (x : GLogged) : Folded (vLogged x) := ⟨x.cells, rfl, by simp [GLogged.cells, V.closed, V.closed.closedAll]⟩
@[simp] theorem vLogged_eq {x y : GLogged} : vLogged x = vLogged y ↔ x = y := ⟨fun h => by simp only [vLogged, V.agg.injEq] at h; exact GLogged.cells_inj h, fun h => by rw [h]⟩
@[simp] theorem vLogged_closed (x : GLogged) : (vLogged x).closed = true := (vLogged_folded x).closed
@[simp] theorem vLogged_ren (x : GLogged) (f : Nat → Nat) : (vLogged x).ren f = vLogged x := (vLogged_folded x).ren f
@[simp] theorem vLogged_within (x : GLogged) (D : Nat → Bool) : (vLogged x).within D = true := (vLogged_folded x).within D
@[simp] theorem vLogged_argV (x : GLogged) (g : Nat → Option AObj) (refs : List Nat) : argV g refs (vLogged x) = some (vLogged x, []) := (vLogged_folded x).argV refs
@[simp] theorem vLogged_names (x : GLogged) : namesOf (vLogged x) = [] := (vLogged_folded x).names
@[simp] theorem vLogged_deep (x : GLogged) (g : Nat → Option AObj) : argNm g (vLogged x) = [] := (vLogged_folded x).deep
@[simp] theorem vLogged_ptr (x : GLogged) (r : List V) : ptrNames (vLogged x :: r) = ptrNames r := (vLogged_folded x).ptr r
@[simp] theorem vLogged_junk (x : GLogged) : (vLogged x).isJunk = false := (vLogged_folded x).junk
@[simp] theorem vLogged_fz (x : GLogged) (g : Nat → Option AObj) (F : List Nat) : fzV g F (vLogged x) = vLogged x := (vLogged_folded x).fz F
@[simp] theorem vLogged_tag (x : GLogged) : tagV (vLogged x) = vLogged x := by simp [vLogged, GLogged.cells]
@[simp] theorem vLogged_cells (x : GLogged) : (vLogged x).cells = x.cells := rfl

theorem vLogged_fold (x : GLogged) : V.agg [.int .i64 x.Term, .int .i64 x.Entry.Kind, .int .i64 x.Entry.Tick, .int .i64 x.Entry.Tenant, .int .i64 x.Entry.Cell, .int .i64 x.Entry.Other, .int .i64 x.Entry.Epoch, .int .i64 x.Entry.From, .int .i64 x.Entry.Until, .int .i64 x.Entry.N] = vLogged x := rfl

end Go.Lift

/-
  The laws' own types, as data.
-/
namespace Go.Lift

structure GL08Act where -- 30
  Which : Int
  A : Int
  B : Int
  deriving DecidableEq
def GL08Act.cells (x : GL08Act) : List V := [.int .i64 x.Which, .int .i64 x.A, .int .i64 x.B]
def GL08Act.ok (x : GL08Act) : Prop := In64 x.Which ∧ In64 x.A ∧ In64 x.B
theorem GL08Act.cells_inj {x y : GL08Act} (h : x.cells = y.cells) : x = y := by
  obtain ⟨_, _, _⟩ := x
  obtain ⟨_, _, _⟩ := y
  simp [GL08Act.cells] at h
  simp [h]
def GL08Act.row (l : List GL08Act) : List (List V) := l.map GL08Act.cells
@[simp] theorem GL08Act.row_length (l : List GL08Act) : (GL08Act.row l).length = l.length := by simp [GL08Act.row]
@[simp] theorem GL08Act.row_nil : GL08Act.row [] = [] := rfl
theorem GL08Act.row_append (a b : List GL08Act) : GL08Act.row (a ++ b) = GL08Act.row a ++ GL08Act.row b := by simp [GL08Act.row]
@[simp] theorem GL08Act.row_append' (a b : List GL08Act) : GL08Act.row a ++ GL08Act.row b = GL08Act.row (a ++ b) := (GL08Act.row_append a b).symm
theorem GL08Act.row_one (b : GL08Act) : [GL08Act.cells b] = GL08Act.row [b] := rfl
@[simp] theorem GL08Act.row_get (l : List GL08Act) (n : Nat) : (GL08Act.row l)[n]? = (l[n]?).map fun b => GL08Act.cells b := by simp [GL08Act.row]
@[simp] theorem GL08Act.row_getElem (l : List GL08Act) (n : Nat) (h : n < (GL08Act.row l).length) : (GL08Act.row l)[n] = (fun b : GL08Act => GL08Act.cells b) (l[n]'(by simpa using h)) := by simp [GL08Act.row]
@[simp] theorem GL08Act.row_isEmpty (l : List GL08Act) : (GL08Act.row l).isEmpty = l.isEmpty := by cases l <;> rfl
@[simp] theorem GL08Act.row_take (l : List GL08Act) (n : Nat) : (GL08Act.row l).take n = GL08Act.row (l.take n) := by simp [GL08Act.row, List.map_take]
@[simp] theorem GL08Act.row_drop (l : List GL08Act) (n : Nat) : (GL08Act.row l).drop n = GL08Act.row (l.drop n) := by simp [GL08Act.row, List.map_drop]
theorem GL08Act.row_set (l : List GL08Act) (n : Nat) (b : GL08Act) : (GL08Act.row l).set n (GL08Act.cells b) = GL08Act.row (l.set n b) := by simp [GL08Act.row, List.map_set]
@[simp] theorem GL08Act.row_closed : ∀ l : List GL08Act, closedRows (GL08Act.row l) = true
  | [] => rfl
  | b :: l => by
    have := GL08Act.row_closed l
    simp only [GL08Act.row, List.map_cons] at this ⊢
    simp [closedRows, this, V.closed, V.closed.closedAll, GL08Act.cells]
@[simp] theorem GL08Act.row_fz (g : Nat → Option AObj) (F : List Nat) (l : List GL08Act) : (GL08Act.row l).map (·.map (fzV g F)) = GL08Act.row l := by simp [GL08Act.row, GL08Act.cells]
@[simp] theorem GL08Act.row_scalar : ∀ l : List GL08Act, scalarRows (GL08Act.row l) = true
  | [] => rfl
  | b :: l => by
    have := GL08Act.row_scalar l
    simp only [GL08Act.row, List.map_cons] at this ⊢
    simp [scalarRows, this, GL08Act.cells]
theorem GL08Act.row_inj : ∀ {a b : List GL08Act}, GL08Act.row a = GL08Act.row b → a = b
  | [], [], _ => rfl
  | [], _ :: _, h => by cases h
  | _ :: _, [], h => by cases h
  | x :: a, y :: b, h => by
    simp only [GL08Act.row, List.map_cons, List.cons.injEq] at h
    obtain ⟨h1, h2⟩ := h
    rw [GL08Act.row_inj h2, show x = y from GL08Act.cells_inj h1]
@[simp] theorem GL08Act.row_eq {a b : List GL08Act} : GL08Act.row a = GL08Act.row b ↔ a = b := ⟨GL08Act.row_inj, fun h => by rw [h]⟩

def vL08Act (x : GL08Act) : V := .agg x.cells
theorem vL08Act_folded (x : GL08Act) : Folded (vL08Act x) := ⟨x.cells, rfl, by simp [GL08Act.cells, V.closed, V.closed.closedAll]⟩
@[simp] theorem vL08Act_eq {x y : GL08Act} : vL08Act x = vL08Act y ↔ x = y := ⟨fun h => by simp only [vL08Act, V.agg.injEq] at h; exact GL08Act.cells_inj h, fun h => by rw [h]⟩
@[simp] theorem vL08Act_closed (x : GL08Act) : (vL08Act x).closed = true := (vL08Act_folded x).closed
@[simp] theorem vL08Act_ren (x : GL08Act) (f : Nat → Nat) : (vL08Act x).ren f = vL08Act x := (vL08Act_folded x).ren f
@[simp] theorem vL08Act_within (x : GL08Act) (D : Nat → Bool) : (vL08Act x).within D = true := (vL08Act_folded x).within D
@[simp] theorem vL08Act_argV (x : GL08Act) (g : Nat → Option AObj) (refs : List Nat) : argV g refs (vL08Act x) = some (vL08Act x, []) := (vL08Act_folded x).argV refs
@[simp] theorem vL08Act_names (x : GL08Act) : namesOf (vL08Act x) = [] := (vL08Act_folded x).names
@[simp] theorem vL08Act_deep (x : GL08Act) (g : Nat → Option AObj) : argNm g (vL08Act x) = [] := (vL08Act_folded x).deep
@[simp] theorem vL08Act_ptr (x : GL08Act) (r : List V) : ptrNames (vL08Act x :: r) = ptrNames r := (vL08Act_folded x).ptr r
@[simp] theorem vL08Act_junk (x : GL08Act) : (vL08Act x).isJunk = false := (vL08Act_folded x).junk
@[simp] theorem vL08Act_fz (x : GL08Act) (g : Nat → Option AObj) (F : List Nat) : fzV g F (vL08Act x) = vL08Act x := (vL08Act_folded x).fz F
@[simp] theorem vL08Act_tag (x : GL08Act) : tagV (vL08Act x) = vL08Act x := by simp [vL08Act, GL08Act.cells]
@[simp] theorem vL08Act_cells (x : GL08Act) : (vL08Act x).cells = x.cells := rfl

theorem vL08Act_fold (x : GL08Act) : V.agg [.int .i64 x.Which, .int .i64 x.A, .int .i64 x.B] = vL08Act x := rfl

end Go.Lift

