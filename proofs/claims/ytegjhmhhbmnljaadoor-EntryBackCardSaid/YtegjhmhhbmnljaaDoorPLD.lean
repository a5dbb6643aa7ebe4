/-
  Texts: A1.
-/
import Derived.Test.YtegjhmhhbmnljaaDoorPLC
/-
  The given types of the program, as data.
-/
namespace Go.Lift

def In64 (n : Int) : Prop := -9223372036854775808 ≤ n ∧ n ≤ 9223372036854775807
def InU64 (n : Int) : Prop := 0 ≤ n ∧ n ≤ 18446744073709551615

def strRow (l : List ByteArray) : List (List V) := l.map fun b => [.str b]
@[simp] theorem strRow_length (l : List ByteArray) : (strRow l).length = l.length := by simp [strRow]
@[simp] theorem strRow_nil : strRow [] = [] := rfl
theorem strRow_append (a b : List ByteArray) : strRow (a ++ b) = strRow a ++ strRow b := by simp [strRow]
@[simp] theorem strRow_append' (a b : List ByteArray) : strRow a ++ strRow b = strRow (a ++ b) := (strRow_append a b).symm
theorem strRow_one (b : ByteArray) : [[V.str b]] = strRow [b] := rfl
@[simp] theorem strRow_get (l : List ByteArray) (n : Nat) : (strRow l)[n]? = (l[n]?).map fun b => [V.str b] := by simp [strRow]
@[simp] theorem strRow_getElem (l : List ByteArray) (n : Nat) (h : n < (strRow l).length) : (strRow l)[n] = (fun b : ByteArray => [V.str b]) (l[n]'(by simpa using h)) := by simp [strRow]
@[simp] theorem strRow_isEmpty (l : List ByteArray) : (strRow l).isEmpty = l.isEmpty := by cases l <;> rfl
@[simp] theorem strRow_take (l : List ByteArray) (n : Nat) : (strRow l).take n = strRow (l.take n) := by simp [strRow, List.map_take]
@[simp] theorem strRow_drop (l : List ByteArray) (n : Nat) : (strRow l).drop n = strRow (l.drop n) := by simp [strRow, List.map_drop]
theorem strRow_set (l : List ByteArray) (n : Nat) (b : ByteArray) : (strRow l).set n ([V.str b]) = strRow (l.set n b) := by simp [strRow, List.map_set]
@[simp] theorem strRow_closed : ∀ l : List ByteArray, closedRows (strRow l) = true
  | [] => rfl
  | b :: l => by
    have := strRow_closed l
    simp only [strRow, List.map_cons] at this ⊢
    simp [closedRows, this, V.closed, V.closed.closedAll]
@[simp] theorem strRow_fz (g : Nat → Option AObj) (F : List Nat) (l : List ByteArray) : (strRow l).map (·.map (fzV g F)) = strRow l := by simp [strRow]
@[simp] theorem strRow_scalar : ∀ l : List ByteArray, scalarRows (strRow l) = true
  | [] => rfl
  | b :: l => by
    have := strRow_scalar l
    simp only [strRow, List.map_cons] at this ⊢
    simp [scalarRows, this]
theorem strRow_inj : ∀ {a b : List ByteArray}, strRow a = strRow b → a = b
  | [], [], _ => rfl
  | [], _ :: _, h => by cases h
  | _ :: _, [], h => by cases h
  | x :: a, y :: b, h => by
    simp only [strRow, List.map_cons, List.cons.injEq] at h
    obtain ⟨h1, h2⟩ := h
    rw [strRow_inj h2, show x = y by simpa using h1]
@[simp] theorem strRow_eq {a b : List ByteArray} : strRow a = strRow b ↔ a = b := ⟨strRow_inj, fun h => by rw [h]⟩

def u64Row (l : List Int) : List (List V) := l.map fun b => [.int .u64 b]
@[simp] theorem u64Row_length (l : List Int) : (u64Row l).length = l.length := by simp [u64Row]
@[simp] theorem u64Row_nil : u64Row [] = [] := rfl
theorem u64Row_append (a b : List Int) : u64Row (a ++ b) = u64Row a ++ u64Row b := by simp [u64Row]
@[simp] theorem u64Row_append' (a b : List Int) : u64Row a ++ u64Row b = u64Row (a ++ b) := (u64Row_append a b).symm
theorem u64Row_one (b : Int) : [[V.int .u64 b]] = u64Row [b] := rfl
@[simp] theorem u64Row_get (l : List Int) (n : Nat) : (u64Row l)[n]? = (l[n]?).map fun b => [V.int .u64 b] := by simp [u64Row]
@[simp] theorem u64Row_getElem (l : List Int) (n : Nat) (h : n < (u64Row l).length) : (u64Row l)[n] = (fun b : Int => [V.int .u64 b]) (l[n]'(by simpa using h)) := by simp [u64Row]
@[simp] theorem u64Row_isEmpty (l : List Int) : (u64Row l).isEmpty = l.isEmpty := by cases l <;> rfl
@[simp] theorem u64Row_take (l : List Int) (n : Nat) : (u64Row l).take n = u64Row (l.take n) := by simp [u64Row, List.map_take]
@[simp] theorem u64Row_drop (l : List Int) (n : Nat) : (u64Row l).drop n = u64Row (l.drop n) := by simp [u64Row, List.map_drop]
theorem u64Row_set (l : List Int) (n : Nat) (b : Int) : (u64Row l).set n ([V.int .u64 b]) = u64Row (l.set n b) := by simp [u64Row, List.map_set]
@[simp] theorem u64Row_closed : ∀ l : List Int, closedRows (u64Row l) = true
  | [] => rfl
  | b :: l => by
    have := u64Row_closed l
    simp only [u64Row, List.map_cons] at this ⊢
    simp [closedRows, this, V.closed, V.closed.closedAll]
@[simp] theorem u64Row_fz (g : Nat → Option AObj) (F : List Nat) (l : List Int) : (u64Row l).map (·.map (fzV g F)) = u64Row l := by simp [u64Row]
@[simp] theorem u64Row_scalar : ∀ l : List Int, scalarRows (u64Row l) = true
  | [] => rfl
  | b :: l => by
    have := u64Row_scalar l
    simp only [u64Row, List.map_cons] at this ⊢
    simp [scalarRows, this]
theorem u64Row_inj : ∀ {a b : List Int}, u64Row a = u64Row b → a = b
  | [], [], _ => rfl
  | [], _ :: _, h => by cases h
  | _ :: _, [], h => by cases h
  | x :: a, y :: b, h => by
    simp only [u64Row, List.map_cons, List.cons.injEq] at h
    obtain ⟨h1, h2⟩ := h
    rw [u64Row_inj h2, show x = y by simpa using h1]
@[simp] theorem u64Row_eq {a b : List Int} : u64Row a = u64Row b ↔ a = b := ⟨u64Row_inj, fun h => by rw [h]⟩

def boolRow (l : List Bool) : List (List V) := l.map fun b => [.bool b]
@[simp] theorem boolRow_length (l : List Bool) : (boolRow l).length = l.length := by simp [boolRow]
@[simp] theorem boolRow_nil : boolRow [] = [] := rfl
theorem boolRow_append (a b : List Bool) : boolRow (a ++ b) = boolRow a ++ boolRow b := by simp [boolRow]
@[simp] theorem boolRow_append' (a b : List Bool) : boolRow a ++ boolRow b = boolRow (a ++ b) := (boolRow_append a b).symm
theorem boolRow_one (b : Bool) : [[V.bool b]] = boolRow [b] := rfl
@[simp] theorem boolRow_get (l : List Bool) (n : Nat) : (boolRow l)[n]? = (l[n]?).map fun b => [V.bool b] := by simp [boolRow]
@[simp] theorem boolRow_getElem (l : List Bool) (n : Nat) (h : n < (boolRow l).length) : (boolRow l)[n] = (fun b : Bool => [V.bool b]) (l[n]'(by simpa using h)) := by simp [boolRow]
@[simp] theorem boolRow_isEmpty (l : List Bool) : (boolRow l).isEmpty = l.isEmpty := by cases l <;> rfl
@[simp] theorem boolRow_take (l : List Bool) (n : Nat) : (boolRow l).take n = boolRow (l.take n) := by simp [boolRow, List.map_take]
@[simp] theorem boolRow_drop (l : List Bool) (n : Nat) : (boolRow l).drop n = boolRow (l.drop n) := by simp [boolRow, List.map_drop]
theorem boolRow_set (l : List Bool) (n : Nat) (b : Bool) : (boolRow l).set n ([V.bool b]) = boolRow (l.set n b) := by simp [boolRow, List.map_set]
@[simp] theorem boolRow_closed : ∀ l : List Bool, closedRows (boolRow l) = true
  | [] => rfl
  | b :: l => by
    have := boolRow_closed l
    simp only [boolRow, List.map_cons] at this ⊢
    simp [closedRows, this, V.closed, V.closed.closedAll]
@[simp] theorem boolRow_fz (g : Nat → Option AObj) (F : List Nat) (l : List Bool) : (boolRow l).map (·.map (fzV g F)) = boolRow l := by simp [boolRow]
@[simp] theorem boolRow_scalar : ∀ l : List Bool, scalarRows (boolRow l) = true
  | [] => rfl
  | b :: l => by
    have := boolRow_scalar l
    simp only [boolRow, List.map_cons] at this ⊢
    simp [scalarRows, this]
theorem boolRow_inj : ∀ {a b : List Bool}, boolRow a = boolRow b → a = b
  | [], [], _ => rfl
  | [], _ :: _, h => by cases h
  | _ :: _, [], h => by cases h
  | x :: a, y :: b, h => by
    simp only [boolRow, List.map_cons, List.cons.injEq] at h
    obtain ⟨h1, h2⟩ := h
    rw [boolRow_inj h2, show x = y by simpa using h1]
@[simp] theorem boolRow_eq {a b : List Bool} : boolRow a = boolRow b ↔ a = b := ⟨boolRow_inj, fun h => by rw [h]⟩

def listIntRow (l : List (List Int)) : List (List V) := l.map fun b => [.sl 2 1 (intRow b)]
@[simp] theorem listIntRow_length (l : List (List Int)) : (listIntRow l).length = l.length := by simp [listIntRow]
@[simp] theorem listIntRow_nil : listIntRow [] = [] := rfl
theorem listIntRow_append (a b : List (List Int)) : listIntRow (a ++ b) = listIntRow a ++ listIntRow b := by simp [listIntRow]
@[simp] theorem listIntRow_append' (a b : List (List Int)) : listIntRow a ++ listIntRow b = listIntRow (a ++ b) := (listIntRow_append a b).symm
theorem listIntRow_one (b : (List Int)) : [[V.sl 2 1 (intRow b)]] = listIntRow [b] := rfl
@[simp] theorem listIntRow_get (l : List (List Int)) (n : Nat) : (listIntRow l)[n]? = (l[n]?).map fun b => [V.sl 2 1 (intRow b)] := by simp [listIntRow]
@[simp] theorem listIntRow_getElem (l : List (List Int)) (n : Nat) (h : n < (listIntRow l).length) : (listIntRow l)[n] = (fun b : (List Int) => [V.sl 2 1 (intRow b)]) (l[n]'(by simpa using h)) := by simp [listIntRow]
@[simp] theorem listIntRow_isEmpty (l : List (List Int)) : (listIntRow l).isEmpty = l.isEmpty := by cases l <;> rfl
@[simp] theorem listIntRow_take (l : List (List Int)) (n : Nat) : (listIntRow l).take n = listIntRow (l.take n) := by simp [listIntRow, List.map_take]
@[simp] theorem listIntRow_drop (l : List (List Int)) (n : Nat) : (listIntRow l).drop n = listIntRow (l.drop n) := by simp [listIntRow, List.map_drop]
theorem listIntRow_set (l : List (List Int)) (n : Nat) (b : (List Int)) : (listIntRow l).set n ([V.sl 2 1 (intRow b)]) = listIntRow (l.set n b) := by simp [listIntRow, List.map_set]
@[simp] theorem listIntRow_closed : ∀ l : List (List Int), closedRows (listIntRow l) = true
  | [] => rfl
  | b :: l => by
    have := listIntRow_closed l
    simp only [listIntRow, List.map_cons] at this ⊢
    simp [closedRows, this, V.closed, V.closed.closedAll]
@[simp] theorem listIntRow_fz (g : Nat → Option AObj) (F : List Nat) (l : List (List Int)) : (listIntRow l).map (·.map (fzV g F)) = listIntRow l := by simp [listIntRow]
theorem listIntRow_inj : ∀ {a b : List (List Int)}, listIntRow a = listIntRow b → a = b
  | [], [], _ => rfl
  | [], _ :: _, h => by cases h
  | _ :: _, [], h => by cases h
  | x :: a, y :: b, h => by
    simp only [listIntRow, List.map_cons, List.cons.injEq] at h
    obtain ⟨h1, h2⟩ := h
    rw [listIntRow_inj h2, show x = y by simpa using h1]
@[simp] theorem listIntRow_eq {a b : List (List Int)} : listIntRow a = listIntRow b ↔ a = b := ⟨listIntRow_inj, fun h => by rw [h]⟩

theorem intRow_set (l : List Int) (n : Nat) (b : Int) : (intRow l).set n [V.int .i64 b] = intRow (l.set n b) := by simp [intRow, List.map_set]
theorem intRow_one (b : Int) : [[V.int .i64 b]] = intRow [b] := rfl
@[simp] theorem intRow_closed : ∀ l : List Int, closedRows (intRow l) = true
  | [] => rfl
  | b :: l => by
    have := intRow_closed l
    simp only [intRow, List.map_cons] at this ⊢
    simp [closedRows, this, V.closed, V.closed.closedAll]
@[simp] theorem intRow_fz (g : Nat → Option AObj) (F : List Nat) (l : List Int) : (intRow l).map (·.map (fzV g F)) = intRow l := by simp [intRow]
@[simp] theorem byteRow_closed : ∀ l : List UInt8, closedRows (byteRow l) = true
  | [] => rfl
  | b :: l => by
    have := byteRow_closed l
    simp only [byteRow, List.map_cons] at this ⊢
    simp [closedRows, this, V.closed, V.closed.closedAll]
@[simp] theorem byteRow_fz (g : Nat → Option AObj) (F : List Nat) (l : List UInt8) : (byteRow l).map (·.map (fzV g F)) = byteRow l := by simp [byteRow]

structure GZone where -- 78
  Region : Int
  deriving DecidableEq
def GZone.cells (x : GZone) : List V := [.int .i64 x.Region]
def GZone.ok (x : GZone) : Prop := In64 x.Region
theorem GZone.cells_inj {x y : GZone} (h : x.cells = y.cells) : x = y := by
  obtain ⟨_⟩ := x
  obtain ⟨_⟩ := y
  simp [GZone.cells] at h
  simp [h]
def GZone.row (l : List GZone) : List (List V) := l.map GZone.cells
@[simp] theorem GZone.row_length (l : List GZone) : (GZone.row l).length = l.length := by simp [GZone.row]
@[simp] theorem GZone.row_nil : GZone.row [] = [] := rfl
theorem GZone.row_append (a b : List GZone) : GZone.row (a ++ b) = GZone.row a ++ GZone.row b := by simp [GZone.row]
@[simp] theorem GZone.row_append' (a b : List GZone) : GZone.row a ++ GZone.row b = GZone.row (a ++ b) := (GZone.row_append a b).symm
theorem GZone.row_one (b : GZone) : [GZone.cells b] = GZone.row [b] := rfl
@[simp] theorem GZone.row_get (l : List GZone) (n : Nat) : (GZone.row l)[n]? = (l[n]?).map fun b => GZone.cells b := by simp [GZone.row]
@[simp] theorem GZone.row_getElem (l : List GZone) (n : Nat) (h : n < (GZone.row l).length) : (GZone.row l)[n] = (fun b : GZone => GZone.cells b) (l[n]'(by simpa using h)) := by simp [GZone.row]
@[simp] theorem GZone.row_isEmpty (l : List GZone) : (GZone.row l).isEmpty = l.isEmpty := by cases l <;> rfl
@[simp] theorem GZone.row_take (l : List GZone) (n : Nat) : (GZone.row l).take n = GZone.row (l.take n) := by simp [GZone.row, List.map_take]
@[simp] theorem GZone.row_drop (l : List GZone) (n : Nat) : (GZone.row l).drop n = GZone.row (l.drop n) := by simp [GZone.row, List.map_drop]
theorem GZone.row_set (l : List GZone) (n : Nat) (b : GZone) : (GZone.row l).set n (GZone.cells b) = GZone.row (l.set n b) := by simp [GZone.row, List.map_set]
@[simp] theorem GZone.row_closed : ∀ l : List GZone, closedRows (GZone.row l) = true
  | [] => rfl
  | b :: l => by
    have := GZone.row_closed l
    simp only [GZone.row, List.map_cons] at this ⊢
    simp [closedRows, this, V.closed, V.closed.closedAll, GZone.cells]
@[simp] theorem GZone.row_fz (g : Nat → Option AObj) (F : List Nat) (l : List GZone) : (GZone.row l).map (·.map (fzV g F)) = GZone.row l := by simp [GZone.row, GZone.cells]
@[simp] theorem GZone.row_scalar : ∀ l : List GZone, scalarRows (GZone.row l) = true
  | [] => rfl
  | b :: l => by
    have := GZone.row_scalar l
    simp only [GZone.row, List.map_cons] at this ⊢
    simp [scalarRows, this, GZone.cells]
theorem GZone.row_inj : ∀ {a b : List GZone}, GZone.row a = GZone.row b → a = b
  | [], [], _ => rfl
  | [], _ :: _, h => by cases h
  | _ :: _, [], h => by cases h
  | x :: a, y :: b, h => by
    simp only [GZone.row, List.map_cons, List.cons.injEq] at h
    obtain ⟨h1, h2⟩ := h
    rw [GZone.row_inj h2, show x = y from GZone.cells_inj h1]
@[simp] theorem GZone.row_eq {a b : List GZone} : GZone.row a = GZone.row b ↔ a = b := ⟨GZone.row_inj, fun h => by rw [h]⟩

def vZone (x : GZone) : V := .agg x.cells
theorem vZone_folded (x : GZone) : Folded (vZone x) := ⟨x.cells, rfl, by simp [GZone.cells, V.closed, V.closed.closedAll]⟩
@[simp] theorem vZone_eq {x y : GZone} : vZone x = vZone y ↔ x = y := ⟨fun h => by simp only [vZone, V.agg.injEq] at h; exact GZone.cells_inj h, fun h => by rw [h]⟩
@[simp] theorem vZone_closed (x : GZone) : (vZone x).closed = true := (vZone_folded x).closed
@[simp] theorem vZone_ren (x : GZone) (f : Nat → Nat) : (vZone x).ren f = vZone x := (vZone_folded x).ren f
@[simp] theorem vZone_within (x : GZone) (D : Nat → Bool) : (vZone x).within D = true := (vZone_folded x).within D
@[simp] theorem vZone_argV (x : GZone) (g : Nat → Option AObj) (refs : List Nat) : argV g refs (vZone x) = some (vZone x, []) := (vZone_folded x).argV refs
@[simp] theorem vZone_names (x : GZone) : namesOf (vZone x) = [] := (vZone_folded x).names
@[simp] theorem vZone_deep (x : GZone) (g : Nat → Option AObj) : argNm g (vZone x) = [] := (vZone_folded x).deep
@[simp] theorem vZone_ptr (x : GZone) (r : List V) : ptrNames (vZone x :: r) = ptrNames r := (vZone_folded x).ptr r
@[simp] theorem vZone_junk (x : GZone) : (vZone x).isJunk = false := (vZone_folded x).junk
@[simp] theorem vZone_fz (x : GZone) (g : Nat → Option AObj) (F : List Nat) : fzV g F (vZone x) = vZone x := (vZone_folded x).fz F
@[simp] theorem vZone_tag (x : GZone) : tagV (vZone x) = vZone x := by simp [vZone, GZone.cells]
@[simp] theorem vZone_cells (x : GZone) : (vZone x).cells = x.cells := rfl

theorem vZone_fold (x : GZone) : V.agg [.int .i64 x.Region] = vZone x := rfl

structure GCell where -- 80
  Zone : Int
  Capacity : Int
  deriving DecidableEq
def GCell.cells (x : GCell) : List V := [.int .i64 x.Zone, .int .i64 x.Capacity]
def GCell.ok (x : GCell) : Prop := In64 x.Zone ∧ In64 x.Capacity
theorem GCell.cells_inj {x y : GCell} (h : x.cells = y.cells) : x = y := by
  obtain ⟨_, _⟩ := x
  obtain ⟨_, _⟩ := y
  simp [GCell.cells] at h
  simp [h]
def GCell.row (l : List GCell) : List (List V) := l.map GCell.cells
@[simp] theorem GCell.row_length (l : List GCell) : (GCell.row l).length = l.length := by simp [GCell.row]
@[simp] theorem GCell.row_nil : GCell.row [] = [] := rfl
theorem GCell.row_append (a b : List GCell) : GCell.row (a ++ b) = GCell.row a ++ GCell.row b := by simp [GCell.row]
@[simp] theorem GCell.row_append' (a b : List GCell) : GCell.row a ++ GCell.row b = GCell.row (a ++ b) := (GCell.row_append a b).symm
theorem GCell.row_one (b : GCell) : [GCell.cells b] = GCell.row [b] := rfl
@[simp] theorem GCell.row_get (l : List GCell) (n : Nat) : (GCell.row l)[n]? = (l[n]?).map fun b => GCell.cells b := by simp [GCell.row]
@[simp] theorem GCell.row_getElem (l : List GCell) (n : Nat) (h : n < (GCell.row l).length) : (GCell.row l)[n] = (fun b : GCell => GCell.cells b) (l[n]'(by simpa using h)) := by simp [GCell.row]
@[simp] theorem GCell.row_isEmpty (l : List GCell) : (GCell.row l).isEmpty = l.isEmpty := by cases l <;> rfl
@[simp] theorem GCell.row_take (l : List GCell) (n : Nat) : (GCell.row l).take n = GCell.row (l.take n) := by simp [GCell.row, List.map_take]
@[simp] theorem GCell.row_drop (l : List GCell) (n : Nat) : (GCell.row l).drop n = GCell.row (l.drop n) := by simp [GCell.row, List.map_drop]
theorem GCell.row_set (l : List GCell) (n : Nat) (b : GCell) : (GCell.row l).set n (GCell.cells b) = GCell.row (l.set n b) := by simp [GCell.row, List.map_set]
@[simp] theorem GCell.row_closed : ∀ l : List GCell, closedRows (GCell.row l) = true
  | [] => rfl
  | b :: l => by
    have := GCell.row_closed l
    simp only [GCell.row, List.map_cons] at this ⊢
    simp [closedRows, this, V.closed, V.closed.closedAll, GCell.cells]
@[simp] theorem GCell.row_fz (g : Nat → Option AObj) (F : List Nat) (l : List GCell) : (GCell.row l).map (·.map (fzV g F)) = GCell.row l := by simp [GCell.row, GCell.cells]
@[simp] theorem GCell.row_scalar : ∀ l : List GCell, scalarRows (GCell.row l) = true
  | [] => rfl
  | b :: l => by
    have := GCell.row_scalar l
    simp only [GCell.row, List.map_cons] at this ⊢
    simp [scalarRows, this, GCell.cells]
theorem GCell.row_inj : ∀ {a b : List GCell}, GCell.row a = GCell.row b → a = b
  | [], [], _ => rfl
  | [], _ :: _, h => by cases h
  | _ :: _, [], h => by cases h
  | x :: a, y :: b, h => by
    simp only [GCell.row, List.map_cons, List.cons.injEq] at h
    obtain ⟨h1, h2⟩ := h
    rw [GCell.row_inj h2, show x = y from GCell.cells_inj h1]
@[simp] theorem GCell.row_eq {a b : List GCell} : GCell.row a = GCell.row b ↔ a = b := ⟨GCell.row_inj, fun h => by rw [h]⟩

def vCell (x : GCell) : V := .agg x.cells
theorem vCell_folded (x : GCell) : Folded (vCell x) := ⟨x.cells, rfl, by simp [GCell.cells, V.closed, V.closed.closedAll]⟩
@[simp] theorem vCell_eq {x y : GCell} : vCell x = vCell y ↔ x = y := ⟨fun h => by simp only [vCell, V.agg.injEq] at h; exact GCell.cells_inj h, fun h => by rw [h]⟩
@[simp] theorem vCell_closed (x : GCell) : (vCell x).closed = true := (vCell_folded x).closed
@[simp] theorem vCell_ren (x : GCell) (f : Nat → Nat) : (vCell x).ren f = vCell x := (vCell_folded x).ren f
@[simp] theorem vCell_within (x : GCell) (D : Nat → Bool) : (vCell x).within D = true := (vCell_folded x).within D
@[simp] theorem vCell_argV (x : GCell) (g : Nat → Option AObj) (refs : List Nat) : argV g refs (vCell x) = some (vCell x, []) := (vCell_folded x).argV refs
@[simp] theorem vCell_names (x : GCell) : namesOf (vCell x) = [] := (vCell_folded x).names
@[simp] theorem vCell_deep (x : GCell) (g : Nat → Option AObj) : argNm g (vCell x) = [] := (vCell_folded x).deep
@[simp] theorem vCell_ptr (x : GCell) (r : List V) : ptrNames (vCell x :: r) = ptrNames r := (vCell_folded x).ptr r
@[simp] theorem vCell_junk (x : GCell) : (vCell x).isJunk = false := (vCell_folded x).junk
@[simp] theorem vCell_fz (x : GCell) (g : Nat → Option AObj) (F : List Nat) : fzV g F (vCell x) = vCell x := (vCell_folded x).fz F
@[simp] theorem vCell_tag (x : GCell) : tagV (vCell x) = vCell x := by simp [vCell, GCell.cells]
@[simp] theorem vCell_cells (x : GCell) : (vCell x).cells = x.cells := rfl

theorem vCell_fold (x : GCell) : V.agg [.int .i64 x.Zone, .int .i64 x.Capacity] = vCell x := rfl

structure GTenant where -- 83
  Load : Int
  Shadow : Int
  Priority : Int
  Lag : Int
  Allowed : Int
  Group : Int
  Noisy : Bool
  deriving DecidableEq
def GTenant.cells (x : GTenant) : List V := [.int .i64 x.Load, .int .i64 x.Shadow, .int .i64 x.Priority, .int .i64 x.Lag, .int .i64 x.Allowed, .int .i64 x.Group, .bool x.Noisy]
def GTenant.ok (x : GTenant) : Prop := In64 x.Load ∧ In64 x.Shadow ∧ In64 x.Priority ∧ In64 x.Lag ∧ In64 x.Allowed ∧ In64 x.Group
theorem GTenant.cells_inj {x y : GTenant} (h : x.cells = y.cells) : x = y := by
  obtain ⟨_, _, _, _, _, _, _⟩ := x
  obtain ⟨_, _, _, _, _, _, _⟩ := y
  simp [GTenant.cells] at h
  simp [h]
def GTenant.row (l : List GTenant) : List (List V) := l.map GTenant.cells
@[simp] theorem GTenant.row_length (l : List GTenant) : (GTenant.row l).length = l.length := by simp [GTenant.row]
@[simp] theorem GTenant.row_nil : GTenant.row [] = [] := rfl
theorem GTenant.row_append (a b : List GTenant) : GTenant.row (a ++ b) = GTenant.row a ++ GTenant.row b := by simp [GTenant.row]
@[simp] theorem GTenant.row_append' (a b : List GTenant) : GTenant.row a ++ GTenant.row b = GTenant.row (a ++ b) := (GTenant.row_append a b).symm
theorem GTenant.row_one (b : GTenant) : [GTenant.cells b] = GTenant.row [b] := rfl
@[simp] theorem GTenant.row_get (l : List GTenant) (n : Nat) : (GTenant.row l)[n]? = (l[n]?).map fun b => GTenant.cells b := by simp [GTenant.row]
@[simp] theorem GTenant.row_getElem (l : List GTenant) (n : Nat) (h : n < (GTenant.row l).length) : (GTenant.row l)[n] = (fun b : GTenant => GTenant.cells b) (l[n]'(by simpa using h)) := by simp [GTenant.row]
@[simp] theorem GTenant.row_isEmpty (l : List GTenant) : (GTenant.row l).isEmpty = l.isEmpty := by cases l <;> rfl
@[simp] theorem GTenant.row_take (l : List GTenant) (n : Nat) : (GTenant.row l).take n = GTenant.row (l.take n) := by simp [GTenant.row, List.map_take]
@[simp] theorem GTenant.row_drop (l : List GTenant) (n : Nat) : (GTenant.row l).drop n = GTenant.row (l.drop n) := by simp [GTenant.row, List.map_drop]
theorem GTenant.row_set (l : List GTenant) (n : Nat) (b : GTenant) : (GTenant.row l).set n (GTenant.cells b) = GTenant.row (l.set n b) := by simp [GTenant.row, List.map_set]
@[simp] theorem GTenant.row_closed : ∀ l : List GTenant, closedRows (GTenant.row l) = true
  | [] => rfl
  | b :: l => by
    have := GTenant.row_closed l
    simp only [GTenant.row, List.map_cons] at this ⊢
    simp [closedRows, this, V.closed, V.closed.closedAll, GTenant.cells]
@[simp] theorem GTenant.row_fz (g : Nat → Option AObj) (F : List Nat) (l : List GTenant) : (GTenant.row l).map (·.map (fzV g F)) = GTenant.row l := by simp [GTenant.row, GTenant.cells]
@[simp] theorem GTenant.row_scalar : ∀ l : List GTenant, scalarRows (GTenant.row l) = true
  | [] => rfl
  | b :: l => by
    have := GTenant.row_scalar l
    simp only [GTenant.row, List.map_cons] at this ⊢
    simp [scalarRows, this, GTenant.cells]
theorem GTenant.row_inj : ∀ {a b : List GTenant}, GTenant.row a = GTenant.row b → a = b
  | [], [], _ => rfl
  | [], _ :: _, h => by cases h
  | _ :: _, [], h => by cases h
  | x :: a, y :: b, h => by
    simp only [GTenant.row, List.map_cons, List.cons.injEq] at h
    obtain ⟨h1, h2⟩ := h
    rw [GTenant.row_inj h2, show x = y from GTenant.cells_inj h1]
@[simp] theorem GTenant.row_eq {a b : List GTenant} : GTenant.row a = GTenant.row b ↔ a = b := ⟨GTenant.row_inj, fun h => by rw [h]⟩

def vTenant (x : GTenant) : V := .agg x.cells
theorem vTenant_folded (x : GTenant) : Folded (vTenant x) := ⟨x.cells, rfl, by simp [GTenant.cells, V.closed, V.closed.closedAll]⟩
@[simp] theorem vTenant_eq {x y : GTenant} : vTenant x = vTenant y ↔ x = y := ⟨fun h => by simp only [vTenant, V.agg.injEq] at h; exact GTenant.cells_inj h, fun h => by rw [h]⟩
@[simp] theorem vTenant_closed (x : GTenant) : (vTenant x).closed = true := (vTenant_folded x).closed
@[simp] theorem vTenant_ren (x : GTenant) (f : Nat → Nat) : (vTenant x).ren f = vTenant x := (vTenant_folded x).ren f
@[simp] theorem vTenant_within (x : GTenant) (D : Nat → Bool) : (vTenant x).within D = true := (vTenant_folded x).within D
@[simp] theorem vTenant_argV (x : GTenant) (g : Nat → Option AObj) (refs : List Nat) : argV g refs (vTenant x) = some (vTenant x, []) := (vTenant_folded x).argV refs
@[simp] theorem vTenant_names (x : GTenant) : namesOf (vTenant x) = [] := (vTenant_folded x).names
@[simp] theorem vTenant_deep (x : GTenant) (g : Nat → Option AObj) : argNm g (vTenant x) = [] := (vTenant_folded x).deep
@[simp] theorem vTenant_ptr (x : GTenant) (r : List V) : ptrNames (vTenant x :: r) = ptrNames r := (vTenant_folded x).ptr r
@[simp] theorem vTenant_junk (x : GTenant) : (vTenant x).isJunk = false := (vTenant_folded x).junk
@[simp] theorem vTenant_fz (x : GTenant) (g : Nat → Option AObj) (F : List Nat) : fzV g F (vTenant x) = vTenant x := (vTenant_folded x).fz F
@[simp] theorem vTenant_tag (x : GTenant) : tagV (vTenant x) = vTenant x := by simp [vTenant, GTenant.cells]
@[simp] theorem vTenant_cells (x : GTenant) : (vTenant x).cells = x.cells := rfl

structure GVersion where -- 85
  Low : Int
  High : Int
  deriving DecidableEq
def GVersion.cells (x : GVersion) : List V := [.int .i64 x.Low, .int .i64 x.High]
def GVersion.ok (x : GVersion) : Prop := In64 x.Low ∧ In64 x.High
theorem GVersion.cells_inj {x y : GVersion} (h : x.cells = y.cells) : x = y := by
  obtain ⟨_, _⟩ := x
  obtain ⟨_, _⟩ := y
  simp [GVersion.cells] at h
  simp [h]
def GVersion.row (l : List GVersion) : List (List V) := l.map GVersion.cells
@[simp] theorem GVersion.row_length (l : List GVersion) : (GVersion.row l).length = l.length := by simp [GVersion.row]
@[simp] theorem GVersion.row_nil : GVersion.row [] = [] := rfl
theorem GVersion.row_append (a b : List GVersion) : GVersion.row (a ++ b) = GVersion.row a ++ GVersion.row b := by simp [GVersion.row]
@[simp] theorem GVersion.row_append' (a b : List GVersion) : GVersion.row a ++ GVersion.row b = GVersion.row (a ++ b) := (GVersion.row_append a b).symm
theorem GVersion.row_one (b : GVersion) : [GVersion.cells b] = GVersion.row [b] := rfl
@[simp] theorem GVersion.row_get (l : List GVersion) (n : Nat) : (GVersion.row l)[n]? = (l[n]?).map fun b => GVersion.cells b := by simp [GVersion.row]
@[simp] theorem GVersion.row_getElem (l : List GVersion) (n : Nat) (h : n < (GVersion.row l).length) : (GVersion.row l)[n] = (fun b : GVersion => GVersion.cells b) (l[n]'(by simpa using h)) := by simp [GVersion.row]
@[simp] theorem GVersion.row_isEmpty (l : List GVersion) : (GVersion.row l).isEmpty = l.isEmpty := by cases l <;> rfl
@[simp] theorem GVersion.row_take (l : List GVersion) (n : Nat) : (GVersion.row l).take n = GVersion.row (l.take n) := by simp [GVersion.row, List.map_take]
@[simp] theorem GVersion.row_drop (l : List GVersion) (n : Nat) : (GVersion.row l).drop n = GVersion.row (l.drop n) := by simp [GVersion.row, List.map_drop]
theorem GVersion.row_set (l : List GVersion) (n : Nat) (b : GVersion) : (GVersion.row l).set n (GVersion.cells b) = GVersion.row (l.set n b) := by simp [GVersion.row, List.map_set]
@[simp] theorem GVersion.row_closed : ∀ l : List GVersion, closedRows (GVersion.row l) = true
  | [] => rfl
  | b :: l => by
    have := GVersion.row_closed l
    simp only [GVersion.row, List.map_cons] at this ⊢
    simp [closedRows, this, V.closed, V.closed.closedAll, GVersion.cells]
@[simp] theorem GVersion.row_fz (g : Nat → Option AObj) (F : List Nat) (l : List GVersion) : (GVersion.row l).map (·.map (fzV g F)) = GVersion.row l := by simp [GVersion.row, GVersion.cells]
@[simp] theorem GVersion.row_scalar : ∀ l : List GVersion, scalarRows (GVersion.row l) = true
  | [] => rfl
  | b :: l => by
    have := GVersion.row_scalar l
    simp only [GVersion.row, List.map_cons] at this ⊢
    simp [scalarRows, this, GVersion.cells]
theorem GVersion.row_inj : ∀ {a b : List GVersion}, GVersion.row a = GVersion.row b → a = b
  | [], [], _ => rfl
  | [], _ :: _, h => by cases h
  | _ :: _, [], h => by cases h
  | x :: a, y :: b, h => by
    simp only [GVersion.row, List.map_cons, List.cons.injEq] at h
    obtain ⟨h1, h2⟩ := h
    rw [GVersion.row_inj h2, show x = y from GVersion.cells_inj h1]
@[simp] theorem GVersion.row_eq {a b : List GVersion} : GVersion.row a = GVersion.row b ↔ a = b := ⟨GVersion.row_inj, fun h => by rw [h]⟩

def vVersion (x : GVersion) : V := .agg x.cells
theorem vVersion_folded (x : GVersion) : Folded (vVersion x) := ⟨x.cells, rfl, by simp [GVersion.cells, V.closed, V.closed.closedAll]⟩
@[simp] theorem vVersion_eq {x y : GVersion} : vVersion x = vVersion y ↔ x = y := ⟨fun h => by simp only [vVersion, V.agg.injEq] at h; exact GVersion.cells_inj h, fun h => by rw [h]⟩
@[simp] theorem vVersion_closed (x : GVersion) : (vVersion x).closed = true := (vVersion_folded x).closed
@[simp] theorem vVersion_ren (x : GVersion) (f : Nat → Nat) : (vVersion x).ren f = vVersion x := (vVersion_folded x).ren f
@[simp] theorem vVersion_within (x : GVersion) (D : Nat → Bool) : (vVersion x).within D = true := (vVersion_folded x).within D
@[simp] theorem vVersion_argV (x : GVersion) (g : Nat → Option AObj) (refs : List Nat) : argV g refs (vVersion x) = some (vVersion x, []) := (vVersion_folded x).argV refs
@[simp] theorem vVersion_names (x : GVersion) : namesOf (vVersion x) = [] := (vVersion_folded x).names
@[simp] theorem vVersion_deep (x : GVersion) (g : Nat → Option AObj) : argNm g (vVersion x) = [] := (vVersion_folded x).deep
@[simp] theorem vVersion_ptr (x : GVersion) (r : List V) : ptrNames (vVersion x :: r) = ptrNames r := (vVersion_folded x).ptr r
@[simp] theorem vVersion_junk (x : GVersion) : (vVersion x).isJunk = false := (vVersion_folded x).junk
@[simp] theorem vVersion_fz (x : GVersion) (g : Nat → Option AObj) (F : List Nat) : fzV g F (vVersion x) = vVersion x := (vVersion_folded x).fz F
@[simp] theorem vVersion_tag (x : GVersion) : tagV (vVersion x) = vVersion x := by simp [vVersion, GVersion.cells]
@[simp] theorem vVersion_cells (x : GVersion) : (vVersion x).cells = x.cells := rfl

theorem vVersion_fold (x : GVersion) : V.agg [.int .i64 x.Low, .int .i64 x.High] = vVersion x := rfl

structure GConfig where -- 32
  Regions : Int
  Zones : List GZone
  Cells : List GCell
  Tenants : List GTenant
  Versions : List GVersion
  Replicas : List Int
  Observers : List Int
  Blast : Int
  Lease : Int
  Bake : Int
  deriving DecidableEq
def GConfig.cells (x : GConfig) : List V := [.int .i64 x.Regions, .sl 2 1 (GZone.row x.Zones), .sl 2 2 (GCell.row x.Cells), .sl 2 7 (GTenant.row x.Tenants), .sl 2 2 (GVersion.row x.Versions), .sl 2 1 (intRow x.Replicas), .sl 2 1 (intRow x.Observers), .int .i64 x.Blast, .int .i64 x.Lease, .int .i64 x.Bake]
def GConfig.ok (x : GConfig) : Prop := In64 x.Regions ∧ (∀ y ∈ x.Zones, GZone.ok y) ∧ (∀ y ∈ x.Cells, GCell.ok y) ∧ (∀ y ∈ x.Tenants, GTenant.ok y) ∧ (∀ y ∈ x.Versions, GVersion.ok y) ∧ (∀ y ∈ x.Replicas, In64 y) ∧ (∀ y ∈ x.Observers, In64 y) ∧ In64 x.Blast ∧ In64 x.Lease ∧ In64 x.Bake
theorem GConfig.cells_inj {x y : GConfig} (h : x.cells = y.cells) : x = y := by
  obtain ⟨_, _, _, _, _, _, _, _, _, _⟩ := x
  obtain ⟨_, _, _, _, _, _, _, _, _, _⟩ := y
  simp [GConfig.cells] at h
  simp [h]
def GConfig.row (l : List GConfig) : List (List V) := l.map GConfig.cells
@[simp] theorem GConfig.row_length (l : List GConfig) : (GConfig.row l).length = l.length := by simp [GConfig.row]
@[simp] theorem GConfig.row_nil : GConfig.row [] = [] := rfl
theorem GConfig.row_append (a b : List GConfig) : GConfig.row (a ++ b) = GConfig.row a ++ GConfig.row b := by simp [GConfig.row]
@[simp] theorem GConfig.row_append' (a b : List GConfig) : GConfig.row a ++ GConfig.row b = GConfig.row (a ++ b) := (GConfig.row_append a b).symm
theorem GConfig.row_one (b : GConfig) : [GConfig.cells b] = GConfig.row [b] := rfl
@[simp] theorem GConfig.row_get (l : List GConfig) (n : Nat) : (GConfig.row l)[n]? = (l[n]?).map fun b => GConfig.cells b := by simp [GConfig.row]
@[simp] theorem GConfig.row_getElem (l : List GConfig) (n : Nat) (h : n < (GConfig.row l).length) : (GConfig.row l)[n] = (fun b : GConfig => GConfig.cells b) (l[n]'(by simpa using h)) := by simp [GConfig.row]
@[simp] theorem GConfig.row_isEmpty (l : List GConfig) : (GConfig.row l).isEmpty = l.isEmpty := by cases l <;> rfl
@[simp] theorem GConfig.row_take (l : List GConfig) (n : Nat) : (GConfig.row l).take n = GConfig.row (l.take n) := by simp [GConfig.row, List.map_take]
@[simp] theorem GConfig.row_drop (l : List GConfig) (n : Nat) : (GConfig.row l).drop n = GConfig.row (l.drop n) := by simp [GConfig.row, List.map_drop]
theorem GConfig.row_set (l : List GConfig) (n : Nat) (b : GConfig) : (GConfig.row l).set n (GConfig.cells b) = GConfig.row (l.set n b) := by simp [GConfig.row, List.map_set]
@[simp] theorem GConfig.row_closed : ∀ l : List GConfig, closedRows (GConfig.row l) = true
  | [] => rfl
  | b :: l => by
    have := GConfig.row_closed l
    simp only [GConfig.row, List.map_cons] at this ⊢
    simp [closedRows, this, V.closed, V.closed.closedAll, GConfig.cells]
@[simp] theorem GConfig.row_fz (g : Nat → Option AObj) (F : List Nat) (l : List GConfig) : (GConfig.row l).map (·.map (fzV g F)) = GConfig.row l := by simp [GConfig.row, GConfig.cells]
theorem GConfig.row_inj : ∀ {a b : List GConfig}, GConfig.row a = GConfig.row b → a = b
  | [], [], _ => rfl
  | [], _ :: _, h => by cases h
  | _ :: _, [], h => by cases h
  | x :: a, y :: b, h => by
    simp only [GConfig.row, List.map_cons, List.cons.injEq] at h
    obtain ⟨h1, h2⟩ := h
    rw [GConfig.row_inj h2, show x = y from GConfig.cells_inj h1]
@[simp] theorem GConfig.row_eq {a b : List GConfig} : GConfig.row a = GConfig.row b ↔ a = b := ⟨GConfig.row_inj, fun h => by rw [h]⟩

def vConfig (x : GConfig) : V := .agg x.cells
theorem vConfig_folded (x : GConfig) : Folded (vConfig x) := ⟨x.cells, rfl, by simp [GConfig.cells, V.closed, V.closed.closedAll]⟩
@[simp] theorem vConfig_eq {x y : GConfig} : vConfig x = vConfig y ↔ x = y := ⟨fun h => by simp only [vConfig, V.agg.injEq] at h; exact GConfig.cells_inj h, fun h => by rw [h]⟩
@[simp] theorem vConfig_closed (x : GConfig) : (vConfig x).closed = true := (vConfig_folded x).closed
@[simp] theorem vConfig_ren (x : GConfig) (f : Nat → Nat) : (vConfig x).ren f = vConfig x := (vConfig_folded x).ren f
@[simp] theorem vConfig_within (x : GConfig) (D : Nat → Bool) : (vConfig x).within D = true := (vConfig_folded x).within D
@[simp] theorem vConfig_argV (x : GConfig) (g : Nat → Option AObj) (refs : List Nat) : argV g refs (vConfig x) = some (vConfig x, []) := (vConfig_folded x).argV refs
@[simp] theorem vConfig_names (x : GConfig) : namesOf (vConfig x) = [] := (vConfig_folded x).names
@[simp] theorem vConfig_deep (x : GConfig) (g : Nat → Option AObj) : argNm g (vConfig x) = [] := (vConfig_folded x).deep
@[simp] theorem vConfig_ptr (x : GConfig) (r : List V) : ptrNames (vConfig x :: r) = ptrNames r := (vConfig_folded x).ptr r
@[simp] theorem vConfig_junk (x : GConfig) : (vConfig x).isJunk = false := (vConfig_folded x).junk
@[simp] theorem vConfig_fz (x : GConfig) (g : Nat → Option AObj) (F : List Nat) : fzV g F (vConfig x) = vConfig x := (vConfig_folded x).fz F
@[simp] theorem vConfig_tag (x : GConfig) : tagV (vConfig x) = vConfig x := by simp [vConfig, GConfig.cells]
@[simp] theorem vConfig_cells (x : GConfig) : (vConfig x).cells = x.cells := rfl

structure GEntry where -- 24
  Kind : Int
  Tick : Int
  Tenant : Int
  Cell : Int
  Other : Int
  Epoch : Int
  From : Int
  Until : Int
  N : Int
  deriving DecidableEq
def GEntry.cells (x : GEntry) : List V := [.int .i64 x.Kind, .int .i64 x.Tick, .int .i64 x.Tenant, .int .i64 x.Cell, .int .i64 x.Other, .int .i64 x.Epoch, .int .i64 x.From, .int .i64 x.Until, .int .i64 x.N]
def GEntry.ok (x : GEntry) : Prop := In64 x.Kind ∧ In64 x.Tick ∧ In64 x.Tenant ∧ In64 x.Cell ∧ In64 x.Other ∧ In64 x.Epoch ∧ In64 x.From ∧ In64 x.Until ∧ In64 x.N
theorem GEntry.cells_inj {x y : GEntry} (h : x.cells = y.cells) : x = y := by
  obtain ⟨_, _, _, _, _, _, _, _, _⟩ := x
  obtain ⟨_, _, _, _, _, _, _, _, _⟩ := y
  simp [GEntry.cells] at h
  simp [h]
def GEntry.row (l : List GEntry) : List (List V) := l.map GEntry.cells
@[simp] theorem GEntry.row_length (l : List GEntry) : (GEntry.row l).length = l.length := by simp [GEntry.row]
@[simp] theorem GEntry.row_nil : GEntry.row [] = [] := rfl
theorem GEntry.row_append (a b : List GEntry) : GEntry.row (a ++ b) = GEntry.row a ++ GEntry.row b := by simp [GEntry.row]
@[simp] theorem GEntry.row_append' (a b : List GEntry) : GEntry.row a ++ GEntry.row b = GEntry.row (a ++ b) := (GEntry.row_append a b).symm
theorem GEntry.row_one (b : GEntry) : [GEntry.cells b] = GEntry.row [b] := rfl
@[simp] theorem GEntry.row_get (l : List GEntry) (n : Nat) : (GEntry.row l)[n]? = (l[n]?).map fun b => GEntry.cells b := by simp [GEntry.row]
@[simp] theorem GEntry.row_getElem (l : List GEntry) (n : Nat) (h : n < (GEntry.row l).length) : (GEntry.row l)[n] = (fun b : GEntry => GEntry.cells b) (l[n]'(by simpa using h)) := by simp [GEntry.row]
@[simp] theorem GEntry.row_isEmpty (l : List GEntry) : (GEntry.row l).isEmpty = l.isEmpty := by cases l <;> rfl
@[simp] theorem GEntry.row_take (l : List GEntry) (n : Nat) : (GEntry.row l).take n = GEntry.row (l.take n) := by simp [GEntry.row, List.map_take]
@[simp] theorem GEntry.row_drop (l : List GEntry) (n : Nat) : (GEntry.row l).drop n = GEntry.row (l.drop n) := by simp [GEntry.row, List.map_drop]
theorem GEntry.row_set (l : List GEntry) (n : Nat) (b : GEntry) : (GEntry.row l).set n (GEntry.cells b) = GEntry.row (l.set n b) := by simp [GEntry.row, List.map_set]
@[simp] theorem GEntry.row_closed : ∀ l : List GEntry, closedRows (GEntry.row l) = true
  | [] => rfl
  | b :: l => by
    have := GEntry.row_closed l
    simp only [GEntry.row, List.map_cons] at this ⊢
    simp [closedRows, this, V.closed, V.closed.closedAll, GEntry.cells]
@[simp] theorem GEntry.row_fz (g : Nat → Option AObj) (F : List Nat) (l : List GEntry) : (GEntry.row l).map (·.map (fzV g F)) = GEntry.row l := by simp [GEntry.row, GEntry.cells]
@[simp] theorem GEntry.row_scalar : ∀ l : List GEntry, scalarRows (GEntry.row l) = true
  | [] => rfl
  | b :: l => by
    have := GEntry.row_scalar l
    simp only [GEntry.row, List.map_cons] at this ⊢
    simp [scalarRows, this, GEntry.cells]
theorem GEntry.row_inj : ∀ {a b : List GEntry}, GEntry.row a = GEntry.row b → a = b
  | [], [], _ => rfl
  | [], _ :: _, h => by cases h
  | _ :: _, [], h => by cases h
  | x :: a, y :: b, h => by
    simp only [GEntry.row, List.map_cons, List.cons.injEq] at h
    obtain ⟨h1, h2⟩ := h
    rw [GEntry.row_inj h2, show x = y from GEntry.cells_inj h1]
@[simp] theorem GEntry.row_eq {a b : List GEntry} : GEntry.row a = GEntry.row b ↔ a = b := ⟨GEntry.row_inj, fun h => by rw [h]⟩

def vEntry (x : GEntry) : V := .agg x.cells
theorem vEntry_folded (x : GEntry) : Folded (vEntry x) := ⟨x.cells, rfl, by simp [GEntry.cells, V.closed, V.closed.closedAll]⟩
@[simp] theorem vEntry_eq {x y : GEntry} : vEntry x = vEntry y ↔ x = y := ⟨fun h => by simp only [vEntry, V.agg.injEq] at h; exact GEntry.cells_inj h, fun h => by rw [h]⟩
@[simp] theorem vEntry_closed (x : GEntry) : (vEntry x).closed = true := (vEntry_folded x).closed
@[simp] theorem vEntry_ren (x : GEntry) (f : Nat → Nat) : (vEntry x).ren f = vEntry x := (vEntry_folded x).ren f
@[simp] theorem vEntry_within (x : GEntry) (D : Nat → Bool) : (vEntry x).within D = true := (vEntry_folded x).within D
@[simp] theorem vEntry_argV (x : GEntry) (g : Nat → Option AObj) (refs : List Nat) : argV g refs (vEntry x) = some (vEntry x, []) := (vEntry_folded x).argV refs
@[simp] theorem vEntry_names (x : GEntry) : namesOf (vEntry x) = [] := (vEntry_folded x).names
@[simp] theorem vEntry_deep (x : GEntry) (g : Nat → Option AObj) : argNm g (vEntry x) = [] := (vEntry_folded x).deep
@[simp] theorem vEntry_ptr (x : GEntry) (r : List V) : ptrNames (vEntry x :: r) = ptrNames r := (vEntry_folded x).ptr r
@[simp] theorem vEntry_junk (x : GEntry) : (vEntry x).isJunk = false := (vEntry_folded x).junk
@[simp] theorem vEntry_fz (x : GEntry) (g : Nat → Option AObj) (F : List Nat) : fzV g F (vEntry x) = vEntry x := (vEntry_folded x).fz F
@[simp] theorem vEntry_tag (x : GEntry) : tagV (vEntry x) = vEntry x := by simp [vEntry, GEntry.cells]
@[simp] theorem vEntry_cells (x : GEntry) : (vEntry x).cells = x.cells := rfl

theorem vEntry_fold (x : GEntry) : V.agg [.int .i64 x.Kind, .int .i64 x.Tick, .int .i64 x.Tenant, .int .i64 x.Cell, .int .i64 x.Other, .int .i64 x.Epoch, .int .i64 x.From, .int .i64 x.Until, .int .i64 x.N] = vEntry x := rfl

structure GWindow where -- 88
  Cell : Int
  Epoch : Int
  Version : Int
  From : Int
  Until : Int
  deriving DecidableEq
def GWindow.cells (x : GWindow) : List V := [.int .i64 x.Cell, .int .i64 x.Epoch, .int .i64 x.Version, .int .i64 x.From, .int .i64 x.Until]
def GWindow.ok (x : GWindow) : Prop := In64 x.Cell ∧ In64 x.Epoch ∧ In64 x.Version ∧ In64 x.From ∧ In64 x.Until
theorem GWindow.cells_inj {x y : GWindow} (h : x.cells = y.cells) : x = y := by
  obtain ⟨_, _, _, _, _⟩ := x
  obtain ⟨_, _, _, _, _⟩ := y
  simp [GWindow.cells] at h
  simp [h]
def GWindow.row (l : List GWindow) : List (List V) := l.map GWindow.cells
@[simp] theorem GWindow.row_length (l : List GWindow) : (GWindow.row l).length = l.length := by simp [GWindow.row]
@[simp] theorem GWindow.row_nil : GWindow.row [] = [] := rfl
theorem GWindow.row_append (a b : List GWindow) : GWindow.row (a ++ b) = GWindow.row a ++ GWindow.row b := by simp [GWindow.row]
@[simp] theorem GWindow.row_append' (a b : List GWindow) : GWindow.row a ++ GWindow.row b = GWindow.row (a ++ b) := (GWindow.row_append a b).symm
theorem GWindow.row_one (b : GWindow) : [GWindow.cells b] = GWindow.row [b] := rfl
@[simp] theorem GWindow.row_get (l : List GWindow) (n : Nat) : (GWindow.row l)[n]? = (l[n]?).map fun b => GWindow.cells b := by simp [GWindow.row]
@[simp] theorem GWindow.row_getElem (l : List GWindow) (n : Nat) (h : n < (GWindow.row l).length) : (GWindow.row l)[n] = (fun b : GWindow => GWindow.cells b) (l[n]'(by simpa using h)) := by simp [GWindow.row]
@[simp] theorem GWindow.row_isEmpty (l : List GWindow) : (GWindow.row l).isEmpty = l.isEmpty := by cases l <;> rfl
@[simp] theorem GWindow.row_take (l : List GWindow) (n : Nat) : (GWindow.row l).take n = GWindow.row (l.take n) := by simp [GWindow.row, List.map_take]
@[simp] theorem GWindow.row_drop (l : List GWindow) (n : Nat) : (GWindow.row l).drop n = GWindow.row (l.drop n) := by simp [GWindow.row, List.map_drop]
theorem GWindow.row_set (l : List GWindow) (n : Nat) (b : GWindow) : (GWindow.row l).set n (GWindow.cells b) = GWindow.row (l.set n b) := by simp [GWindow.row, List.map_set]
@[simp] theorem GWindow.row_closed : ∀ l : List GWindow, closedRows (GWindow.row l) = true
  | [] => rfl
  | b :: l => by
    have := GWindow.row_closed l
    simp only [GWindow.row, List.map_cons] at this ⊢
    simp [closedRows, this, V.closed, V.closed.closedAll, GWindow.cells]
@[simp] theorem GWindow.row_fz (g : Nat → Option AObj) (F : List Nat) (l : List GWindow) : (GWindow.row l).map (·.map (fzV g F)) = GWindow.row l := by simp [GWindow.row, GWindow.cells]
@[simp] theorem GWindow.row_scalar : ∀ l : List GWindow, scalarRows (GWindow.row l) = true
  | [] => rfl
  | b :: l => by
    have := GWindow.row_scalar l
    simp only [GWindow.row, List.map_cons] at this ⊢
    simp [scalarRows, this, GWindow.cells]
theorem GWindow.row_inj : ∀ {a b : List GWindow}, GWindow.row a = GWindow.row b → a = b
  | [], [], _ => rfl
  | [], _ :: _, h => by cases h
  | _ :: _, [], h => by cases h
  | x :: a, y :: b, h => by
    simp only [GWindow.row, List.map_cons, List.cons.injEq] at h
    obtain ⟨h1, h2⟩ := h
    rw [GWindow.row_inj h2, show x = y from GWindow.cells_inj h1]
@[simp] theorem GWindow.row_eq {a b : List GWindow} : GWindow.row a = GWindow.row b ↔ a = b := ⟨GWindow.row_inj, fun h => by rw [h]⟩

def vWindow (x : GWindow) : V := .agg x.cells
theorem vWindow_folded (x : GWindow) : Folded (vWindow x) := ⟨x.cells, rfl, by simp [GWindow.cells, V.closed, V.closed.closedAll]⟩
@[simp] theorem vWindow_eq {x y : GWindow} : vWindow x = vWindow y ↔ x = y := ⟨fun h => by simp only [vWindow, V.agg.injEq] at h; exact GWindow.cells_inj h, fun h => by rw [h]⟩
@[simp] theorem vWindow_closed (x : GWindow) : (vWindow x).closed = true := (vWindow_folded x).closed
@[simp] theorem vWindow_ren (x : GWindow) (f : Nat → Nat) : (vWindow x).ren f = vWindow x := (vWindow_folded x).ren f
@[simp] theorem vWindow_within (x : GWindow) (D : Nat → Bool) : (vWindow x).within D = true := (vWindow_folded x).within D
@[simp] theorem vWindow_argV (x : GWindow) (g : Nat → Option AObj) (refs : List Nat) : argV g refs (vWindow x) = some (vWindow x, []) := (vWindow_folded x).argV refs
@[simp] theorem vWindow_names (x : GWindow) : namesOf (vWindow x) = [] := (vWindow_folded x).names
@[simp] theorem vWindow_deep (x : GWindow) (g : Nat → Option AObj) : argNm g (vWindow x) = [] := (vWindow_folded x).deep
@[simp] theorem vWindow_ptr (x : GWindow) (r : List V) : ptrNames (vWindow x :: r) = ptrNames r := (vWindow_folded x).ptr r
@[simp] theorem vWindow_junk (x : GWindow) : (vWindow x).isJunk = false := (vWindow_folded x).junk
@[simp] theorem vWindow_fz (x : GWindow) (g : Nat → Option AObj) (F : List Nat) : fzV g F (vWindow x) = vWindow x := (vWindow_folded x).fz F
@[simp] theorem vWindow_tag (x : GWindow) : tagV (vWindow x) = vWindow x := by simp [vWindow, GWindow.cells]
@[simp] theorem vWindow_cells (x : GWindow) : (vWindow x).cells = x.cells := rfl

theorem vWindow_fold (x : GWindow) : V.agg [.int .i64 x.Cell, .int .i64 x.Epoch, .int .i64 x.Version, .int .i64 x.From, .int .i64 x.Until] = vWindow x := rfl

structure GTenantState where -- 90
  Placed : Bool
  Shed : Bool
  Home : Int
  Standby : Int
  Next : Int
  Target : Int
  Epoch : Int
  Window : GWindow
  deriving DecidableEq
def GTenantState.cells (x : GTenantState) : List V := [.bool x.Placed, .bool x.Shed, .int .i64 x.Home, .int .i64 x.Standby, .int .i64 x.Next, .int .i64 x.Target, .int .i64 x.Epoch, .int .i64 x.Window.Cell, .int .i64 x.Window.Epoch, .int .i64 x.Window.Version, .int .i64 x.Window.From, .int .i64 x.Window.Until]
def GTenantState.ok (x : GTenantState) : Prop := In64 x.Home ∧ In64 x.Standby ∧ In64 x.Next ∧ In64 x.Target ∧ In64 x.Epoch ∧ GWindow.ok x.Window
theorem GTenantState.cells_inj {x y : GTenantState} (h : x.cells = y.cells) : x = y := by
  obtain ⟨_, _, _, _, _, _, _, ⟨_, _, _, _, _⟩⟩ := x
  obtain ⟨_, _, _, _, _, _, _, ⟨_, _, _, _, _⟩⟩ := y
  simp [GTenantState.cells] at h
  simp [h]
def GTenantState.row (l : List GTenantState) : List (List V) := l.map GTenantState.cells
@[simp] theorem GTenantState.row_length (l : List GTenantState) : (GTenantState.row l).length = l.length := by simp [GTenantState.row]
@[simp] theorem GTenantState.row_nil : GTenantState.row [] = [] := rfl
theorem GTenantState.row_append (a b : List GTenantState) : GTenantState.row (a ++ b) = GTenantState.row a ++ GTenantState.row b := by simp [GTenantState.row]
@[simp] theorem GTenantState.row_append' (a b : List GTenantState) : GTenantState.row a ++ GTenantState.row b = GTenantState.row (a ++ b) := (GTenantState.row_append a b).symm
theorem GTenantState.row_one (b : GTenantState) : [GTenantState.cells b] = GTenantState.row [b] := rfl
@[simp] theorem GTenantState.row_get (l : List GTenantState) (n : Nat) : (GTenantState.row l)[n]? = (l[n]?).map fun b => GTenantState.cells b := by simp [GTenantState.row]
@[simp] theorem GTenantState.row_getElem (l : List GTenantState) (n : Nat) (h : n < (GTenantState.row l).length) : (GTenantState.row l)[n] = (fun b : GTenantState => GTenantState.cells b) (l[n]'(by simpa using h)) := by simp [GTenantState.row]
@[simp] theorem GTenantState.row_isEmpty (l : List GTenantState) : (GTenantState.row l).isEmpty = l.isEmpty := by cases l <;> rfl
@[simp] theorem GTenantState.row_take (l : List GTenantState) (n : Nat) : (GTenantState.row l).take n = GTenantState.row (l.take n) := by simp [GTenantState.row, List.map_take]
@[simp] theorem GTenantState.row_drop (l : List GTenantState) (n : Nat) : (GTenantState.row l).drop n = GTenantState.row (l.drop n) := by simp [GTenantState.row, List.map_drop]
theorem GTenantState.row_set (l : List GTenantState) (n : Nat) (b : GTenantState) : (GTenantState.row l).set n (GTenantState.cells b) = GTenantState.row (l.set n b) := by simp [GTenantState.row, List.map_set]
@[simp] theorem GTenantState.row_closed : ∀ l : List GTenantState, closedRows (GTenantState.row l) = true
  | [] => rfl
  | b :: l => by
    have := GTenantState.row_closed l
    simp only [GTenantState.row, List.map_cons] at this ⊢
    simp [closedRows, this, V.closed, V.closed.closedAll, GTenantState.cells]
@[simp] theorem GTenantState.row_fz (g : Nat → Option AObj) (F : List Nat) (l : List GTenantState) : (GTenantState.row l).map (·.map (fzV g F)) = GTenantState.row l := by simp [GTenantState.row, GTenantState.cells]
@[simp] theorem GTenantState.row_scalar : ∀ l : List GTenantState, scalarRows (GTenantState.row l) = true
  | [] => rfl
  | b :: l => by
    have := GTenantState.row_scalar l
    simp only [GTenantState.row, List.map_cons] at this ⊢
    simp [scalarRows, this, GTenantState.cells]
theorem GTenantState.row_inj : ∀ {a b : List GTenantState}, GTenantState.row a = GTenantState.row b → a = b
  | [], [], _ => rfl
  | [], _ :: _, h => by cases h
  | _ :: _, [], h => by cases h
  | x :: a, y :: b, h => by
    simp only [GTenantState.row, List.map_cons, List.cons.injEq] at h
    obtain ⟨h1, h2⟩ := h
    rw [GTenantState.row_inj h2, show x = y from GTenantState.cells_inj h1]
@[simp] theorem GTenantState.row_eq {a b : List GTenantState} : GTenantState.row a = GTenantState.row b ↔ a = b := ⟨GTenantState.row_inj, fun h => by rw [h]⟩

def vTenantState (x : GTenantState) : V := .agg x.cells
theorem vTenantState_folded (x : GTenantState) : Folded (vTenantState x) := ⟨x.cells, rfl, by simp [GTenantState.cells, V.closed, V.closed.closedAll]⟩
@[simp] theorem vTenantState_eq {x y : GTenantState} : vTenantState x = vTenantState y ↔ x = y := ⟨fun h => by simp only [vTenantState, V.agg.injEq] at h; exact GTenantState.cells_inj h, fun h => by rw [h]⟩
@[simp] theorem vTenantState_closed (x : GTenantState) : (vTenantState x).closed = true := (vTenantState_folded x).closed
@[simp] theorem vTenantState_ren (x : GTenantState) (f : Nat → Nat) : (vTenantState x).ren f = vTenantState x := (vTenantState_folded x).ren f
@[simp] theorem vTenantState_within (x : GTenantState) (D : Nat → Bool) : (vTenantState x).within D = true := (vTenantState_folded x).within D
@[simp] theorem vTenantState_argV (x : GTenantState) (g : Nat → Option AObj) (refs : List Nat) : argV g refs (vTenantState x) = some (vTenantState x, []) := (vTenantState_folded x).argV refs
@[simp] theorem vTenantState_names (x : GTenantState) : namesOf (vTenantState x) = [] := (vTenantState_folded x).names
@[simp] theorem vTenantState_deep (x : GTenantState) (g : Nat → Option AObj) : argNm g (vTenantState x) = [] := (vTenantState_folded x).deep
@[simp] theorem vTenantState_ptr (x : GTenantState) (r : List V) : ptrNames (vTenantState x :: r) = ptrNames r := (vTenantState_folded x).ptr r
@[simp] theorem vTenantState_junk (x : GTenantState) : (vTenantState x).isJunk = false := (vTenantState_folded x).junk
@[simp] theorem vTenantState_fz (x : GTenantState) (g : Nat → Option AObj) (F : List Nat) : fzV g F (vTenantState x) = vTenantState x := (vTenantState_folded x).fz F
@[simp] theorem vTenantState_tag (x : GTenantState) : tagV (vTenantState x) = vTenantState x := by simp [vTenantState, GTenantState.cells]
@[simp] theorem vTenantState_cells (x : GTenantState) : (vTenantState x).cells = x.cells := rfl

theorem vTenantState_fold (x : GTenantState) : V.agg [.bool x.Placed, .bool x.Shed, .int .i64 x.Home, .int .i64 x.Standby, .int .i64 x.Next, .int .i64 x.Target, .int .i64 x.Epoch, .int .i64 x.Window.Cell, .int .i64 x.Window.Epoch, .int .i64 x.Window.Version, .int .i64 x.Window.From, .int .i64 x.Window.Until] = vTenantState x := rfl

structure GCellState where -- 116
  Mode : Int
  Running : Int
  Wanted : Int
  Since : Int
  deriving DecidableEq
def GCellState.cells (x : GCellState) : List V := [.int .i64 x.Mode, .int .i64 x.Running, .int .i64 x.Wanted, .int .i64 x.Since]
def GCellState.ok (x : GCellState) : Prop := In64 x.Mode ∧ In64 x.Running ∧ In64 x.Wanted ∧ In64 x.Since
theorem GCellState.cells_inj {x y : GCellState} (h : x.cells = y.cells) : x = y := by
  obtain ⟨_, _, _, _⟩ := x
  obtain ⟨_, _, _, _⟩ := y
  simp [GCellState.cells] at h
  simp [h]
def GCellState.row (l : List GCellState) : List (List V) := l.map GCellState.cells
@[simp] theorem GCellState.row_length (l : List GCellState) : (GCellState.row l).length = l.length := by simp [GCellState.row]
@[simp] theorem GCellState.row_nil : GCellState.row [] = [] := rfl
theorem GCellState.row_append (a b : List GCellState) : GCellState.row (a ++ b) = GCellState.row a ++ GCellState.row b := by simp [GCellState.row]
@[simp] theorem GCellState.row_append' (a b : List GCellState) : GCellState.row a ++ GCellState.row b = GCellState.row (a ++ b) := (GCellState.row_append a b).symm
theorem GCellState.row_one (b : GCellState) : [GCellState.cells b] = GCellState.row [b] := rfl
@[simp] theorem GCellState.row_get (l : List GCellState) (n : Nat) : (GCellState.row l)[n]? = (l[n]?).map fun b => GCellState.cells b := by simp [GCellState.row]
@[simp] theorem GCellState.row_getElem (l : List GCellState) (n : Nat) (h : n < (GCellState.row l).length) : (GCellState.row l)[n] = (fun b : GCellState => GCellState.cells b) (l[n]'(by simpa using h)) := by simp [GCellState.row]
@[simp] theorem GCellState.row_isEmpty (l : List GCellState) : (GCellState.row l).isEmpty = l.isEmpty := by cases l <;> rfl
@[simp] theorem GCellState.row_take (l : List GCellState) (n : Nat) : (GCellState.row l).take n = GCellState.row (l.take n) := by simp [GCellState.row, List.map_take]
@[simp] theorem GCellState.row_drop (l : List GCellState) (n : Nat) : (GCellState.row l).drop n = GCellState.row (l.drop n) := by simp [GCellState.row, List.map_drop]
theorem GCellState.row_set (l : List GCellState) (n : Nat) (b : GCellState) : (GCellState.row l).set n (GCellState.cells b) = GCellState.row (l.set n b) := by simp [GCellState.row, List.map_set]
@[simp] theorem GCellState.row_closed : ∀ l : List GCellState, closedRows (GCellState.row l) = true
  | [] => rfl
  | b :: l => by
    have := GCellState.row_closed l
    simp only [GCellState.row, List.map_cons] at this ⊢
    simp [closedRows, this, V.closed, V.closed.closedAll, GCellState.cells]
@[simp] theorem GCellState.row_fz (g : Nat → Option AObj) (F : List Nat) (l : List GCellState) : (GCellState.row l).map (·.map (fzV g F)) = GCellState.row l := by simp [GCellState.row, GCellState.cells]
@[simp] theorem GCellState.row_scalar : ∀ l : List GCellState, scalarRows (GCellState.row l) = true
  | [] => rfl
  | b :: l => by
    have := GCellState.row_scalar l
    simp only [GCellState.row, List.map_cons] at this ⊢
    simp [scalarRows, this, GCellState.cells]
theorem GCellState.row_inj : ∀ {a b : List GCellState}, GCellState.row a = GCellState.row b → a = b
  | [], [], _ => rfl
  | [], _ :: _, h => by cases h
  | _ :: _, [], h => by cases h
  | x :: a, y :: b, h => by
    simp only [GCellState.row, List.map_cons, List.cons.injEq] at h
    obtain ⟨h1, h2⟩ := h
    rw [GCellState.row_inj h2, show x = y from GCellState.cells_inj h1]
@[simp] theorem GCellState.row_eq {a b : List GCellState} : GCellState.row a = GCellState.row b ↔ a = b := ⟨GCellState.row_inj, fun h => by rw [h]⟩

def vCellState (x : GCellState) : V := .agg x.cells
theorem vCellState_folded (x : GCellState) : Folded (vCellState x) := ⟨x.cells, rfl, by simp [GCellState.cells, V.closed, V.closed.closedAll]⟩
@[simp] theorem vCellState_eq {x y : GCellState} : vCellState x = vCellState y ↔ x = y := ⟨fun h => by simp only [vCellState, V.agg.injEq] at h; exact GCellState.cells_inj h, fun h => by rw [h]⟩
@[simp] theorem vCellState_closed (x : GCellState) : (vCellState x).closed = true := (vCellState_folded x).closed
@[simp] theorem vCellState_ren (x : GCellState) (f : Nat → Nat) : (vCellState x).ren f = vCellState x := (vCellState_folded x).ren f
@[simp] theorem vCellState_within (x : GCellState) (D : Nat → Bool) : (vCellState x).within D = true := (vCellState_folded x).within D
@[simp] theorem vCellState_argV (x : GCellState) (g : Nat → Option AObj) (refs : List Nat) : argV g refs (vCellState x) = some (vCellState x, []) := (vCellState_folded x).argV refs
@[simp] theorem vCellState_names (x : GCellState) : namesOf (vCellState x) = [] := (vCellState_folded x).names
@[simp] theorem vCellState_deep (x : GCellState) (g : Nat → Option AObj) : argNm g (vCellState x) = [] := (vCellState_folded x).deep
@[simp] theorem vCellState_ptr (x : GCellState) (r : List V) : ptrNames (vCellState x :: r) = ptrNames r := (vCellState_folded x).ptr r
@[simp] theorem vCellState_junk (x : GCellState) : (vCellState x).isJunk = false := (vCellState_folded x).junk
@[simp] theorem vCellState_fz (x : GCellState) (g : Nat → Option AObj) (F : List Nat) : fzV g F (vCellState x) = vCellState x := (vCellState_folded x).fz F
@[simp] theorem vCellState_tag (x : GCellState) : tagV (vCellState x) = vCellState x := by simp [vCellState, GCellState.cells]
@[simp] theorem vCellState_cells (x : GCellState) : (vCellState x).cells = x.cells := rfl

theorem vCellState_fold (x : GCellState) : V.agg [.int .i64 x.Mode, .int .i64 x.Running, .int .i64 x.Wanted, .int .i64 x.Since] = vCellState x := rfl

structure GState where -- 59
  Tick : Int
  Count : Int
  Tenants : List GTenantState
  Cells : List GCellState
  Proven : Int
  Evacuating : Int
  Low : Int
  High : Int
  deriving DecidableEq
def GState.cells (x : GState) : List V := [.int .i64 x.Tick, .int .i64 x.Count, .sl 2 12 (GTenantState.row x.Tenants), .sl 2 4 (GCellState.row x.Cells), .int .i64 x.Proven, .int .i64 x.Evacuating, .int .i64 x.Low, .int .i64 x.High]
def GState.ok (x : GState) : Prop := In64 x.Tick ∧ In64 x.Count ∧ (∀ y ∈ x.Tenants, GTenantState.ok y) ∧ (∀ y ∈ x.Cells, GCellState.ok y) ∧ In64 x.Proven ∧ In64 x.Evacuating ∧ In64 x.Low ∧ In64 x.High
theorem GState.cells_inj {x y : GState} (h : x.cells = y.cells) : x = y := by
  obtain ⟨_, _, _, _, _, _, _, _⟩ := x
  obtain ⟨_, _, _, _, _, _, _, _⟩ := y
  simp [GState.cells] at h
  simp [h]
def GState.row (l : List GState) : List (List V) := l.map GState.cells
@[simp] theorem GState.row_length (l : List GState) : (GState.row l).length = l.length := by simp [GState.row]
@[simp] theorem GState.row_nil : GState.row [] = [] := rfl
theorem GState.row_append (a b : List GState) : GState.row (a ++ b) = GState.row a ++ GState.row b := by simp [GState.row]
@[simp] theorem GState.row_append' (a b : List GState) : GState.row a ++ GState.row b = GState.row (a ++ b) := (GState.row_append a b).symm
theorem GState.row_one (b : GState) : [GState.cells b] = GState.row [b] := rfl
@[simp] theorem GState.row_get (l : List GState) (n : Nat) : (GState.row l)[n]? = (l[n]?).map fun b => GState.cells b := by simp [GState.row]
@[simp] theorem GState.row_getElem (l : List GState) (n : Nat) (h : n < (GState.row l).length) : (GState.row l)[n] = (fun b : GState => GState.cells b) (l[n]'(by simpa using h)) := by simp [GState.row]
@[simp] theorem GState.row_isEmpty (l : List GState) : (GState.row l).isEmpty = l.isEmpty := by cases l <;> rfl
@[simp] theorem GState.row_take (l : List GState) (n : Nat) : (GState.row l).take n = GState.row (l.take n) := by simp [GState.row, List.map_take]
@[simp] theorem GState.row_drop (l : List GState) (n : Nat) : (GState.row l).drop n = GState.row (l.drop n) := by simp [GState.row, List.map_drop]
theorem GState.row_set (l : List GState) (n : Nat) (b : GState) : (GState.row l).set n (GState.cells b) = GState.row (l.set n b) := by simp [GState.row, List.map_set]
@[simp] theorem GState.row_closed : ∀ l : List GState, closedRows (GState.row l) = true
  | [] => rfl
  | b :: l => by
    have := GState.row_closed l
    simp only [GState.row, List.map_cons] at this ⊢
    simp [closedRows, this, V.closed, V.closed.closedAll, GState.cells]
@[simp] theorem GState.row_fz (g : Nat → Option AObj) (F : List Nat) (l : List GState) : (GState.row l).map (·.map (fzV g F)) = GState.row l := by simp [GState.row, GState.cells]
theorem GState.row_inj : ∀ {a b : List GState}, GState.row a = GState.row b → a = b
  | [], [], _ => rfl
  | [], _ :: _, h => by cases h
  | _ :: _, [], h => by cases h
  | x :: a, y :: b, h => by
    simp only [GState.row, List.map_cons, List.cons.injEq] at h
    obtain ⟨h1, h2⟩ := h
    rw [GState.row_inj h2, show x = y from GState.cells_inj h1]
@[simp] theorem GState.row_eq {a b : List GState} : GState.row a = GState.row b ↔ a = b := ⟨GState.row_inj, fun h => by rw [h]⟩

def vState (x : GState) : V := .agg x.cells
theorem vState_folded (x : GState) : Folded (vState x) := ⟨x.cells, rfl, by simp [GState.cells, V.closed, V.closed.closedAll]⟩
@[simp] theorem vState_eq {x y : GState} : vState x = vState y ↔ x = y := ⟨fun h => by simp only [vState, V.agg.injEq] at h; exact GState.cells_inj h, fun h => by rw [h]⟩
@[simp] theorem vState_closed (x : GState) : (vState x).closed = true := (vState_folded x).closed
@[simp] theorem vState_ren (x : GState) (f : Nat → Nat) : (vState x).ren f = vState x := (vState_folded x).ren f
@[simp] theorem vState_within (x : GState) (D : Nat → Bool) : (vState x).within D = true := (vState_folded x).within D
@[simp] theorem vState_argV (x : GState) (g : Nat → Option AObj) (refs : List Nat) : argV g refs (vState x) = some (vState x, []) := (vState_folded x).argV refs
@[simp] theorem vState_names (x : GState) : namesOf (vState x) = [] := (vState_folded x).names
@[simp] theorem vState_deep (x : GState) (g : Nat → Option AObj) : argNm g (vState x) = [] := (vState_folded x).deep
@[simp] theorem vState_ptr (x : GState) (r : List V) : ptrNames (vState x :: r) = ptrNames r := (vState_folded x).ptr r
@[simp] theorem vState_junk (x : GState) : (vState x).isJunk = false := (vState_folded x).junk
@[simp] theorem vState_fz (x : GState) (g : Nat → Option AObj) (F : List Nat) : fzV g F (vState x) = vState x := (vState_folded x).fz F
@[simp] theorem vState_tag (x : GState) : tagV (vState x) = vState x := by simp [vState, GState.cells]
@[simp] theorem vState_cells (x : GState) : (vState x).cells = x.cells := rfl

theorem vState_fold (x : GState) : V.agg [.int .i64 x.Tick, .int .i64 x.Count, .sl 2 12 (GTenantState.row x.Tenants), .sl 2 4 (GCellState.row x.Cells), .int .i64 x.Proven, .int .i64 x.Evacuating, .int .i64 x.Low, .int .i64 x.High] = vState x := rfl

end Go.Lift

