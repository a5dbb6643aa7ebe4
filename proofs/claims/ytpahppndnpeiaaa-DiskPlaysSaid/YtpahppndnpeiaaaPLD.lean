/-
  Texts: A1, A2.
-/
import Derived.Test.YtpahppndnpeiaaaPLC
set_option linter.unusedSimpArgs false
set_option linter.unusedVariables false
/-
  The given types of the program, as data.
-/
namespace Go.Lift

def In64 (n : Int) : Prop := -9223372036854775808 ≤ n ∧ n ≤ 9223372036854775807
def InU64 (n : Int) : Prop := 0 ≤ n ∧ n ≤ 18446744073709551615

def strRow (l : List ByteArray) : List (List V) := l.map fun b => [.str b]
@[simp] theorem strRow_length (l : List ByteArray) : (strRow l).length = l.length := by simp [strRow]
@[simp] theorem strRow_nil : strRow [] = [] := rfl
theorem strRow_append (a b : List ByteArray) : strRow (a ++ b) = strRow a ++ strRow b := by simp [strRow]
@[simp] theorem strRow_append' (a b : List ByteArray) : strRow a ++ strRow b = strRow (a ++ b) := (strRow_append a b).symm
theorem strRow_one (b : ByteArray) : [[V.str b]] = strRow [b] := rfl
@[simp] theorem strRow_get (l : List ByteArray) (n : Nat) : (strRow l)[n]? = (l[n]?).map fun b => [V.str b] := by simp [strRow]
@[simp] theorem strRow_getElem (l : List ByteArray) (n : Nat) (h : n < (strRow l).length) : (strRow l)[n] = (fun b : ByteArray => [V.str b]) (l[n]'(by simpa using h)) := by simp [strRow]
@[simp] theorem strRow_isEmpty (l : List ByteArray) : (strRow l).isEmpty = l.isEmpty := by cases l <;> rfl
@[simp] theorem strRow_take (l : List ByteArray) (n : Nat) : (strRow l).take n = strRow (l.take n) := by simp [strRow, List.map_take]
@[simp] theorem strRow_drop (l : List ByteArray) (n : Nat) : (strRow l).drop n = strRow (l.drop n) := by simp [strRow, List.map_drop]
theorem strRow_set (l : List ByteArray) (n : Nat) (b : ByteArray) : (strRow l).set n ([V.str b]) = strRow (l.set n b) := by simp [strRow, List.map_set]
@[simp] theorem strRow_closed : ∀ l : List ByteArray, closedRows (strRow l) = true
  | [] => rfl
  | b :: l => by
    have := strRow_closed l
    simp only [strRow, List.map_cons] at this ⊢
    simp [closedRows, this, V.closed, V.closed.closedAll]
@[simp] theorem strRow_fz (g : Nat → Option AObj) (F : List Nat) (l : List ByteArray) : (strRow l).map (·.map (fzV g F)) = strRow l := by simp [strRow]
@[simp] theorem strRow_scalar : ∀ l : List ByteArray, scalarRows (strRow l) = true
  | [] => rfl
  | b :: l => by
    have := strRow_scalar l
    simp only [strRow, List.map_cons] at this ⊢
    simp [scalarRows, this]
theorem strRow_inj : ∀ {a b : List ByteArray}, strRow a = strRow b → a = b
  | [], [], _ => rfl
  | [], _ :: _, h => by cases h
  | _ :: _, [], h => by cases h
  | x :: a, y :: b, h => by
    simp only [strRow, List.map_cons, List.cons.injEq] at h
    obtain ⟨h1, h2⟩ := h
    rw [strRow_inj h2, show x = y by simpa using h1]
@[simp] theorem strRow_eq {a b : List ByteArray} : strRow a = strRow b ↔ a = b := ⟨strRow_inj, fun h => by rw [h]⟩

def u64Row (l : List Int) : List (List V) := l.map fun b => [.int .u64 b]
@[simp] theorem u64Row_length (l : List Int) : (u64Row l).length = l.length := by simp [u64Row]
@[simp] theorem u64Row_nil : u64Row [] = [] := rfl
theorem u64Row_append (a b : List Int) : u64Row (a ++ b) = u64Row a ++ u64Row b := by simp [u64Row]
@[simp] theorem u64Row_append' (a b : List Int) : u64Row a ++ u64Row b = u64Row (a ++ b) := (u64Row_append a b).symm
theorem u64Row_one (b : Int) : [[V.int .u64 b]] = u64Row [b] := rfl
@[simp] theorem u64Row_get (l : List Int) (n : Nat) : (u64Row l)[n]? = (l[n]?).map fun b => [V.int .u64 b] := by simp [u64Row]
@[simp] theorem u64Row_getElem (l : List Int) (n : Nat) (h : n < (u64Row l).length) : (u64Row l)[n] = (fun b : Int => [V.int .u64 b]) (l[n]'(by simpa using h)) := by simp [u64Row]
@[simp] theorem u64Row_isEmpty (l : List Int) : (u64Row l).isEmpty = l.isEmpty := by cases l <;> rfl
@[simp] theorem u64Row_take (l : List Int) (n : Nat) : (u64Row l).take n = u64Row (l.take n) := by simp [u64Row, List.map_take]
@[simp] theorem u64Row_drop (l : List Int) (n : Nat) : (u64Row l).drop n = u64Row (l.drop n) := by simp [u64Row, List.map_drop]
theorem u64Row_set (l : List Int) (n : Nat) (b : Int) : (u64Row l).set n ([V.int .u64 b]) = u64Row (l.set n b) := by simp [u64Row, List.map_set]
@[simp] theorem u64Row_closed : ∀ l : List Int, closedRows (u64Row l) = true
  | [] => rfl
  | b :: l => by
    have := u64Row_closed l
    simp only [u64Row, List.map_cons] at this ⊢
    simp [closedRows, this, V.closed, V.closed.closedAll]
@[simp] theorem u64Row_fz (g : Nat → Option AObj) (F : List Nat) (l : List Int) : (u64Row l).map (·.map (fzV g F)) = u64Row l := by simp [u64Row]
@[simp] theorem u64Row_scalar : ∀ l : List Int, scalarRows (u64Row l) = true
  | [] => rfl
  | b :: l => by
    have := u64Row_scalar l
    simp only [u64Row, List.map_cons] at this ⊢
    simp [scalarRows, this]
theorem u64Row_inj : ∀ {a b : List Int}, u64Row a = u64Row b → a = b
  | [], [], _ => rfl
  | [], _ :: _, h => by cases h
  | _ :: _, [], h => by cases h
  | x :: a, y :: b, h => by
    simp only [u64Row, List.map_cons, List.cons.injEq] at h
    obtain ⟨h1, h2⟩ := h
    rw [u64Row_inj h2, show x = y by simpa using h1]
@[simp] theorem u64Row_eq {a b : List Int} : u64Row a = u64Row b ↔ a = b := ⟨u64Row_inj, fun h => by rw [h]⟩

def boolRow (l : List Bool) : List (List V) := l.map fun b => [.bool b]
@[simp] theorem boolRow_length (l : List Bool) : (boolRow l).length = l.length := by simp [boolRow]
@[simp] theorem boolRow_nil : boolRow [] = [] := rfl
theorem boolRow_append (a b : List Bool) : boolRow (a ++ b) = boolRow a ++ boolRow b := by simp [boolRow]
@[simp] theorem boolRow_append' (a b : List Bool) : boolRow a ++ boolRow b = boolRow (a ++ b) := (boolRow_append a b).symm
theorem boolRow_one (b : Bool) : [[V.bool b]] = boolRow [b] := rfl
@[simp] theorem boolRow_get (l : List Bool) (n : Nat) : (boolRow l)[n]? = (l[n]?).map fun b => [V.bool b] := by simp [boolRow]
@[simp] theorem boolRow_getElem (l : List Bool) (n : Nat) (h : n < (boolRow l).length) : (boolRow l)[n] = (fun b : Bool => [V.bool b]) (l[n]'(by simpa using h)) := by simp [boolRow]
@[simp] theorem boolRow_isEmpty (l : List Bool) : (boolRow l).isEmpty = l.isEmpty := by cases l <;> rfl
@[simp] theorem boolRow_take (l : List Bool) (n : Nat) : (boolRow l).take n = boolRow (l.take n) := by simp [boolRow, List.map_take]
@[simp] theorem boolRow_drop (l : List Bool) (n : Nat) : (boolRow l).drop n = boolRow (l.drop n) := by simp [boolRow, List.map_drop]
theorem boolRow_set (l : List Bool) (n : Nat) (b : Bool) : (boolRow l).set n ([V.bool b]) = boolRow (l.set n b) := by simp [boolRow, List.map_set]
@[simp] theorem boolRow_closed : ∀ l : List Bool, closedRows (boolRow l) = true
  | [] => rfl
  | b :: l => by
    have := boolRow_closed l
    simp only [boolRow, List.map_cons] at this ⊢
    simp [closedRows, this, V.closed, V.closed.closedAll]
@[simp] theorem boolRow_fz (g : Nat → Option AObj) (F : List Nat) (l : List Bool) : (boolRow l).map (·.map (fzV g F)) = boolRow l := by simp [boolRow]
@[simp] theorem boolRow_scalar : ∀ l : List Bool, scalarRows (boolRow l) = true
  | [] => rfl
  | b :: l => by
    have := boolRow_scalar l
    simp only [boolRow, List.map_cons] at this ⊢
    simp [scalarRows, this]
theorem boolRow_inj : ∀ {a b : List Bool}, boolRow a = boolRow b → a = b
  | [], [], _ => rfl
  | [], _ :: _, h => by cases h
  | _ :: _, [], h => by cases h
  | x :: a, y :: b, h => by
    simp only [boolRow, List.map_cons, List.cons.injEq] at h
    obtain ⟨h1, h2⟩ := h
    rw [boolRow_inj h2, show x = y by simpa using h1]
@[simp] theorem boolRow_eq {a b : List Bool} : boolRow a = boolRow b ↔ a = b := ⟨boolRow_inj, fun h => by rw [h]⟩

def listIntRow (l : List (List Int)) : List (List V) := l.map fun b => [.sl 2 1 (intRow b)]
@[simp] theorem listIntRow_length (l : List (List Int)) : (listIntRow l).length = l.length := by simp [listIntRow]
@[simp] theorem listIntRow_nil : listIntRow [] = [] := rfl
theorem listIntRow_append (a b : List (List Int)) : listIntRow (a ++ b) = listIntRow a ++ listIntRow b := by simp [listIntRow]
@[simp] theorem listIntRow_append' (a b : List (List Int)) : listIntRow a ++ listIntRow b = listIntRow (a ++ b) := (listIntRow_append a b).symm
theorem listIntRow_one (b : (List Int)) : [[V.sl 2 1 (intRow b)]] = listIntRow [b] := rfl
@[simp] theorem listIntRow_get (l : List (List Int)) (n : Nat) : (listIntRow l)[n]? = (l[n]?).map fun b => [V.sl 2 1 (intRow b)] := by simp [listIntRow]
@[simp] theorem listIntRow_getElem (l : List (List Int)) (n : Nat) (h : n < (listIntRow l).length) : (listIntRow l)[n] = (fun b : (List Int) => [V.sl 2 1 (intRow b)]) (l[n]'(by simpa using h)) := by simp [listIntRow]
@[simp] theorem listIntRow_isEmpty (l : List (List Int)) : (listIntRow l).isEmpty = l.isEmpty := by cases l <;> rfl
@[simp] theorem listIntRow_take (l : List (List Int)) (n : Nat) : (listIntRow l).take n = listIntRow (l.take n) := by simp [listIntRow, List.map_take]
@[simp] theorem listIntRow_drop (l : List (List Int)) (n : Nat) : (listIntRow l).drop n = listIntRow (l.drop n) := by simp [listIntRow, List.map_drop]
theorem listIntRow_set (l : List (List Int)) (n : Nat) (b : (List Int)) : (listIntRow l).set n ([V.sl 2 1 (intRow b)]) = listIntRow (l.set n b) := by simp [listIntRow, List.map_set]
@[simp] theorem listIntRow_closed : ∀ l : List (List Int), closedRows (listIntRow l) = true
  | [] => rfl
  | b :: l => by
    have := listIntRow_closed l
    simp only [listIntRow, List.map_cons] at this ⊢
    simp [closedRows, this, V.closed, V.closed.closedAll]
@[simp] theorem listIntRow_fz (g : Nat → Option AObj) (F : List Nat) (l : List (List Int)) : (listIntRow l).map (·.map (fzV g F)) = listIntRow l := by simp [listIntRow]
theorem listIntRow_inj : ∀ {a b : List (List Int)}, listIntRow a = listIntRow b → a = b
  | [], [], _ => rfl
  | [], _ :: _, h => by cases h
  | _ :: _, [], h => by cases h
  | x :: a, y :: b, h => by
    simp only [listIntRow, List.map_cons, List.cons.injEq] at h
    obtain ⟨h1, h2⟩ := h
    rw [listIntRow_inj h2, show x = y by simpa using h1]
@[simp] theorem listIntRow_eq {a b : List (List Int)} : listIntRow a = listIntRow b ↔ a = b := ⟨listIntRow_inj, fun h => by rw [h]⟩

theorem intRow_set (l : List Int) (n : Nat) (b : Int) : (intRow l).set n [V.int .i64 b] = intRow (l.set n b) := by simp [intRow, List.map_set]
theorem intRow_one (b : Int) : [[V.int .i64 b]] = intRow [b] := rfl
@[simp] theorem intRow_closed : ∀ l : List Int, closedRows (intRow l) = true
  | [] => rfl
  | b :: l => by
    have := intRow_closed l
    simp only [intRow, List.map_cons] at this ⊢
    simp [closedRows, this, V.closed, V.closed.closedAll]
@[simp] theorem intRow_fz (g : Nat → Option AObj) (F : List Nat) (l : List Int) : (intRow l).map (·.map (fzV g F)) = intRow l := by simp [intRow]
@[simp] theorem byteRow_closed : ∀ l : List UInt8, closedRows (byteRow l) = true
  | [] => rfl
  | b :: l => by
    have := byteRow_closed l
    simp only [byteRow, List.map_cons] at this ⊢
    simp [closedRows, this, V.closed, V.closed.closedAll]
@[simp] theorem byteRow_fz (g : Nat → Option AObj) (F : List Nat) (l : List UInt8) : (byteRow l).map (·.map (fzV g F)) = byteRow l := by simp [byteRow]

end Go.Lift

/-
  The laws' own types, as data.
-/
namespace Go.Lift

structure GL07Act where -- 32
  Which : Int
  N : Int
  B : List UInt8
  deriving DecidableEq
def GL07Act.cells (x : GL07Act) : List V := [.int .i64 x.Which, .int .i64 x.N, .sl 2 1 (byteRow x.B)]
def GL07Act.ok (x : GL07Act) : Prop := In64 x.Which ∧ In64 x.N
theorem GL07Act.cells_inj {x y : GL07Act} (h : x.cells = y.cells) : x = y := by
  obtain ⟨_, _, _⟩ := x
  obtain ⟨_, _, _⟩ := y
  simp [GL07Act.cells] at h
  simp [h]
def GL07Act.row (l : List GL07Act) : List (List V) := l.map GL07Act.cells
@[simp] theorem GL07Act.row_length (l : List GL07Act) : (GL07Act.row l).length = l.length := by simp [GL07Act.row]
@[simp] theorem GL07Act.row_nil : GL07Act.row [] = [] := rfl
theorem GL07Act.row_append (a b : List GL07Act) : GL07Act.row (a ++ b) = GL07Act.row a ++ GL07Act.row b := by simp [GL07Act.row]
@[simp] theorem GL07Act.row_append' (a b : List GL07Act) : GL07Act.row a ++ GL07Act.row b = GL07Act.row (a ++ b) := (GL07Act.row_append a b).symm
theorem GL07Act.row_one (b : GL07Act) : [GL07Act.cells b] = GL07Act.row [b] := rfl
@[simp] theorem GL07Act.row_get (l : List GL07Act) (n : Nat) : (GL07Act.row l)[n]? = (l[n]?).map fun b => GL07Act.cells b := by simp [GL07Act.row]
@[simp] theorem GL07Act.row_getElem (l : List GL07Act) (n : Nat) (h : n < (GL07Act.row l).length) : (GL07Act.row l)[n] = (fun b : GL07Act => GL07Act.cells b) (l[n]'(by simpa using h)) := by simp [GL07Act.row]
@[simp] theorem GL07Act.row_isEmpty (l : List GL07Act) : (GL07Act.row l).isEmpty = l.isEmpty := by cases l <;> rfl
@[simp] theorem GL07Act.row_take (l : List GL07Act) (n : Nat) : (GL07Act.row l).take n = GL07Act.row (l.take n) := by simp [GL07Act.row, List.map_take]
@[simp] theorem GL07Act.row_drop (l : List GL07Act) (n : Nat) : (GL07Act.row l).drop n = GL07Act.row (l.drop n) := by simp [GL07Act.row, List.map_drop]
theorem GL07Act.row_set (l : List GL07Act) (n : Nat) (b : GL07Act) : (GL07Act.row l).set n (GL07Act.cells b) = GL07Act.row (l.set n b) := by simp [GL07Act.row, List.map_set]
@[simp] theorem GL07Act.row_closed : ∀ l : List GL07Act, closedRows (GL07Act.row l) = true
  | [] => rfl
  | b :: l => by
    have := GL07Act.row_closed l
    simp only [GL07Act.row, List.map_cons] at this ⊢
    simp [closedRows, this, V.closed, V.closed.closedAll, GL07Act.cells]
@[simp] theorem GL07Act.row_fz (g : Nat → Option AObj) (F : List Nat) (l : List GL07Act) : (GL07Act.row l).map (·.map (fzV g F)) = GL07Act.row l := by simp [GL07Act.row, GL07Act.cells]
theorem GL07Act.row_inj : ∀ {a b : List GL07Act}, GL07Act.row a = GL07Act.row b → a = b
  | [], [], _ => rfl
  | [], _ :: _, h => by cases h
  | _ :: _, [], h => by cases h
  | x :: a, y :: b, h => by
    simp only [GL07Act.row, List.map_cons, List.cons.injEq] at h
    obtain ⟨h1, h2⟩ := h
    rw [GL07Act.row_inj h2, show x = y from GL07Act.cells_inj h1]
@[simp] theorem GL07Act.row_eq {a b : List GL07Act} : GL07Act.row a = GL07Act.row b ↔ a = b := ⟨GL07Act.row_inj, fun h => by rw [h]⟩

def vL07Act (x : GL07Act) : V := .agg x.cells
theorem vL07Act_folded (x : GL07Act) : Folded (vL07Act x) := ⟨x.cells, rfl, by simp [GL07Act.cells, V.closed, V.closed.closedAll]⟩
@[simp] theorem vL07Act_eq {x y : GL07Act} : vL07Act x = vL07Act y ↔ x = y := ⟨fun h => by simp only [vL07Act, V.agg.injEq] at h; exact GL07Act.cells_inj h, fun h => by rw [h]⟩
@[simp] theorem vL07Act_closed (x : GL07Act) : (vL07Act x).closed = true := (vL07Act_folded x).closed
@[simp] theorem vL07Act_ren (x : GL07Act) (f : Nat → Nat) : (vL07Act x).ren f = vL07Act x := (vL07Act_folded x).ren f
@[simp] theorem vL07Act_within (x : GL07Act) (D : Nat → Bool) : (vL07Act x).within D = true := (vL07Act_folded x).within D
@[simp] theorem vL07Act_argV (x : GL07Act) (g : Nat → Option AObj) (refs : List Nat) : argV g refs (vL07Act x) = some (vL07Act x, []) := (vL07Act_folded x).argV refs
@[simp] theorem vL07Act_names (x : GL07Act) : namesOf (vL07Act x) = [] := (vL07Act_folded x).names
@[simp] theorem vL07Act_deep (x : GL07Act) (g : Nat → Option AObj) : argNm g (vL07Act x) = [] := (vL07Act_folded x).deep
@[simp] theorem vL07Act_ptr (x : GL07Act) (r : List V) : ptrNames (vL07Act x :: r) = ptrNames r := (vL07Act_folded x).ptr r
@[simp] theorem vL07Act_junk (x : GL07Act) : (vL07Act x).isJunk = false := (vL07Act_folded x).junk
@[simp] theorem vL07Act_fz (x : GL07Act) (g : Nat → Option AObj) (F : List Nat) : fzV g F (vL07Act x) = vL07Act x := (vL07Act_folded x).fz F
@[simp] theorem vL07Act_tag (x : GL07Act) : tagV (vL07Act x) = vL07Act x := by simp [vL07Act, GL07Act.cells]
@[simp] theorem vL07Act_cells (x : GL07Act) : (vL07Act x).cells = x.cells := rfl

theorem vL07Act_fold (x : GL07Act) : V.agg [.int .i64 x.Which, .int .i64 x.N, .sl 2 1 (byteRow x.B)] = vL07Act x := rfl

end Go.Lift

