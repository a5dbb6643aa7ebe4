/-
  What comes in: readers of arguments, type by type.
-/
import Derived.Test.YtgnfgcpolbcaoaaL23
import Derived.Carry
import Derived.ChangeSame
import Derived.WideShapes
import Derived.OpenShut
namespace Go.Lift
open Go.RowKit

variable {P : Program}

/-- Cells that read as data. -/
def ReadsAs (w : World) (us : List V) (cs : List Value) : Prop := us.length = cs.length ∧ ∀ (j : Nat) (u : V) (x : Value), us[j]? = some u → cs[j]? = some x → Rd w (fun b => b < w.heap.size) noG u x

theorem ReadsAs.one {w : World} {u : V} {x : Value} (h : Rd w (fun b => b < w.heap.size) noG u x) : ReadsAs w [u] [x] := by
  refine ⟨rfl, fun j u' x' h1 h2 => ?_⟩
  cases j with
  | zero => simp at h1 h2; subst h1; subst h2; exact h
  | succ j => simp at h1
theorem ReadsAs.append {w : World} {a b : List V} {x y : List Value} (h : ReadsAs w a x) (k : ReadsAs w b y) : ReadsAs w (a ++ b) (x ++ y) := by
  refine ⟨by simp [h.1, k.1], fun j u v h1 h2 => ?_⟩
  by_cases hj : j < a.length
  · rw [List.getElem?_append_left hj] at h1
    rw [List.getElem?_append_left (by rw [← h.1]; exact hj)] at h2
    exact h.2 j u v h1 h2
  · rw [List.getElem?_append_right (by omega)] at h1
    rw [List.getElem?_append_right (by rw [← h.1]; omega)] at h2
    rw [← h.1] at h2
    exact k.2 _ u v h1 h2

/-- A measure of what was read. -/
structure Meas {H : Type} (m : DataW H → Nat) : Prop where
  one : ∀ d, 1 ≤ m d
  str : ∀ b, b.length + 1 ≤ m (.lit (.string b))
  sl : ∀ es sp, (es.map m).sum + 1 ≤ m (.slice es sp)
  agg : ∀ ps, (ps.map m).sum + 1 ≤ m (.agg ps)

/-- How arguments of a type read. -/
structure Reader (P : Program) (t : TypeId) (α : Type) where
  enc : α → List V
  ok : α → Prop
  siz : α → Nat
  len : ∀ a, (enc a).length = P.cellsOf t
  cel : ∀ a u, u ∈ enc a → u.cellular = true
  pos : ∀ a, 1 ≤ siz a
  read : ∀ {H : Type} {eh : TypeId × Value → H} {w : World} {fuel : Nat} {cs : List Value} {d : DataW H} {ps : List MemPlace},
    DataW.trod eh P w 0 (fun _ => true) true fuel t cs = some (d, ps) → ∃ a, ReadsAs w (enc a) cs ∧ ok a ∧ ∀ m : DataW H → Nat, Meas m → siz a ≤ m d

def rdInt {t : TypeId} (k : IntKind) (h : P.underlying t = some (.int k)) (hc : P.cellsOf t = 1) : Reader P t Int where
  enc n := [.int k n]
  ok n := (Lit.int k n).wf = true
  siz _ := 1
  len _ := hc.symm
  cel _ u hu := by simp at hu; subst hu; rfl
  pos _ := Nat.le_refl _
  read hd := by
    obtain ⟨n, rfl, hx, hw⟩ := DataW.trod_int h hd
    cases hx
    exact ⟨n, .one (.int _ _ _), hw, fun m hm => hm.one _⟩

def rdByte {t : TypeId} (h : P.underlying t = some (.int .u8)) (hc : P.cellsOf t = 1) : Reader P t UInt8 where
  enc n := [.int .u8 n.toNat]
  ok _ := True
  siz _ := 1
  len _ := hc.symm
  cel _ u hu := by simp at hu; subst hu; rfl
  pos _ := Nat.le_refl _
  read hd := by
    obtain ⟨n, rfl, hx, hw⟩ := DataW.trod_int h hd
    cases hx
    simp [Lit.wf, IntKind.min, IntKind.max, IntKind.bits, IntKind.signed] at hw
    have e : ((UInt8.ofNat n.toNat).toNat : Int) = n := by rw [u8_nat]; omega
    refine ⟨UInt8.ofNat n.toNat, .one ?_, trivial, fun m hm => hm.one _⟩
    rw [e]; exact .int _ _ _

def rdBool {t : TypeId} (h : P.underlying t = some .bool) (hc : P.cellsOf t = 1) : Reader P t Bool where
  enc b := [.bool b]
  ok _ := True
  siz _ := 1
  len _ := hc.symm
  cel _ u hu := by simp at hu; subst hu; rfl
  pos _ := Nat.le_refl _
  read hd := by
    obtain ⟨n, rfl, hx⟩ := DataW.trod_bool h hd
    cases hx
    exact ⟨n, .one (.bool _ _), trivial, fun m hm => hm.one _⟩

def rdStr {t : TypeId} (h : P.underlying t = some .string) (hc : P.cellsOf t = 1) : Reader P t ByteArray where
  enc b := [.str b]
  ok b := b.size ≤ maxLen
  siz b := b.size + 1
  len _ := hc.symm
  cel _ u hu := by simp at hu; subst hu; rfl
  pos _ := by omega
  read hd := by
    obtain ⟨s, rfl, hx, hs⟩ := DataW.trod_string h hd
    cases hx
    exact ⟨s, .one (.str _ _), hs, fun m hm => by have := hm.str s.data.toList; simpa using this⟩

theorem each_of {α β : Type} {Good : Nat → α → β → Prop} : ∀ (ys : List β) (k : Nat), (∀ (i : Nat) (y : β), ys[i]? = some y → ∃ a, Good (k + i) a y) → ∃ l : List α, l.length = ys.length ∧ ∀ (i : Nat) (a : α) (y : β), l[i]? = some a → ys[i]? = some y → Good (k + i) a y
  | [], k, _ => ⟨[], rfl, fun i a y h => by simp at h⟩
  | y :: ys, k, h => by
    obtain ⟨a, ha⟩ := h 0 y rfl
    obtain ⟨l, h1, h2⟩ := each_of ys (k + 1) (fun i y hy => by
      obtain ⟨a, ha⟩ := h (i + 1) y (by simpa using hy)
      exact ⟨a, by rw [show k + 1 + i = k + (i + 1) by omega]; exact ha⟩)
    refine ⟨a :: l, by simp [h1], fun i b z hb hz => ?_⟩
    cases i with
    | zero => simp at hb hz; subst hb; subst hz; exact ha
    | succ i =>
      have := h2 i b z (by simpa using hb) (by simpa using hz)
      rw [show k + 1 + i = k + (i + 1) by omega] at this
      exact this

theorem sum_le {α β : Type} (f : α → Nat) (g : β → Nat) : ∀ (l : List α) (ys : List β), l.length = ys.length → (∀ (i : Nat) (a : α) (y : β), l[i]? = some a → ys[i]? = some y → f a ≤ g y) → (l.map f).sum ≤ (ys.map g).sum
  | [], [], _, _ => Nat.le_refl _
  | a :: l, y :: ys, hl, h => by
    have h1 := h 0 a y rfl rfl
    have h2 := sum_le f g l ys (by simpa using hl) (fun i a y ha hy => h (i + 1) a y (by simpa using ha) (by simpa using hy))
    simp only [List.map_cons, List.sum_cons]
    omega
  | [], y :: ys, hl, _ => by simp at hl
  | a :: l, [], hl, _ => by simp at hl

theorem length_le_sum {α : Type} (f : α → Nat) (h : ∀ a, 1 ≤ f a) : ∀ l : List α, l.length ≤ (l.map f).sum
  | [] => Nat.le_refl _
  | a :: l => by
    have := length_le_sum f h l
    have := h a
    simp only [List.map_cons, List.sum_cons, List.length_cons]
    omega

def rdSlice {t e : TypeId} {α : Type} (h : P.underlying t = some (.slice e)) (hc : P.cellsOf t = 1) (R : Reader P e α) : Reader P t (List α) where
  enc l := [.sl 2 (P.cellsOf e) (l.map R.enc)]
  ok l := ∀ a ∈ l, R.ok a
  siz l := (l.map R.siz).sum + 1
  len _ := hc.symm
  cel _ u hu := by simp at hu; subst hu; rfl
  pos _ := by omega
  read {H eh w fuel cs d ps} hd := by
    rcases DataW.trod_slice h hd with ⟨rfl, hx⟩ | ⟨a, len, cap, elems, rest, n, _, rfl, hx, _, hl, hm, hlen, hel, _, _⟩
    · cases hx
      exact ⟨[], .one (.nil _ 2 _ (by decide)), (fun a h => by cases h), fun m hm => hm.one _⟩
    · cases hx
      have key : ∀ (i : Nat) (y : DataW H × List MemPlace), elems[i]? = some y → ∃ b, (∃ cs, w.cells? 0 (a.add ((0 + i) * P.cellsOf e)) (P.cellsOf e) = some cs ∧ ReadsAs w (R.enc b) cs) ∧ R.ok b ∧ ∀ m : DataW H → Nat, Meas m → R.siz b ≤ m y.1 := by
        intro i y hy
        have hi : i < len := by rw [← hlen]; exact (List.getElem?_eq_some_iff.1 hy).1
        have he := hel i hi
        rw [hy] at he
        cases hcs : w.cells? 0 (a.add (i * P.cellsOf e)) (P.cellsOf e) with
        | none => rw [hcs] at he; cases he
        | some cs =>
          rw [hcs] at he
          obtain ⟨y1, y2⟩ := y
          obtain ⟨b, b1, b2, b3⟩ := R.read he
          exact ⟨b, ⟨cs, by rw [Nat.zero_add]; exact hcs, b1⟩, b2, b3⟩
      obtain ⟨l, l1, l2⟩ := each_of elems 0 (Good := fun i b y => (∃ cs, w.cells? 0 (a.add (i * P.cellsOf e)) (P.cellsOf e) = some cs ∧ ReadsAs w (R.enc b) cs) ∧ R.ok b ∧ ∀ m : DataW H → Nat, Meas m → R.siz b ≤ m y.1) key
      have at_ : ∀ (i : Nat) (b : α), l[i]? = some b → ∃ y, elems[i]? = some y ∧ (∃ cs, w.cells? 0 (a.add (i * P.cellsOf e)) (P.cellsOf e) = some cs ∧ ReadsAs w (R.enc b) cs) ∧ R.ok b := by
        intro i b hb
        have hi : i < elems.length := by rw [← l1]; exact (List.getElem?_eq_some_iff.1 hb).1
        have hy := List.getElem?_eq_getElem hi
        have := l2 i b _ hb hy
        rw [Nat.zero_add] at this
        exact ⟨_, hy, this.1, this.2.1⟩
      refine ⟨l, .one ?_, fun b hb => ?_, fun m hm => ?_⟩
      · have hcell : ∀ (i j : Nat) (u : V), cellAt (l.map R.enc) i j = some u → ∃ x, w.cell? (a.add (i * P.cellsOf e + j)) = some x ∧ Rd w (fun b => b < w.heap.size) noG u x := by
          intro i j u hu
          obtain ⟨r, r1, r2⟩ := cellAt_some hu
          rw [List.getElem?_map] at r1
          cases hb : l[i]? with
          | none => rw [hb] at r1; cases r1
          | some b =>
            rw [hb] at r1; cases r1
            obtain ⟨y, _, ⟨cs, c1, c2⟩, _⟩ := at_ i b hb
            obtain ⟨_, e1, e2⟩ := World.cells?_some c1
            have hj : j < P.cellsOf e := by rw [← R.len b]; exact (List.getElem?_eq_some_iff.1 r2).1
            have hjc : j < cs.length := by rw [← c2.1, R.len]; exact hj
            have e3 := e2 j hj
            rw [List.getElem?_eq_getElem hjc, Addr.add_add] at e3
            exact ⟨_, e3, c2.2 j u _ r2 (List.getElem?_eq_getElem hjc)⟩
        refine .sl _ 2 _ _ a len cap (fun i j => (w.cell? (a.add (i * P.cellsOf e + j))).getD undef) (by decide) (fun h => by rcases h with h | h <;> cases h) (by simp [l1, hlen]) hl hm (fun r hr => ?_) (fun i j u hu => ?_) (fun i j u hu => ?_) (fun i j u hu => ?_)
        · obtain ⟨b, _, rfl⟩ := List.mem_map.1 hr; exact R.len b
        · obtain ⟨r, r1, r2⟩ := cellAt_some hu
          have := List.mem_of_getElem? r1
          obtain ⟨b, _, rfl⟩ := List.mem_map.1 this
          exact R.cel b u (List.mem_of_getElem? r2)
        · obtain ⟨x, x1, x2⟩ := hcell i j u hu
          have hb := World.block_lt_of_cell? w _ x1
          rw [add_block] at hb
          exact ⟨hb, by rw [x1]; rfl⟩
        · obtain ⟨x, x1, x2⟩ := hcell i j u hu
          simp only [x1]; exact x2
      · obtain ⟨i, hi⟩ := List.getElem?_of_mem hb
        obtain ⟨_, _, _, h2⟩ := at_ i b hi
        exact h2
      · have h1 := hm.sl (elems.map (·.1)) (rest.map (·.1))
        have h2 := sum_le R.siz (fun y : DataW H × List MemPlace => m y.1) l elems l1 (fun i b y hb hy => (l2 i b y hb hy).2.2 m hm)
        rw [List.map_map] at h1
        exact Nat.le_trans (Nat.add_le_add_right h2 1) h1

/-- How the fields of a struct read, from a place on. -/
structure FReader (P : Program) (fs : List Field) (off : Nat) (β : Type) where
  enc : β → List V
  ok : β → Prop
  siz : β → Nat
  cells : Nat
  len : ∀ b, (enc b).length = cells
  cel : ∀ b u, u ∈ enc b → u.cellular = true
  read : ∀ {H : Type} {eh : TypeId × Value → H} {w : World} {fuel : Nat} {cs : List Value} {xs : List (DataW H × List MemPlace)}, xs.length = fs.length →
    (∀ (i : Nat) (f : Field), fs[i]? = some f → DataW.trod eh P w 0 (fun _ => true) true fuel f.type ((cs.drop f.offset).take (P.cellsOf f.type)) = xs[i]?) → cs.length = off + cells →
    ∃ b, ReadsAs w (enc b) (cs.drop off) ∧ ok b ∧ ∀ m : DataW H → Nat, Meas m → siz b ≤ (xs.map fun x => m x.1).sum

def frNil {off : Nat} : FReader P [] off Unit where
  enc _ := []
  ok _ := True
  siz _ := 0
  cells := 0
  len _ := rfl
  cel _ u hu := by cases hu
  read {H eh w fuel cs xs} hl hf hc := by
    refine ⟨(), ⟨by simp; omega, fun j u x h1 h2 => by simp at h1⟩, trivial, fun m hm => Nat.zero_le _⟩

def frCons {f : Field} {fs : List Field} {off off' : Nat} {α β : Type} (R : Reader P f.type α) (Q : FReader P fs off' β) (ho : f.offset = off) (ho' : off' = off + P.cellsOf f.type) : FReader P (f :: fs) off (α × β) where
  enc b := R.enc b.1 ++ Q.enc b.2
  ok b := R.ok b.1 ∧ Q.ok b.2
  siz b := R.siz b.1 + Q.siz b.2
  cells := P.cellsOf f.type + Q.cells
  len b := by simp [R.len, Q.len]
  cel b u hu := by rcases List.mem_append.1 hu with h | h; exact R.cel _ u h; exact Q.cel _ u h
  read {H eh w fuel cs xs} hl hf hc := by
    cases xs with
    | nil => simp at hl
    | cons x xs =>
      have h0 := hf 0 f rfl
      simp only [List.getElem?_cons_zero] at h0
      rw [ho] at h0
      obtain ⟨d, ps⟩ := x
      obtain ⟨a, a1, a2, a3⟩ := R.read h0
      obtain ⟨b, b1, b2, b3⟩ := Q.read (xs := xs) (cs := cs) (eh := eh) (w := w) (fuel := fuel) (by simpa using hl) (fun i g hg => by have := hf (i + 1) g (by simpa using hg); simpa using this) (by omega)
      refine ⟨(a, b), ?_, ⟨a2, b2⟩, fun m hm => ?_⟩
      · have := a1.append b1
        have e : (cs.drop off).take (P.cellsOf f.type) ++ cs.drop off' = cs.drop off := by
          rw [ho', ← List.drop_drop]; exact List.take_append_drop _ _
        rw [e] at this; exact this
      · have := a3 m hm
        have := b3 m hm
        simp only [List.map_cons, List.sum_cons]
        omega

/-- A struct, as a structure of one's own. -/
def rdStruct {t : TypeId} {fs : Array Field} {β α : Type} (h : P.underlying t = some (.struct fs)) (Q : FReader P fs.toList 0 β) (hc : P.cellsOf t = Q.cells) (mk : β → α) (e : α → List V) (he : ∀ b, e (mk b) = Q.enc b) (hsur : ∀ a, ∃ b, mk b = a) (okA : α → Prop) (hok : ∀ b, Q.ok b → okA (mk b)) (sz : α → Nat) (hsz : ∀ b, sz (mk b) ≤ Q.siz b) : Reader P t α where
  enc := e
  ok := okA
  siz a := sz a + 1
  len a := by obtain ⟨b, rfl⟩ := hsur a; rw [he, Q.len, hc]
  cel a u hu := by obtain ⟨b, rfl⟩ := hsur a; rw [he] at hu; exact Q.cel b u hu
  pos _ := by omega
  read {H eh w fuel cs d ps} hd := by
    obtain ⟨xs, n, _, hx, hl, hlen, hf⟩ := DataW.trod_struct h hd
    cases hx
    obtain ⟨b, b1, b2, b3⟩ := Q.read (xs := xs) (cs := cs) (eh := eh) (w := w) (fuel := n) (by simpa using hlen) (fun i f hf' => hf i f (by simpa using hf')) (by omega)
    refine ⟨mk b, by rw [he]; simpa using b1, hok b b2, fun m hm => ?_⟩
    have h1 := b3 m hm
    have h2 := hm.agg (xs.map (·.1))
    rw [List.map_map] at h2
    have h3 := hsz b
    have : (xs.map fun x => m x.1).sum + 1 ≤ m (.agg (xs.map (·.1))) := h2
    omega

/-! ### An argument -/
/-- What an argument of one cell, or of a struct, reads as. -/
theorem Reader.cell {t : TypeId} {α : Type} (R : Reader P t α) {e : α → V} (he : ∀ a, R.enc a = [e a]) (hv : ∀ {w r b0 v}, Value.okWide P w r b0 t v → v.cells = #[v]) {H : Type} {eh : TypeId × Value → H} {w W0 : World} {r : Reach} {b0 : Nat} {v : Value} {d : DataW H} {ps : List MemPlace}
    (hval : Value.okWide P W0 r b0 t v) (hd : DataW.Trod eh P w 0 (fun _ => true) true t v d ps) : ∃ a, Rd w (fun b => b < w.heap.size) noG (e a) v ∧ R.ok a ∧ ∀ m : DataW H → Nat, Meas m → R.siz a ≤ m d := by
  obtain ⟨fuel, hf⟩ := hd
  rw [hv hval] at hf
  obtain ⟨a, ⟨_, a1⟩, a2, a3⟩ := R.read hf
  refine ⟨a, ?_, a2, a3⟩
  rw [he] at a1
  exact a1 0 _ _ rfl rfl

theorem Reader.agg {t : TypeId} {α : Type} {fs : Array Field} (R : Reader P t α) (h : P.underlying t = some (.struct fs)) {H : Type} {eh : TypeId × Value → H} {w W0 : World} {r : Reach} {b0 : Nat} {v : Value} {d : DataW H} {ps : List MemPlace}
    (hval : Value.okWide P W0 r b0 t v) (hd : DataW.Trod eh P w 0 (fun _ => true) true t v d ps) : ∃ a, Rd w (fun b => b < w.heap.size) noG (.agg (R.enc a)) v ∧ R.ok a ∧ ∀ m : DataW H → Nat, Meas m → R.siz a ≤ m d := by
  obtain ⟨cs, rfl, _⟩ := WideShapes.okWide_struct h hval
  obtain ⟨fuel, hf⟩ := hd
  obtain ⟨a, ⟨a0, a1⟩, a2, a3⟩ := R.read hf
  refine ⟨a, .agg _ _ _ (by simpa [Value.cells] using a0) (fun j u x hu hx => a1 j u x hu (by simpa [Value.cells] using hx)), a2, a3⟩

theorem cells_int {t : TypeId} {k : IntKind} (h : P.underlying t = some (.int k)) {w r b0 v} (hv : Value.okWide P w r b0 t v) : v.cells = #[v] := by
  obtain ⟨n, rfl⟩ := WideShapes.okWide_int h hv; rfl
theorem cells_bool {t : TypeId} (h : P.underlying t = some .bool) {w r b0 v} (hv : Value.okWide P w r b0 t v) : v.cells = #[v] := by
  obtain ⟨n, rfl⟩ := WideShapes.okWide_bool h hv; rfl
theorem cells_str {t : TypeId} (h : P.underlying t = some .string) {w r b0 v} (hv : Value.okWide P w r b0 t v) : v.cells = #[v] := by
  obtain ⟨n, rfl⟩ := WideShapes.okWide_string h hv; rfl
theorem cells_slice {t e : TypeId} (h : P.underlying t = some (.slice e)) {w r b0 v} (hv : Value.okWide P w r b0 t v) : v.cells = #[v] := by
  obtain ⟨a, l, c, rfl⟩ := WideShapes.okWide_slice h hv; rfl

/-! ### What a law's row asks behind the call -/
theorem trodAll_below {H : Type} {eh : TypeId × Value → H} (hl : laidOutB P = true) {W W' : World} (hb : Below W.heap.size W W') : ∀ {ts : List TypeId} {vs : List Value} {ds : List (DataW H)} {ps : List MemPlace}, (∀ t ∈ ts, P.readableRec t = true ∧ t < P.types.size) →
    DataW.TrodAll eh P W 0 (fun _ => true) true ts vs ds ps → (∀ x ∈ ps, x.block < W.heap.size) → DataW.TrodAll eh P W' 0 (fun b => decide (b < W.heap.size)) true ts vs ds ps
  | [], [], [], ps, _, h, _ => h
  | t :: ts, v :: vs, d :: ds, ps, ht, h, hlt => by
    obtain ⟨p, q, h1, h2, rfl⟩ := h
    exact ⟨p, q, Below.trod hl (ht t (List.mem_cons_self ..)).1 (ht t (List.mem_cons_self ..)).2 h1 hb (fun x hx => hlt x (List.mem_append_left _ hx)),
      trodAll_below hl hb (fun t h => ht t (List.mem_cons_of_mem _ h)) h2 (fun x hx => hlt x (List.mem_append_right _ hx)), rfl⟩
  | [], _ :: _, _, _, _, h, _ => h.elim
  | [], [], _ :: _, _, _, h, _ => h.elim
  | _ :: _, [], _, _, _, h, _ => h.elim
  | _ :: _, _ :: _, [], _, _, h, _ => h.elim

theorem law_post {H : Type} {eh : TypeId × Value → H} {f : Func} {s : ChangeSpec} {W W' : World} {args : Array Value} {ds gs : List (DataW H)} {before : List MemPlace} {t : TypeId} (hl : laidOutB P = true)
    (hW : DataW.Whole eh P f.params.toList s.vars false W args.toList ds gs before) (hvars : s.vars = []) (hfn : (s.fn H (ds ++ gs)).results = [.lit (.bool true)] ∧ (s.fn H (ds ++ gs)).args = ds ∧ (s.fn H (ds ++ gs)).vars = [])
    (hrt : f.resultTypes = #[t]) (ht : P.underlying t = some .bool) (hall : ∀ t ∈ f.params.toList, P.readableRec t = true ∧ t < P.types.size) (hb : Below W.heap.size W W') : s.post eh P f false true false false W args (.bool true) W' := by
  have hlt := hW.lt
  have hW0 := hW
  obtain ⟨p, q, h1, h2, rfl, h3, h4⟩ := hW
  rw [hvars] at h2
  obtain ⟨rfl, rfl⟩ := ChangeShapes.trodVars_none h2
  obtain ⟨f1, f2, f3⟩ := hfn
  refine ⟨ds, [], _, [], p, [], hW0, ?_, ?_, ?_, ?_, fun h => by cases h⟩
  · rw [f1, hrt]
    exact ⟨[], [], ⟨1, by simp [DataW.trod, ht, Value.cells]⟩, rfl, rfl⟩
  · rw [f2]
    exact trodAll_below hl hb hall h1 (fun x hx => hlt x (List.mem_append_left _ hx))
  · rw [f3, hvars]; rfl
  · exact hb.frame _

theorem fam_calls {f : FuncId} {ι : Type} {A : ι → List V} {ok : ι → Prop} (hS : Spec P f (fam A (fun _ => []) ok (fun _ => ⟨.bool true, []⟩))) (i : ι) (hi : ok i) {W : World} {vs : List Value} (hlen : (A i).length = vs.length)
    (hrd : ∀ (j : Nat) (u : V) (x : Value), (A i)[j]? = some u → vs[j]? = some x → Rd W (fun b => b < W.heap.size) noG u x) : Calls P f vs.toArray W fun e w' => e = .returned (.bool true) ∧ Below W.heap.size W w' := by
  refine (hS.calls (A i) [] ⟨.bool true, []⟩ (fam_eq (fun _ _ _ _ => rfl) i hi) W _ noG vs.toArray (entry_plain W (A i) vs.toArray (by simpa using hlen) (fun j u x h1 h2 => hrd j u x h1 (by simpa using h2)))).mono ?_
  rintro e w' ⟨v, I', γ', rfl, hL⟩
  have hv := hL.rd
  refine ⟨by cases hv; rfl, hL.inv.os, hL.inv.tape, hL.inv.output, hL.inv.size, fun b hb => hL.inv.frame b hb ?_⟩
  rintro ⟨n, gi, h, _⟩
  simp at h

theorem rd_nil {W : World} : ∀ (j : Nat) (u : V) (x : Value), ([] : List V)[j]? = some u → ([] : List Value)[j]? = some x → Rd W (fun b => b < W.heap.size) noG u x := fun j u x h => by simp at h
theorem rd_cons {W : World} {u : V} {x : Value} {us : List V} {xs : List Value} (h : Rd W (fun b => b < W.heap.size) noG u x) (hs : ∀ (j : Nat) (u : V) (x : Value), us[j]? = some u → xs[j]? = some x → Rd W (fun b => b < W.heap.size) noG u x) :
    ∀ (j : Nat) (u' : V) (x' : Value), (u :: us)[j]? = some u' → (x :: xs)[j]? = some x' → Rd W (fun b => b < W.heap.size) noG u' x' := fun j u' x' h1 h2 => by
  cases j with
  | zero => simp at h1 h2; subst h1; subst h2; exact h
  | succ j => exact hs j u' x' (by simpa using h1) (by simpa using h2)

theorem Rd.sl_len {w : World} {I : Nat → Prop} {γ : Nat → Option GI} {t es : Nat} {rows : List (List V)} {v : Value} (h : Rd w I γ (.sl t es rows) v) : rows.length ≤ 9223372036854775807 := by
  cases h with
  | nil => exact Nat.zero_le _
  | sl _ _ _ _ _ n c _ _ _ hlen hnc hcm =>
    have : maxLen = 9223372036854775807 := by decide
    omega
end Go.Lift
