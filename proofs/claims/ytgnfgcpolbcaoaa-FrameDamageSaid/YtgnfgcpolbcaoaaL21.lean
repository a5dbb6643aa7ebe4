/-
  From a law's run over data to a call; what comes in; rows of bytes and of integers.
-/
import Derived.Test.YtgnfgcpolbcaoaaL20
import Derived.Below
namespace Go.Lift

variable {P : Program} {T : TypeId → Option TI} {C : FuncId → List V → List AObj → Option CRes}

open Classical in
/-- A law: true for the arguments that are meant. -/
noncomputable def lawSp (ok : List V → Prop) : List V → List AObj → Option CRes := fun args objs => if objs = [] ∧ ok args then some ⟨.bool true, []⟩ else none

theorem lawSp_some {ok : List V → Prop} {args : List V} {objs : List AObj} {r : CRes} (h : lawSp ok args objs = some r) : objs = [] ∧ ok args ∧ r = ⟨.bool true, []⟩ := by
  unfold lawSp at h
  split at h
  · rename_i hc; cases h; exact ⟨hc.1, hc.2, rfl⟩
  · cases h

theorem law_spec (hT : TypesOk P T) (hC : SpecsOk P C) (hm : P.follows .mixedOrders = true) {f : FuncId} {fn : Func} {c : Code} (hf : P.funcs[f]? = some fn) (hname : (fn.name == "runtime.NumGoroutine") = false) (hb : fn.body = some c) (hd : dstOk fn.ntmps c = true)
    {ok : List V → Prop} (h : ∀ args, ok args → args.length ≤ fn.ntmps ∧ axwp T C 0 c (Ret T fn.results.toList ⟨.bool true, []⟩ 0) (initSt args [])) : Spec P f (lawSp ok) := by
  refine spec_of hT hC hm hf hname hb hd fun args objs r hr => ?_
  obtain ⟨rfl, h1, rfl⟩ := lawSp_some hr
  exact h args h1

theorem entry_plain (W : World) (args : List V) (vs : Array Value) (hlen : args.length = vs.size) (hrd : ∀ (j : Nat) (u : V) (x : Value), args[j]? = some u → vs[j]? = some x → Rd W (fun b => b < W.heap.size) noG u x) :
    Entry W (fun b => b < W.heap.size) noG args [] vs := by
  refine ⟨hlen, hrd, ⟨(fun n o h => by simp at h), (fun n m o o' gi gi' h => by simp at h), (fun n o gi h => by simp at h), (fun n gi h => by cases h), fun b h => h, fun b h => h, fun n gi h => h, fun b h => .inl h, fun b _ _ => rfl, rfl, rfl, rfl, Nat.le_refl _⟩, fun o h => by simp at h⟩

theorem law_calls {f : FuncId} {ok : List V → Prop} (hS : Spec P f (lawSp ok)) {args : List V} (hok : ok args) {W : World} {vs : Array Value} (hlen : args.length = vs.size)
    (hrd : ∀ (j : Nat) (u : V) (x : Value), args[j]? = some u → vs[j]? = some x → Rd W (fun b => b < W.heap.size) noG u x) : Calls P f vs W fun e w' => e = .returned (.bool true) ∧ RowKit.Below W.heap.size W w' := by
  refine (hS.calls args [] ⟨.bool true, []⟩ (by simp [lawSp, hok]) W _ noG vs (entry_plain W args vs hlen hrd)).mono ?_
  rintro e w' ⟨v, I', γ', rfl, hL⟩
  have hv := hL.rd
  refine ⟨by cases hv; rfl, hL.inv.os, hL.inv.tape, hL.inv.output, hL.inv.size, fun b hb => hL.inv.frame b hb ?_⟩
  rintro ⟨n, gi, h, _⟩
  simp at h

def intRow (l : List Int) : List (List V) := l.map fun n => [.int .i64 n]

theorem rd_row {k : IntKind} {w : World} {a : Option Addr} {len cap : Nat} {zs : List Int}
    (h : (a = none ∧ len = 0 ∧ cap = 0 ∧ zs = []) ∨ ∃ x, a = some x ∧ len ≤ cap ∧ cap ≤ maxLen ∧ zs.length = cap ∧ (∀ i, i < zs.length → w.cell? (x.add i) = some (.int k (zs.getD i 0))) ∧ ∀ n ∈ zs, (Lit.int k n).wf = true) :
    (zs.take len).length = len ∧ Rd w (fun b => b < w.heap.size) noG (.sl 2 1 ((zs.take len).map fun n => [.int k n])) (.slice a len cap) := by
  rcases h with ⟨rfl, rfl, rfl, rfl⟩ | ⟨x, rfl, h1, h2, h3, h4, _⟩
  · exact ⟨rfl, .nil _ 2 1 (by decide)⟩
  · have hl : (zs.take len).length = len := by rw [List.length_take]; omega
    refine ⟨hl, ?_⟩
    have hc : ∀ i j u, cellAt ((zs.take len).map fun n => [V.int k n]) i j = some u → i < len ∧ j = 0 ∧ u = .int k (zs.getD i 0) := by
      intro i j u hu
      obtain ⟨r, r1, r2⟩ := cellAt_some hu
      rw [List.getElem?_map] at r1
      cases hz : (zs.take len)[i]? with
      | none => rw [hz] at r1; cases r1
      | some z =>
        rw [hz] at r1; cases r1
        have hi := (List.getElem?_eq_some_iff.1 hz).1
        rw [hl] at hi
        rw [List.getElem?_take, if_pos hi] at hz
        cases j with
        | zero => simp at r2; refine ⟨hi, rfl, ?_⟩; rw [← r2]; simp [hz]
        | succ j => simp at r2
    refine .sl _ 2 1 _ x len cap (fun i _ => .int k (zs.getD i 0)) (by decide) (fun h => by rcases h with h | h <;> cases h) (by simpa using hl) h1 h2 (fun r hr => ?_) (fun i j u hu => ?_) (fun i j u hu => ?_) (fun i j u hu => ?_)
    · obtain ⟨n, _, rfl⟩ := List.mem_map.1 hr; rfl
    · obtain ⟨_, _, rfl⟩ := hc i j u hu; rfl
    · obtain ⟨q1, rfl, rfl⟩ := hc i j u hu
      have hcell := h4 i (by omega)
      rw [Nat.mul_one, Nat.add_zero]
      refine ⟨?_, hcell⟩
      have := World.block_lt_of_cell? w _ hcell
      rw [add_block] at this; exact this
    · obtain ⟨_, _, rfl⟩ := hc i j u hu; exact .int _ _ _

theorem u8_nat (m : Nat) : (UInt8.ofNat m).toNat = m % 256 := by simp
/-- The bytes that numbers are. -/
def bytesIn (zs : List Int) : List UInt8 := zs.map fun n => UInt8.ofNat n.toNat
theorem rd_bytes {w : World} {a : Option Addr} {len cap : Nat} {zs : List Int}
    (h : (a = none ∧ len = 0 ∧ cap = 0 ∧ zs = []) ∨ ∃ x, a = some x ∧ len ≤ cap ∧ cap ≤ maxLen ∧ zs.length = cap ∧ (∀ i, i < zs.length → w.cell? (x.add i) = some (.int .u8 (zs.getD i 0))) ∧ ∀ n ∈ zs, (Lit.int .u8 n).wf = true) :
    (bytesIn (zs.take len)).length = len ∧ Rd w (fun b => b < w.heap.size) noG (.sl 2 1 (byteRow (bytesIn (zs.take len)))) (.slice a len cap) := by
  obtain ⟨h1, h2⟩ := rd_row h
  refine ⟨by simpa [bytesIn] using h1, ?_⟩
  have hwf : ∀ n ∈ zs, 0 ≤ n ∧ n < 256 := by
    rcases h with ⟨_, _, _, rfl⟩ | ⟨x, _, _, _, _, _, hw⟩
    · intro n hn; cases hn
    · intro n hn
      have := hw n hn
      simp [Lit.wf, IntKind.min, IntKind.max, IntKind.bits, IntKind.signed] at this
      omega
  have : byteRow (bytesIn (zs.take len)) = (zs.take len).map fun n => [V.int .u8 n] := by
    unfold byteRow bytesIn
    rw [List.map_map]
    refine List.map_congr_left fun n hn => ?_
    obtain ⟨q1, q2⟩ := hwf n (List.mem_of_mem_take hn)
    have : ((UInt8.ofNat n.toNat).toNat : Int) = n := by rw [u8_nat]; omega
    simp only [Function.comp, this]
  rw [this]; exact h2

theorem wf_i64 {n : Int} (h : (Lit.int .i64 n).wf = true) : -9223372036854775808 ≤ n ∧ n ≤ 9223372036854775807 := by
  simp [Lit.wf, IntKind.min, IntKind.max, IntKind.bits, IntKind.signed] at h
  omega
theorem wf_u64 {n : Int} (h : (Lit.int .u64 n).wf = true) : 0 ≤ n ∧ n ≤ 18446744073709551615 := by
  simp [Lit.wf, IntKind.min, IntKind.max, IntKind.bits, IntKind.signed] at h
  omega

theorem specsOk_of (C : FuncId → List V → List AObj → Option CRes) (h : ∀ f, (∃ args objs r, C f args objs = some r) → Spec P f (C f)) : SpecsOk P C := h

/-! ### Rows of bytes -/
def asBytes : List (List V) → Option (List UInt8)
  | [] => some []
  | e :: r => match e, asBytes r with
    | [.int .u8 n], some l => if ((UInt8.ofNat n.toNat).toNat : Int) = n then some (UInt8.ofNat n.toNat :: l) else none
    | _, _ => none
theorem asBytes_eq : ∀ {r : List (List V)} {l : List UInt8}, asBytes r = some l → r = byteRow l
  | [], l, h => by cases h; rfl
  | e :: r, l, h => by
    simp only [asBytes] at h
    split at h
    · rename_i n l' hl
      split at h
      · rename_i hn
        cases h
        rw [asBytes_eq hl]
        simp only [byteRow, List.map_cons, hn]
      · cases h
    · cases h
@[simp] theorem asBytes_byteRow : ∀ l : List UInt8, asBytes (byteRow l) = some l
  | [] => rfl
  | b :: l => by
    have := asBytes_byteRow l
    simp only [byteRow, List.map_cons] at this ⊢
    simp [asBytes, this]
def asInts : List (List V) → Option (List Int)
  | [] => some []
  | e :: r => match e, asInts r with
    | [.int .i64 n], some l => some (n :: l)
    | _, _ => none
theorem asInts_eq : ∀ {r : List (List V)} {l : List Int}, asInts r = some l → r = intRow l
  | [], l, h => by cases h; rfl
  | e :: r, l, h => by
    simp only [asInts] at h
    split at h
    · rename_i n l' hl
      cases h
      rw [asInts_eq hl]; rfl
    · cases h
@[simp] theorem asInts_intRow : ∀ l : List Int, asInts (intRow l) = some l
  | [] => rfl
  | b :: l => by
    have := asInts_intRow l
    simp only [intRow, List.map_cons] at this ⊢
    simp [asInts, this]
@[simp] theorem bytesOf_byteRow : ∀ l : List UInt8, bytesOf (byteRow l) = some l
  | [] => rfl
  | b :: l => by
    have := bytesOf_byteRow l
    simp only [byteRow, List.map_cons] at this ⊢
    simp [bytesOf, this]
@[simp] theorem byteRow_length (l : List UInt8) : (byteRow l).length = l.length := by simp [byteRow]
@[simp] theorem intRow_length (l : List Int) : (intRow l).length = l.length := by simp [intRow]
theorem byteRow_append (a b : List UInt8) : byteRow (a ++ b) = byteRow a ++ byteRow b := by simp [byteRow]
theorem intRow_append (a b : List Int) : intRow (a ++ b) = intRow a ++ intRow b := by simp [intRow]
@[simp] theorem byteRow_append' (a b : List UInt8) : byteRow a ++ byteRow b = byteRow (a ++ b) := (byteRow_append a b).symm
@[simp] theorem intRow_append' (a b : List Int) : intRow a ++ intRow b = intRow (a ++ b) := (intRow_append a b).symm
@[simp] theorem byteRow_take (l : List UInt8) (n : Nat) : (byteRow l).take n = byteRow (l.take n) := by simp [byteRow, List.map_take]
@[simp] theorem byteRow_drop (l : List UInt8) (n : Nat) : (byteRow l).drop n = byteRow (l.drop n) := by simp [byteRow, List.map_drop]
@[simp] theorem intRow_take (l : List Int) (n : Nat) : (intRow l).take n = intRow (l.take n) := by simp [intRow, List.map_take]
@[simp] theorem intRow_drop (l : List Int) (n : Nat) : (intRow l).drop n = intRow (l.drop n) := by simp [intRow, List.map_drop]
@[simp] theorem byteRow_get' (l : List UInt8) (n : Nat) : (byteRow l)[n]? = (l[n]?).map fun b => [V.int .u8 b.toNat] := by simp [byteRow]
@[simp] theorem intRow_get (l : List Int) (n : Nat) : (intRow l)[n]? = (l[n]?).map fun b => [V.int .i64 b] := by simp [intRow]
@[simp] theorem byteRow_getElem (l : List UInt8) (n : Nat) (h : n < (byteRow l).length) : (byteRow l)[n] = [V.int .u8 (l[n]'(by simpa using h)).toNat] := by simp [byteRow]
@[simp] theorem intRow_getElem (l : List Int) (n : Nat) (h : n < (intRow l).length) : (intRow l)[n] = [V.int .i64 (l[n]'(by simpa using h))] := by simp [intRow]
@[simp] theorem byteRow_isEmpty (l : List UInt8) : (byteRow l).isEmpty = l.isEmpty := by cases l <;> rfl
@[simp] theorem intRow_isEmpty (l : List Int) : (intRow l).isEmpty = l.isEmpty := by cases l <;> rfl
@[simp] theorem scalarRows_byteRow : ∀ l : List UInt8, scalarRows (byteRow l) = true
  | [] => rfl
  | b :: l => by
    have := scalarRows_byteRow l
    simp only [byteRow, List.map_cons] at this ⊢
    simp [scalarRows, this]
@[simp] theorem scalarRows_intRow : ∀ l : List Int, scalarRows (intRow l) = true
  | [] => rfl
  | b :: l => by
    have := scalarRows_intRow l
    simp only [intRow, List.map_cons] at this ⊢
    simp [scalarRows, this]
theorem byteRow_one (b : UInt8) : [[V.int .u8 b.toNat]] = byteRow [b] := rfl
theorem byteRow_int (n : Int) (h0 : 0 ≤ n) (h1 : n < 256) : [[V.int .u8 n]] = byteRow [UInt8.ofNat n.toNat] := by
  have : ((UInt8.ofNat n.toNat).toNat : Int) = n := by rw [u8_nat]; omega
  simp only [byteRow, List.map_cons, List.map_nil, this]

/-! ### Wraps -/
theorem wrap_u64 (x : Int) : IntKind.u64.wrap x = x % 18446744073709551616 := by simp [IntKind.wrap, IntKind.bits, IntKind.signed]
theorem wrap_u64_in {x : Int} (h0 : 0 ≤ x) (h1 : x ≤ 18446744073709551615) : IntKind.u64.wrap x = x := by rw [wrap_u64]; omega
theorem wrap_u8 (x : Int) : IntKind.u8.wrap x = x % 256 := by simp [IntKind.wrap, IntKind.bits, IntKind.signed]
theorem wrap_u8_in {x : Int} (h0 : 0 ≤ x) (h1 : x ≤ 255) : IntKind.u8.wrap x = x := by rw [wrap_u8]; omega
theorem wrap_i64_in {x : Int} (h0 : -9223372036854775808 ≤ x) (h1 : x ≤ 9223372036854775807) : IntKind.i64.wrap x = x := by
  simp [IntKind.wrap, IntKind.bits, IntKind.signed]; omega
theorem wrap_i64 (x : Int) : IntKind.i64.wrap x = if x % 18446744073709551616 ≥ 9223372036854775808 then x % 18446744073709551616 - 18446744073709551616 else x % 18446744073709551616 := by
  simp [IntKind.wrap, IntKind.bits, IntKind.signed]
@[simp] theorem bits_u64 : IntKind.u64.bits = 64 := rfl
@[simp] theorem bits_i64 : IntKind.i64.bits = 64 := rfl
@[simp] theorem bits_u8 : IntKind.u8.bits = 8 := rfl
@[simp] theorem signed_u64 : IntKind.u64.signed = false := rfl
@[simp] theorem signed_i64 : IntKind.i64.signed = true := rfl
@[simp] theorem signed_u8 : IntKind.u8.signed = false := rfl
end Go.Lift
